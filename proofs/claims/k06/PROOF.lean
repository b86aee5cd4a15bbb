import PyProof.Rows.All
import Wide.All
import OpenK.AllK
import Wide.FinOn
import PyProof.EqAt
import KE.KSortTup
import PyProof.EqKinds
import PyProof.TupleCall
import Lean
import PySem.Challenge.RW_ovalfield_k06_points_and_lines
set_option Elab.async false
set_option linter.all false
set_option maxRecDepth 100000
set_option maxHeartbeats 4000000
open Option renaming some→Aa,none→Ae,bind_eq_some_iff→Av,isSome_iff_exists→Ch,isNone_iff_eq_none→DQ,map→Fl,map_some→Ho,bind_some→VQ
open Bool renaming true→Ab,false→Ad,and_eq_true→Al,false_ne_true→At,not_eq_true'→Bm,or_eq_true→BS,eq_iff_iff→DD,or_false→DH,and_false→HL,or_true→ID,and_true→Vp
open _root_ renaming List→Ac,Nat→Af,Int→Ai,Bool→Ak,Option→An,beq_iff_eq→AB,if_pos→AC,decide_eq_true_eq→AD,if_neg→AJ,of_decide_eq_true→AQ,False→AU,Array→Bj,dif_neg→BW,decide_eq_false→Cj,String→CK,beq_eq_false_iff_ne→CP,beq_self_eq_true→Dx,Unit→DL,or_false→EG,decide_eq_true→Fp,Decidable→FQ,ne_true_of_eq_false→Gb,not_or→Gv,bne_iff_ne→GO,if_true→GU,True→G4,ne_eq→KQ
open PySem renaming Str→Ag,Addr→Ah,Value→Aj,Expr→Am,Shared→Ao,starEach→Ar,wpAny_bind→As,wpAny→Aw,World→Az,Pos→AA,Heap→AE,Stmt→AG,Program→AL,Around→AR,mainGlobals→AT,wpAny_mono→A5,wpAny_pure→Bi,backTo→Bu,FuncData→Bv,cLine→BE,Scope→BK,foldedSetIterable→BL,excClassObj→BQ,sizeLine_eq→BZ,wpAny_loadPart_at→B0,binaryOp→B1,Env→Cc,attributeBase→Cd,wpAny_Call_Name_kw→Cm,compareOp→Cu,wpAny_truthy_bool→Cv,mem_of_lookup→Cw,swapsWith→CF,Tok→CI,cellsFrom→CN,bootBuiltins→CU,wpAny_field→CV,CmpOp→C4,Obj→C7,PassesOwn→Dz,codeAny_mono→DA,OwnTail→DF,wpAny_standAt→DK,assignEach→DS,codeAny_call_builtin→DT,noteFrame→DX,wpAny_setField→DZ,NameKind→D0,rawInt→D1,Keyword→D4,wpAny_call→D9,GenState→Ec,codeAny→Ep,ExceptHandler→EH,methodCallPos→EJ,wpAny_holding→EK,wpAny_isSubtype_exc→EO,wpAny_execs_nil→E7,wpAny_passesOwn→E8,Operator→Fb,wpAny_comprehension_free→Fd,wpAny_newObj_type→Fv,keywordEach→FF,strLen_append→FG,bindArgs→FK,checkBuiltinCall→FL,BindsTo→FR,setFlight→FS,Model→FZ,Sem→F0,call_meets→F1,letOwnedTupleGo→F2,typeIs_str→F3,compEnvC→Ge,notedBy→Gf,wpAny_of_eq→Gq,pushCells→Gu,behindInMarks→Gx,wpAny_pyIter_list→GN,OsState→GP,callerA→GQ,ExcBaseFacts→GZ,Paired→G0,Result→G1,backToKw→G2,wpAny_execs_cons→G3,Drawn→Hq,pushCells_keeps→Hv,isTrue→HQ,methodCallForm→HR,newFunctionEnv→HS,recursionLimit→HU,bindC→HW,bindL→HX,builtinsNs→HY,isInstance→HZ,Comprehension→Iz,arm_eval_Call→IC,JoinOk→IK,Within→IP,callSpecial?→IQ,concat_meets→IR,lastMarks→IS,onTheHeap→IT,getAttr→Jq,compPost→Js,handleBy→Jt,PyData→JP,StoreFacts→JR,call→JT,methodCall→JU,sysModules→JV,wpAny_Name→JW,UnaryOp→JX,setAttr→JY,IntMulOk→KU,Params→KW,pyIter→KY,codeAny_call_function→Xh,firstArgMember→Xi,noFill_tuple_add→Xj,pastItsLine_dict→Xk,plainObj_wpAny_Assign_Attribute→Xl,refuseLoop_ref→Xm,wpAny_JoinedStr→Xn,wpAny_assign_Name→Xo,wpAny_callSpecial?_slot→Xp,wpAny_call_entry→Xq,wpAny_loadPart→Xr,wpAny_lookBehind→Xs,wpAny_newFunctionEnv_cells→Xu,wpAny_pyIter_enum→Xv,wpAny_pyIter_tuple→Xx,wpAny_seqItems→Xy
open PySem.Str renaming ofString→Ap,empty→Dm
open PySem.W renaming findIn→Aq,keepIn→Bf,nsIn→Bl,mg_of→Bx,subIn→BB,kitOne→BR,fnOf→BU,specialIn→BY,mroIn→B4,kia_one→B7,looks_findIn→B8,mg_none_of→B9,emptyDict→Ct,callWith_K→CC,isFn→CD,fencedOpening→CG,typeIn→Dd,instObj→Dj,clsIn→Do,codeIn→DY,openEnds→Ee,plainGet→EB,topFrom→EL,findCls→E5,readsIn→E6,hasDictIn→Fu,OpenLaw→FE,plainGet_of→Ga,lookIn→Gd,methodObj→GL,plainOver→GM,makesIn→Hs,takerIn→Ht,takesIn→Hu,kitAny→HP,excIn→IB,WalkO→W5,cellsFrom_some→W6,codeRec_of→W7,handedIn→W8,isNs_of_in→W9,kIn_of→Xa,kitMeta→Xb,kitx_dict→Xc,kitx_list→Xd,looks_subIn→Xe,nsOkIn→Xf,tail_of_in→Xg
open PySem.Heap renaming get?_push_of_some→Ax,lt_size→AK,get?_push_size→Be,get?_update_other→BP,get?_update_self→Ci,get?_none_of_le→CH,size_push→Ds,SameBut→Eo,MadeExcOf→HN,ExtBut→WE,get?_push_at→WH,get?_update_ne→WI
open List renaming mem_cons_of_mem→AF,mem_cons→AH,length_set→AM,mem_cons_self→AO,size_toArray→A6,getElem?_eq_some_iff→A9,length_cons→Ba,mem_append_right→Bh,getElem?_eq_getElem→Bo,mem_singleton→Br,append_nil→BA,getElem?_set_self→BO,lookup→BX,map_cons→B2,all_eq_true→Ca,lookup_cons→Cb,not_mem_nil→Co,length_map→CA,all_cons→CZ,getD_eq_getElem?_getD→C3,length_append→Db,range→Di,any_eq_true→Dr,drop_eq_getElem_cons→DO,isEmpty_eq_false_iff→DP,drop_eq_nil_of_le→Ea,getElem?_map→Em,mem_append_left→Ey,getElem_of_mem→EM,getElem?_append_left→E3,toArray→E9,mem_range→Fk,getElem?_set_self'→Fq,getElem_mem→FH,getElem?_set_ne→FT,mem_filter→FU,mem_of_getElem?→FV,nodup_cons→FW,filterMap_cons→F9,replicate→Gc,contains_cons→Gr,getElem?_set→GJ,filter_cons→GV,mem_append→Hm,of_mem_zip→Hn,map_nil→IG,set_set→IH,all_map→Vw,any_cons→Vx,append_assoc→Vy,contains_eq_mem→VA,ext_getElem?→VB,forIn_nil→VC,getElem?_append_right→VD,getElem?_replicate→VE,length_pos_iff→VF,length_replicate→VG,length_singleton→VH,map_map→VI,reverse_cons→VJ,take_append_drop→VL
open Nat renaming lt_of_lt_of_le→AI,le_refl→AN,ne_of_lt→Bp,lt_irrefl→Bt,le_of_ble_eq_true→BG,le_trans→Cp,ble→CO,zero_le→Dh,lt_of_le_of_lt→D6,lt_succ_self→Ez,mod_eq_of_lt→FJ,le_of_lt→FX,pow_le_pow_right→FY,lt_succ_of_lt→GK,log2_le_self→GW,ne_of_gt→GX,le_succ→Hw,ble_eq→VM,le_of_eq→VN,min_self→VO,not_lt→VP
open False renaming elim→AV
open PySem.W.Fast renaming te10274390034422433532→AX,te14082659384304107361→AY,te14289696077712309145→AZ,te14364793385576792824→A3,te1435165496053646825→A4
open PySem.Value renaming ref→Bc,builtin→Cq,none→CB,bool→HV,int→IM,str→IN,float→Jr,type→JS,bytes→W2
open Option.some renaming inj→Bk,injEq→En
open Int renaming emod_eq_of_lt→Bq,emod_emod_of_dvd→BD,mul_emod→B5,mul_comm→Cf,emod_lt_of_pos→Ck,emod_nonneg→Cz,dvd_refl→CQ,one_mul→CS,zero_emod→CY,mul_one→FC,mul_assoc→Gw,mul_zero→IE,zero_add→IF,add_emod→Vt,sub_emod→Vu,toNat_natCast→Vv
open PySem.NameKind renaming cell→BH,free→DJ
open PySem.Obj renaming data_mapFields→B6,isFreed_of_fields→Dc,mapFields→EI,cls_mapFields→WJ,mapSeq→WK
open Ne renaming symm→Cn
open PySem.F renaming excBase_ValueError→C5,slot_tuple_iterator_next→DI,slot_str_split→Eb,args_str_split_2→Fa,entry_str_split→Fs,attr_ValueError→Ft,args_tuple_add_2→Wt,args_tuple_iterator_next_1→Wu,entry_bexc_ga→Wv,entry_tuple_add→Ww,entry_tuple_iterator_next→Wx,plainAttrs_list→Wy,plainAttrs_str→Wz,slot_list_index→WA,slot_str_join→WB,slot_tuple_add→WC,typeOf_object_class→WD
open PyProof.Rows renaming callWith_type1→Dy,envOfC→D7,boot_isinstance→E4,AllBare→Fn,IntsAre→HM,IsTup→KP,boot_list→VS,boot_str→VT,boot_tuple→VU,subscriptTail_builtinR→VV
open Classical renaming choose_spec→DE,choose→Vr
open PySem.PyData renaming shownAll→DG,depthAll→Hr,hasDictAll→WM,showableAll→WN
open PySem.Builtin.SmallTypes renaming nextOf→DR
open PySem.Builtin.Str renaming occurrences→D3,strKind→EN,partsBetween→VZ,strSliceIndices→V0
open ForInStep renaming yield→D5
open PySem.SeqAt renaming EqAt→D8,RcNeAt→IL,RcAt→JQ
open PySem.Txt renaming join→Ed,split→Fc
open PySem.Calls renaming evalArgs_plain→EA,callWith_builtin→FD,Name_function_global→V1
open True renaming intro→Fo
open PySem.Code renaming quiet_builtin→Gs,isFrame→IJ,frames→V2
open Sum renaming inl→GR,inr→GS
open Prod renaming ext→GY
open PySem.Value.ref renaming inj→IA
open PySem.Around renaming under→II
open NeZero renaming ne→KN
open PySem.Data renaming cell→KO,seq→KS
open Eq renaming trans→KR
open Array renaming find?_toList→Vm,length_toList→Vn,toList→Vo
open Function renaming comp_def→Vs
open List.cons renaming injEq→Vz
open PyProof.Rows.IsTup renaming new→VR
open PySem.Builtin.Int renaming intBits→VW
open PySem.Builtin.ObjectAttr renaming storeInDict→VY
open PySem.EntryCells renaming newEntry→V3
open PySem.Expr renaming Attribute→V4,BinOp→V6,BoolOp→V8,Call→Wa,Compare→Wc,Constant→Wf,List→Wh,ListComp→Wj,Name→Wl,Subscript→Wn,Tuple→Wp,UnaryOp→Wr
open PySem.Expr.Attribute renaming elim→V5
open PySem.Expr.BinOp renaming elim→V7
open PySem.Expr.BoolOp renaming elim→V9
open PySem.Expr.Call renaming elim→Wb
open PySem.Expr.Compare renaming elim→Wd
open PySem.Expr.Constant renaming elim→Wg
open PySem.Expr.List renaming elim→Wi
open PySem.Expr.ListComp renaming elim→Wk
open PySem.Expr.Name renaming elim→Wm
open PySem.Expr.Subscript renaming elim→Wo
open PySem.Expr.Tuple renaming elim→Wq
open PySem.Expr.UnaryOp renaming elim→Ws
open PySem.Heap.Ns1 renaming of_empty→WF
open PySem.Heap.SameBut renaming update→WG
open PySem.Paired renaming length→WL
open PySem.SeqAt.EqAt renaming of_refs→WO,same→WP
open PySem.Stmt renaming Assign→WQ,Expr→WS,Raise→WW,Return→WY
open PySem.Stmt.Assign renaming elim→WR
open PySem.Stmt.Expr renaming elim→WT
open PySem.Stmt.For renaming elim→WU
open PySem.Stmt.If renaming elim→WV
open PySem.Stmt.Raise renaming elim→WX
open PySem.Stmt.Return renaming elim→WZ
open PySem.W.WData renaming int→W3
open PySem.W.WShape renaming has→W4
abbrev Fg:=PySem.W.Frag
abbrev Pn:=Ac (PySem.Addr×PySem.Obj)
abbrev Vq:=PySem.Value->PySem.Shared->Prop
set_option genSizeOfSpec false
section
open PySem PySem.W PyProof.Rows
namespace OvC
set_option genInjectivity false in
structure Eleven (P:Prop) where
 (α1 α2 α3 α4 α5 α6 α7 α8 α9 α10 α11:Type)
 (l1 r1:Az->α1)
 (l2 r2:Az->α2)
 (l3 r3:Az->α3)
 (l4 r4:Az->α4)
 (l5 r5:Az->α5)
 (l6 r6:Az->α6)
 (l7 r7:Az->α7)
 (l8 r8:Az->α8)
 (l9 r9:Az->α9)
 (l10 r10:Az->α10)
 (l11 r11:Az->α11)
 X:Prop
 go:(∀ w,l1 w=r1 w)->(∀ w,l2 w=r2 w)->(∀ w,l3 w=r3 w)->(∀ w,l4 w=r4 w)->(∀ w,l5 w=r5 w)->(∀ w,l6 w=r6 w)->(∀ w,l7 w=r7 w)->(∀ w,l8 w=r8 w)->(∀ w,l9 w=r9 w)->(∀ w,l10 w=r10 w)->(∀ w,l11 w=r11 w)->X->P
theorem map_pair{Y α β:Type}{A:Y->α}{B:Y->β}{r:An Y}{a:α}{b:β}(h1:Fl A r=Aa a)(h2:Fl B r=Aa b):Fl (λs=>(A s,B s)) r=Aa (a,b):=by
 cases r with
 |none=>cases h1
 |some s=>cases h1;cases h2;rfl
theorem map_take{Y α:Type}{B:Y->Ac α}{r:An Y}{v:Ac α}(n:Af)(h1:Fl (λs=>(B s).take n) r=Aa (v.take n))(h2:Fl (λs=>(B s).drop n) r=Aa (v.drop n)):Fl B r=Aa v:=by
 cases r with
 |none=>cases h1
 |some s=>
  have e1:(B s).take n=v.take n:=by injection h1
  have e2:(B s).drop n=v.drop n:=by injection h2
  show Aa (B s)=Aa v;rw[<-VL n (B s),<-VL n v,e1,e2]
end OvC
namespace OvC
noncomputable def tp06(i:Af):AG:=PySem.Challenge.pw_ovalfield_k06_points_and_lines.main.body.getD i (.Pass ⟨0,0,0,0⟩)
end OvC
noncomputable def OvC.view06:PySem.Program:={ PySem.Challenge.pw_ovalfield_k06_points_and_lines with main:={PySem.Challenge.pw_ovalfield_k06_points_and_lines.main with body:=[OvC.tp06 1,OvC.tp06 2,OvC.tp06 3,OvC.tp06 4,OvC.tp06 5,OvC.tp06 6,OvC.tp06 8,OvC.tp06 9,OvC.tp06 11,OvC.tp06 12,OvC.tp06 13,OvC.tp06 14,OvC.tp06 15,OvC.tp06 16,OvC.tp06 17,OvC.tp06 19,OvC.tp06 20,OvC.tp06 21,OvC.tp06 22,OvC.tp06 23,OvC.tp06 24,OvC.tp06 25,OvC.tp06 26,OvC.tp06 27,OvC.tp06 28,OvC.tp06 29,OvC.tp06 30,OvC.tp06 31]} }
set_option hygiene false
local macro_rules | `(tactic| o_head $H)=>`(tactic| refine holds_open (q:=OvC.view06) (loose:=[]) (Xt:=fun s=>xlAt OvC.view06 [] s&&recOk (RowW.records (OpenRow.toRowW (PySem.Challenge.rw_ovalfield_k06_points_and_lines.row))) s) (XP:=XL OvC.view06 []) (Yf:=Hook.obs $H) (Ya:=Hook.val $H) (YP:=Hook.says $H) (N:=5834) ?hl (Hook.of $H) (Hook.keeps $H) (fun s e=>xl_of s (Bool.and_eq_true_iff.mp e).1) XL.keeps (by rfl) (by rfl) (by rfl) (fun s e=>recFacts_of (Bool.and_eq_true_iff.mp e).2) (by rfl) (by first|assumption|decide +kernel) (by decide +kernel) ⟨rfl,rfl,rfl,rfl,rfl,by decide +kernel⟩ ?hw ?hc)
set_option maxRecDepth 100000 in
set_option maxHeartbeats 0 in
noncomputable def OvC.hold06:OvC.Eleven PySem.Challenge.rw_ovalfield_k06_points_and_lines.Holds:=by
 refine' ⟨_,_,_,_,_,_,_,_,_,_,_,_,_,_,_,_,_,_,_,_,_,_,_,_,_,_,_,_,_,_,_,_,_,_,λg1 g2 g3 g4 g5 g6 g7 g8 g9 g10 g11 x=>_⟩
 rotate_right
 w_on;refine holds_law (by decide+kernel) λsaid=>?_;k_head
 (case hl=>intro w;refine OvC.map_pair ?p1 (OvC.map_take 100 ?p2 ?p3);(case p1=>rw[PySem.W.Fast.te4187177175401517315];unfold PySem.W.Fast.tw4187177175401517315 openGood;refine OvC.map_pair ?q1 (OvC.map_pair ?q2 (OvC.map_pair ?q3 (OvC.map_pair ?q4 (OvC.map_pair ?q5 (OvC.map_pair ?q6 (OvC.map_pair ?q7 (OvC.map_pair ?q8 ?q9)))))));(case q1=>unfold Ee CG EL;rw[AX,A3,A4,AZ,AY];exact g1 w);(case q2=>unfold Ee CG EL;rw[AX,A3,A4,AZ,AY];exact g2 w);(case q3=>unfold Ee CG EL;rw[AX,A3,A4,AZ,AY];exact g3 w);(case q4=>unfold Ee CG EL;rw[AX,A3,A4,AZ,AY];exact g4 w);(case q5=>unfold Ee CG EL;rw[AX,A3,A4,AZ,AY];exact g5 w);(case q6=>unfold Ee CG EL;rw[AX,A3,A4,AZ,AY];exact g6 w);(case q7=>unfold Ee CG EL;rw[AX,A3,A4,AZ,AY];exact g7 w);(case q8=>unfold Ee CG EL;rw[AX,A3,A4,AZ,AY];exact g8 w);(case q9=>unfold Ee CG EL;rw[AX,A3,A4,AZ,AY];exact g9 w);skip);(case p2=>unfold Ee CG EL;rw[AX,A3,A4,AZ,AY];exact g10 w);(case p3=>unfold Ee CG EL;rw[AX,A3,A4,AZ,AY];exact g11 w))
 (case hw=>w_witness2)
 k_fill
 revert said
 exact x
theorem OvC.reck06_1(w:Az):OvC.hold06.l1 w=OvC.hold06.r1 w:=by kernel_rfl
theorem OvC.reck06_2(w:Az):OvC.hold06.l2 w=OvC.hold06.r2 w:=by kernel_rfl
theorem OvC.reck06_3(w:Az):OvC.hold06.l3 w=OvC.hold06.r3 w:=by kernel_rfl
theorem OvC.reck06_4(w:Az):OvC.hold06.l4 w=OvC.hold06.r4 w:=by kernel_rfl
theorem OvC.reck06_5(w:Az):OvC.hold06.l5 w=OvC.hold06.r5 w:=by kernel_rfl
theorem OvC.reck06_6(w:Az):OvC.hold06.l6 w=OvC.hold06.r6 w:=by kernel_rfl
theorem OvC.reck06_7(w:Az):OvC.hold06.l7 w=OvC.hold06.r7 w:=by kernel_rfl
theorem OvC.reck06_8(w:Az):OvC.hold06.l8 w=OvC.hold06.r8 w:=by kernel_rfl
theorem OvC.reck06_9(w:Az):OvC.hold06.l9 w=OvC.hold06.r9 w:=by kernel_rfl
theorem OvC.reck06_10(w:Az):OvC.hold06.l10 w=OvC.hold06.r10 w:=by kernel_rfl
theorem OvC.reck06_11(w:Az):OvC.hold06.l11 w=OvC.hold06.r11 w:=by kernel_rfl
end
-- CHANGE: your row's module here,as the last of these rows
namespace L2
open PySem PySem.Spec PyProof.Rows
abbrev Key:=Sum Ai Ag
noncomputable def Up:Key->Aj->Ak
 |.inl k,v=>Value.isInt k v
 |.inr x,v=>Value.isStrOf x v
noncomputable def qD(w:Az):Key->Ai
 |.inl k=>hashInt k
 |.inr x=>hashStr w x
theorem H9:∀{k:Key}{v:Aj},Up k v=Ab->(∃ i t,k=GR i/\v=IM i t)\/(∃ x t,k=GS x/\v=IN x t)
 |.inl i,v,h=>by
  obtain⟨t,e⟩:=Value.isInt_shape (k:=i) (v:=v) h;exact .inl ⟨i,t,rfl,e⟩
 |.inr x,v,h=>by
  obtain⟨t,e⟩:=Value.isStrOf_shape (x:=x) (v:=v) h;exact .inr ⟨x,t,rfl,e⟩
theorem kF(a b:Ai):decide ((GR a:Key)=GR b)=(a==b):=by
 by_cases e:a=b
 .subst e;simp
 .have h:¬ (GR a:Key)=GR b:=λq=>e (Sum.inl.inj q)
  rw[Cj h];exact(CP.mpr e).symm
theorem hJ(a b:Ag):decide ((GS a:Key)=GS b)=decide (a=b):=by
 by_cases e:a=b
 .subst e;simp
 .have h:¬ (GS a:Key)=GS b:=λq=>e (Sum.inr.inj q)
  rw[Cj h,Cj e]
theorem kE(a:Ai)(b:Ag):decide ((GR a:Key)=GS b)=Ad:=Cj (λq=>nomatch q)
theorem hU(a:Ag)(b:Ai):decide ((GS a:Key)=GR b)=Ad:=Cj (λq=>nomatch q)
noncomputable def Os(prog:AL)(w:Az):PySem.KeyKind prog w Key where
 is:=Up
 hash:=qD w
 inj:=λv a b ha hb=>by
  rcases H9 ha with ⟨i,t,rfl,rfl⟩|⟨x,t,rfl,rfl⟩
  .rcases H9 hb with ⟨j,u,rfl,e⟩|⟨y,u,rfl,e⟩
   .injection e with e1 _;rw[e1]
   .exact nomatch e
  .rcases H9 hb with ⟨j,u,rfl,e⟩|⟨y,u,rfl,e⟩
   .exact nomatch e
   .injection e with e1 _;rw[e1]
 byValue:=λk v h=>by
  rcases H9 h with ⟨i,t,rfl,rfl⟩|⟨x,t,rfl,rfl⟩<;>rfl
 pyHash:=λhv h=>by
  rcases H9 hv with ⟨i,t,rfl,rfl⟩|⟨x,t,rfl,rfl⟩
  .exact wpAny_pyHash_int h
  .exact wpAny_pyHash_str h
 eqBool:=λhu hv h=>by
  rcases H9 hu with ⟨i,t,rfl,rfl⟩|⟨x,t,rfl,rfl⟩
  .rcases H9 hv with ⟨j,u,rfl,rfl⟩|⟨y,u,rfl,rfl⟩
   .rw[kF]at h;exact wpAny_eqBool_int h
   .rw[kE]at h;exact SeqAt.EqAt.int_str i t y u _ _ _ _ h
  .rcases H9 hv with ⟨j,u,rfl,rfl⟩|⟨y,u,rfl,rfl⟩
   .rw[hU]at h;exact SeqAt.EqAt.str_int x t j u _ _ _ _ h
   .rw[hJ]at h;exact wpAny_eqBool_str h
 «strs»:=λk x t v h=>by
  rcases H9 h with ⟨i,u,rfl,e⟩|⟨y,u,rfl,e⟩
  .exact nomatch e
  .injection e with e1 _
   subst e1;cases v<;>rfl
end L2
namespace L2
open PySem PySem.Spec PyProof.Rows
variable{us:Ac Aj}{a b it dx C:Ah}{P:AL}{h:AE}{o:C7}{g':Bj Ec}{t' i k n:Af}{d':Hq}{ch fp:Ac Ah}{x qual:Ag}{M:FZ}{u:Aj}{Q:DL->Ao->Prop}{e tg:Am}{s:Ao}{pos p:AA}{pI:Pn}{es:Ac Am}{body:Ac AG}{f:Aj->Aj->F0 Aj}{g:Ai->Ai->Ai}{op:C4}{mA:Ag->An Aj}{pl:F0 Ak}{kw:Ac (Ag×Aj)}{fd:Bv}{ps:Ac Ag}{scope:BK}
inductive V where
 |non|bl (b:Ak)|int (i:Ai)|str (x:Ag)|byt (b:Bj UInt8)|flt (b:UInt64)|ref (a:Ah)|ty (n:CK)
 deriving DecidableEq
variable{xs vs:Ac V}{v y:V}
def Bs:V->Aj->Prop
 |.non,u=>u=CB
 |.bl b,u=>u=HV b
 |.int i,u=>∃ t,u=IM i t
 |.str x,u=>∃ t,u=IN x t
 |.byt b,u=>∃ t,u=W2 b t
 |.flt b,u=>∃ t,u=Jr b t
 |.ref a,u=>u=Bc a
 |.ty n,u=>u=JS n
noncomputable abbrev AW:Ac V->Ac Aj->Prop:=G0 Bs
theorem AW.length(r:AW xs us):xs.length=us.length:=WL r
theorem AW.get:∀{xs:Ac V}{us:Ac Aj}{i:Af}{x:V},AW xs us->xs[i]?=Aa x->∃ u,us[i]?=Aa u/\Bs x u
 |_,_,_,_,.nil,e=>by simp at e
 |_,_,0,_,.cons r _,e=>by simp at e;subst e;exact⟨_,rfl,r⟩
 |_,_,i+1,x,.cons _ t,e=>by
  obtain⟨u,h1,h2⟩:=AW.get (i:=i) (x:=x) t (by simpa using e)
  exact⟨u,by simpa using h1,h2⟩
theorem AW.set{x:V}{u:Aj}(r:Bs x u):∀{xs:Ac V}{us:Ac Aj}(i:Af),AW xs us->AW (xs.set i x) (us.set i u)
 |_,_,_,.nil=>.nil
 |_,_,0,.cons _ t=>.cons r t
 |_,_,i+1,.cons q t=>.cons q (AW.set r i t)
theorem AW.append:∀{xs ys:Ac V}{us ws:Ac Aj},AW xs us->AW ys ws->AW (xs++ys) (us++ws)
 |_,_,_,_,.nil,s=>s
 |_,_,_,_,.cons r t,s=>.cons r (AW.append t s)
theorem AW.take:∀{xs:Ac V}{us:Ac Aj}(n:Af),AW xs us->AW (xs.take n) (us.take n)
 |_,_,0,_=>.nil
 |_,_,_+1,.nil=>.nil
 |_,_,n+1,.cons r t=>.cons r (AW.take n t)
theorem AW.drop:∀{xs:Ac V}{us:Ac Aj}(n:Af),AW xs us->AW (xs.drop n) (us.drop n)
 |_,_,0,r=>r
 |_,_,_+1,.nil=>.nil
 |_,_,n+1,.cons _ t=>AW.drop n t
def Hk:An V->An Aj->Prop
 |some v,Aa u=>Bs v u
 |none,Ae=>G4
 |_,_=>AU
def KV{κ:Type}:Ac (κ×V)->Ac (κ×Aj)->Prop:=G0 fun(p:κ×V)(q:κ×Aj)=>p.1=q.1/\Bs p.2 q.2
noncomputable def kV:Key->V
 |.inl i=>.int i
 |.inr x=>.str x
inductive HO where
 /-- a list -/
 |lst (xs:Ac V)
 /-- a tuple (never changes) -/
 |tup (xs:Ac V)
 /-- a dict whose keys are ints and texts;one whose keys are tuples of ints and texts (the empty one is both) -/
 |dK (kvs:Ac (Key×V))|dT (kvs:Ac (Ac Key×V))
 /-- a set of ints: its members,its size -/
 |set (S:Ai->Ak) (n:Af)
 /-- an instance of the class at C,its dict at dx,its attributes -/
 |ins (C dx:Ah) (fs:Ac (Ag×V))
 /-- the dict of the instance at x -/
 |own (x:Ah)
 /-- the dict of an exception -/
 |xd (fs:Ac (Ag×V))
 /-- a bound method,f of x -/
 |met (f x:Ah)
 /-- a range object lo,lo+1,.. below hi -/
 |rng (lo hi:Ai)
 /-- a thing that is known to the object (the script;a dict while a loop walks it): read,never written while it is so -/
 |frz (o:C7) (u:HO)
 /-- a code object's table -/
 |tbl (ps:Bj Aj)
 /-- any other thing,by what is Ab of its one object (a def of one's own: SetO a S n:=HO.ext fun h=>..) -/
 |ext (φ:AE->Prop)
abbrev Hp:=Ah->An HO
variable{H:Hp}
noncomputable def upd(H:Hp)(a:Ah)(o:HO):Hp:=λb=>if b=a then Aa o else H b
theorem C8{o:HO}:upd H a o a=Aa o:=by unfold upd;rw[AC rfl]
theorem Bb{o:HO}(h:b≠a):upd H a o b=H b:=by unfold upd;rw[AJ h]
theorem Oy{o u:HO}:upd (upd H a o) a u=upd H a u:=by
 funext b;unfold upd;split<;>rfl
theorem FA{o:HO}(h:H a=Aa o)(h':H b=Ae):a≠b:=by
 intro e;subst e;rw[h]at h';cases h'
section
variable(P:AL)(w:Az)
def ObjOk(H:Hp)(h:AE)(a:Ah):HO->Prop
  |.lst xs=>xs.length<=sizeLine/\∃(its:Ac Aj)(n:Af),AW xs its/\h.get? a=Aa { cls:=.type "list",data:=.seq its.toArray n }
  |.tup xs=>xs.length<=sizeLine/\∃ its:Ac Aj,AW xs its/\KP h a its.toArray
  |.dK kvs=>kvs.length<=sizeLine/\(a==JV)=Ad/\∃ vs,KV kvs vs/\h.DictOf (Os P w) a vs
  |.dT kvs=>kvs.length<=sizeLine/\(a==JV)=Ad/\∃ xs:Ac (Ac Key×Ah×Aj),
      G0 (fun(p:Ac Key×V)(q:Ac Key×Ah×Aj)=>p.1=q.1/\H q.2.1=Aa (.tup (p.1.map kV))/\Bs p.2 q.2.2) kvs xs /\
      ∃ o es ep,h.get? a=Aa o/\o.ExactDict/\o.data=.dict es ep/\es.toList=xs.map (entryOfKey (tupleKind (Os P w)))/\(xs.map (·.1)).Nodup
  |.set S n=>h.SetOf (intKind P w) a S n
  |.ins C dx fs=>H dx=Aa (.own a)/\fs.length<=1000/\dx≠a/\h.get? a=Aa (Dj C dx) /\
      ∃ mA,h.Ns1 dx mA/\(∀ f,Hk (fs.lookup f) (mA f))/\IP mA (fs.map (·.1))
  |.own _=>∃ o,h.get? a=Aa o
  |.xd fs=>∃ mA,h.Ns1 a mA/\∀ f,Hk (fs.lookup f) (mA f)
  |.rng lo hi=>∃ t u v,h.get? a=Aa { cls:=.type "range",data:=.fields #[.int lo t,.int hi u,.int 1 v] }
  |.frz o u=>h.get? a=Aa o/\ObjOk H h a u
  |.tbl ps=>h.get? a=Aa {cls:=.none,data:=.fields ps}
  |.met f x=>h.get? a=Aa (GL (.ref f) (.ref x))
  |.ext φ=>φ h/\(∃ o,h.get? a=Aa o)/\∀ h1 h2:AE,φ h1->(∀ o,h1.get? a=Aa o->h2.get? a=Aa o)->φ h2
def HOk(H:Hp)(h:AE):Prop:=∀ a o,H a=Aa o->ObjOk P w H h a o
end
section
variable{P:AL}{w:Az}{H H':Hp}{h h':AE}{a:Ah}{o:HO}
theorem ObjOk.lt(x:ObjOk P w H h a o):a<h.objs.size:=by
 cases o with
 |lst xs=>obtain⟨_,_,_,_,e⟩:=x;exact AK e
 |tup xs=>obtain⟨_,_,_,p⟩:=x;exact p.lt
 |dK kvs=>obtain⟨_,_,_,_,o,_,_,e,_⟩:=x;exact AK e
 |dT kvs=>obtain⟨_,_,_,_,o,_,_,e,_⟩:=x;exact AK e
 |set S n=>obtain⟨o,_,_,_,e,_⟩:=x;exact AK e
 |ins C dx fs=>obtain⟨_,_,_,e,_⟩:=x;exact AK e
 |own y=>obtain⟨_,e⟩:=x;exact AK e
 |xd fs=>obtain⟨_,⟨_,_,_,e,_⟩,_⟩:=x;exact AK e
 |rng lo hi=>obtain⟨_,_,_,e⟩:=x;exact AK e
 |frz ob u=>obtain⟨e,_⟩:=x;exact AK e
 |tbl ps=>exact AK (show h.get? a=Aa _ from x)
 |met f y=>exact AK (show h.get? a=Aa _ from x)
 |ext φ=>obtain⟨_,⟨_,e⟩,_⟩:=x;exact AK e
theorem G0.mapP{α β:Type}{F G:α->β->Prop}:∀{l₁:Ac α}{l₂:Ac β},G0 F l₁ l₂->(∀ a b,F a b->G a b)->G0 G l₁ l₂
 |_,_,.nil,_=>.nil
 |_,_,.cons r t,f=>.cons (f _ _ r) (G0.mapP t f)
theorem ObjOk.stay(x:ObjOk P w H h a o)(k:∀ b u,(b=a\/H b=Aa (.own a))->h.get? b=Aa u->h'.get? b=Aa u)(ho:∀ b,H b=Aa (.own a)->H' b=Aa (.own a))(ht:∀ b xs,H b=Aa (.tup xs)->H' b=Aa (.tup xs)):ObjOk P w H' h' a o:=by
 induction o with
 |lst xs=>obtain⟨z,its,n,r,e⟩:=x;exact⟨z,its,n,r,k _ _ (.inl rfl) e⟩
 |tup xs=>obtain⟨z,its,r,ob,e,c⟩:=x;exact⟨z,its,r,ob,k _ _ (.inl rfl) e,c⟩
 |dK kvs=>obtain⟨z,y,vs,r,ob,es,ep,e,c⟩:=x;exact⟨z,y,vs,r,ob,es,ep,k _ _ (.inl rfl) e,c⟩
 |dT kvs=>
  obtain⟨z,y,xs,r,ob,es,ep,e,c⟩:=x;exact⟨z,y,xs,G0.mapP r λp q z=>⟨z.1,ht _ _ z.2.1,z.2.2⟩,ob,es,ep,k _ _ (.inl rfl) e,c⟩
 |set S n=>obtain⟨ob,es,ep,t,e,c⟩:=x;exact⟨ob,es,ep,t,k _ _ (.inl rfl) e,c⟩
 |ins C dx fs=>
  obtain⟨d,z,ne,e,mA,⟨od,es,ep,e2,c⟩,r⟩:=x;exact⟨ho _ d,z,ne,k _ _ (.inl rfl) e,mA,⟨od,es,ep,k _ _ (.inr d) e2,c⟩,r⟩
 |own y=>obtain⟨ob,e⟩:=x;exact⟨ob,k _ _ (.inl rfl) e⟩
 |xd fs=>obtain⟨mA,⟨od,es,ep,e,c⟩,r⟩:=x;exact⟨mA,⟨od,es,ep,k _ _ (.inl rfl) e,c⟩,r⟩
 |rng lo hi=>obtain⟨t,u,v,e⟩:=x;exact⟨t,u,v,k _ _ (.inl rfl) e⟩
 |frz ob u ih=>obtain⟨e,q⟩:=x;exact⟨k _ _ (.inl rfl) e,ih q⟩
 |tbl ps=>
  have e:h.get? a=Aa {cls:=.none,data:=.fields ps}:=x;show h'.get? a=Aa {cls:=.none,data:=.fields ps};exact k a _ (.inl rfl) e
 |met f y=>
  have e:h.get? a=Aa (GL (.ref f) (.ref y)):=x;show h'.get? a=Aa (GL (.ref f) (.ref y));exact k a _ (.inl rfl) e
 |ext φ=>obtain⟨p,⟨o,e⟩,st⟩:=x;exact⟨st _ _ p λo q=>k _ _ (.inl rfl) q,⟨o,k _ _ (.inl rfl) e⟩,st⟩
theorem HOk.lt(x:HOk P w H h)(e:H a=Aa o):a<h.objs.size:=(x a o e).lt
theorem HOk.fresh(x:HOk P w H h)(e:h.objs.size<=a):H a=Ae:=by
 cases q:H a with
 |none=>rfl
 |some u=>exact absurd (AI (x.lt q) e) (Bt _)
theorem HOk.kept(x:HOk P w H h)(k:∀ b u,h.get? b=Aa u->h'.get? b=Aa u):HOk P w H h':=λa o e=>
 (x a o e).stay (λb u _ q=>k b u q) (λ_ q=>q) λ_ _ q=>q
theorem HOk.laid(x:HOk P w H h)(k:∀ b u,h.get? b=Aa u->h'.get? b=Aa u)(hp:h.objs.size<=a)(new:ObjOk P w (upd H a o) h' a o):HOk P w (upd H a o) h':=λb u e=>by
 have hn:=x.fresh hp;by_cases hb:b=a
 .subst hb;rw[C8]at e;cases e;exact new
 .rw[Bb hb]at e;exact(x b u e).stay (λc v _ q=>k c v q) (λc q=>by rw[Bb (FA q hn)];exact q) λc xs q=>by rw[Bb (FA q hn)];exact q
end
def Rd(H:Hp)(a:Ah)(u:HO):Prop:=H a=Aa u\/∃ o,H a=Aa (.frz o u)
theorem Rd.ok{w:Az}{u:HO}(r:Rd H a u)(x:HOk P w H h):ObjOk P w H h a u:=by
 rcases r with r|⟨o,r⟩
 .exact x a u r
 .obtain⟨_,q⟩:=x a _ r;exact q
def Mut:An HO->Prop
 |some (.lst _)=>G4
 |some (.dK _)=>G4
 |some (.dT _)=>G4
 |some (.set _ _)=>G4
 |some (.ins _ _ _)=>G4
 |some (.ext _)=>G4
 |_=>AU
section
variable{P:AL}{w:Az}{H:Hp}{h h':AE}{x e:Ah}{o':HO}
theorem HOk.write(ok:HOk P w H h)(mu:Mut (H x))(he:e=x\/H e=Aa (.own x))(k:∀ b u,b≠e->h.get? b=Aa u->h'.get? b=Aa u)(heo:∃ u,h'.get? e=Aa u)(new:ObjOk P w (upd H x o') h' x o'):HOk P w (upd H x o') h':=λb u q=>by
 have nown:∀ c y,H c=Aa (.own y)->c≠x:=λc y r z=>by subst z;rw[r]at mu;exact mu
 have ntup:∀ c xs,H c=Aa (.tup xs)->c≠x:=λc xs r z=>by subst z;rw[r]at mu;exact mu
 by_cases hb:b=x
 .subst hb;rw[C8]at q;cases q;exact new
 .rw[Bb hb]at q;by_cases hbe:b=e
  .have q':H b=Aa (.own x):=by
    rcases he with z|z
    .exact absurd (hbe.trans z) hb
    .rw[hbe];exact z
   rw[q]at q';cases q';obtain⟨v,hv⟩:=heo;exact⟨v,by rw[hbe];exact hv⟩
  .refine(ok b u q).stay (λc v hc r=>k c v ?_ r) (λc r=>by rw[Bb (nown c b r)];exact r) λc xs r=>by rw[Bb (ntup c xs r)];exact r
   rcases hc with rfl|hc
   .exact hbe
   .rintro rfl;rcases he with z|z
    .exact nown c b hc z
    .rw[hc]at z;cases z;exact hb rfl
end
structure Un (fs ex:Ac Ah) (H H':Hp) (h h':AE):Prop where
 keep:∀ b o,h.get? b=Aa o->H b=Ae->b∉fs->b∉ex->h'.get? b=Aa o
 slot:∀ b o,h.get? b=Aa o->H b=Ae->b∈fs->b∉ex->∃ sl,h'.get? b=Aa {o with slots:=sl}
 free:∀ b o,h.get? b=Aa o->H b=Ae->b∉ex->H' b=Ae
 there:∀ b o,h.get? b=Aa o->b∉ex->∃ o',h'.get? b=Aa o'
 tups:∀ b xs,H b=Aa (.tup xs)->H' b=Aa (.tup xs)
 frzs:∀ b o u,H b=Aa (.frz o u)->H' b=Aa (.frz o u)
 tbls:∀ b ps,H b=Aa (.tbl ps)->∃ more,H' b=Aa (.tbl (ps++more))
section
variable{fs fs' ex ex':Ac Ah}{H H1 H2:Hp}{h h1 h2 h':AE}{a x e:Ah}{o:HO}
theorem Un.any(u:Un fs ex H H1 h h1){ob:C7}(q:h.get? b=Aa ob)(n:H b=Ae)(hx:b∉ex):∃ sl,h1.get? b=Aa {ob with slots:=sl}:=by
 by_cases hb:b∈fs
 .exact u.slot b ob q n hb hx
 .exact⟨ob.slots,u.keep b ob q n hb hx⟩
theorem Un.kept(k:∀ b u,h.get? b=Aa u->h'.get? b=Aa u):Un fs ex H H h h':=
 ⟨λb ob q _ _ _=>k b ob q,λb ob q _ _ _=>⟨ob.slots,k b ob q⟩,λ_ _ _ n _=>n,λb ob q _=>⟨ob,k b ob q⟩,λ_ _ q=>q,λ_ _ _ q=>q,λ_ ps q=>⟨#[],by rw[q];simp⟩⟩
theorem Un.refl:Un fs ex H H h h:=Un.kept λ_ _ q=>q
theorem Un.laid(k:∀ b u,h.get? b=Aa u->h'.get? b=Aa u)(hp:h.objs.size<=a)(hn:H a=Ae):Un fs ex H (upd H a o) h h' where
 keep:=λb u q _ _ _=>k b u q
 slot:=λb u q _ _ _=>⟨u.slots,k b u q⟩
 free:=λb u q n _=>by rw[Bb (Bp (AI (AK q) hp))];exact n
 there:=λb u q _=>⟨u,k b u q⟩
 tups:=λb xs q=>by rw[Bb (FA q hn)];exact q
 frzs:=λb u xs q=>by rw[Bb (FA q hn)];exact q
 tbls:=λb ps q=>⟨#[],by rw[Bb (FA q hn),q];simp⟩
theorem Un.write(mu:Mut (H x))(he:e=x\/H e=Aa (.own x))(k:∀ b u,b≠e->h.get? b=Aa u->h'.get? b=Aa u)(heo:∃ u,h'.get? e=Aa u):Un fs ex H (upd H x o) h h':=by
 have hx:∀ b,H b=Ae->b≠x:=λb n z=>by subst z;rw[n]at mu;exact mu
 have hb:∀ b,H b=Ae->b≠e:=λb n z=>by
  subst z;rcases he with r|r
  .exact hx b n r
  .rw[n]at r;cases r
 have hm:∀ b u,H b=Aa u->¬ Mut (Aa u)->b≠x:=λb u q nm z=>by subst z;rw[q]at mu;exact nm mu
 refine⟨λb u q n _ _=>k b u (hb b n) q,λb u q n _ _=>⟨u.slots,k b u (hb b n) q⟩,λb u q n _=>by rw[Bb (hx b n)];exact n,λb u q _=>?_,
  λb xs q=>by rw[Bb (hm b _ q λz=>z)];exact q,λb u xs q=>by rw[Bb (hm b _ q λz=>z)];exact q,λb ps q=>⟨#[],by rw[Bb (hm b _ q λz=>z),q];simp⟩⟩
 by_cases hbe:b=e
 .subst hbe;exact heo
 .exact⟨u,k b u hbe q⟩
end
noncomputable def trk(h:AE)(H:Hp):Ac Ah:=(Di h.objs.size).filter λa=>(H a).isSome
noncomputable def Iw(h:AE)(H:Hp):AE:=PySem.W.hideAll h (trk h H)
theorem YF(h:AE)(H:Hp):(Iw h H).objs.size=h.objs.size:=PySem.W.hideAll_size _ _
theorem ZD(e:h.get? b=Aa o)(n:H b=Ae):(Iw h H).get? b=Aa o:=
 PySem.W.hideAll_get _ e λhm=>by
  have q:(H b).isSome=Ab:=(FU.mp hm).2;rw[n]at q;simp at q
theorem cP(e:(Iw h H).get? b=Aa o):h.get? b=Aa o/\H b=Ae:=by
 have e':h.get? b=Aa o:=PySem.W.of_hideAll (trk h H) e;refine⟨e',?_⟩;cases q:H b with
 |none=>rfl
 |some x=>
  have hm:b∈trk h H:=FU.mpr ⟨Fk.mpr (AK e'),by simp[q]⟩
  have z:(Iw h H).get? b=Ae:=PySem.W.hideAll_none (trk h H) hm;rw[z]at e;cases e
noncomputable def eL(g h:AE)(L:Ah):Pn:=(Di h.objs.size).filterMap λa=>if a=L\/(g.get? a).isSome=Ab then Ae else (h.get? a).map λo=>(a,o)
noncomputable def rest(g h:AE)(L d:Ah):Pn:=(eL g h L).filter λp=>decide (p.1≠d)
structure Mod (K:Fg) (mg:Ag->An Aj) (base:AE):Prop where
 kin:K.In base
 glob:base.Ns AT mg
 blt:∃ mb,base.Ns HY mb/\∀ x:Ag,x≠"__name__"->mb x=CU x
 nolimit:base.NoLimit
structure Cx where
 prog:AL
 w:Az
 K:Fg
 mg:Ag->An Aj
 base:AE
 A:AR
 N:Ac Ag
 s₀:Ao
 H₀:Hp
 env:Cc
 outer:Ac Cc
 stack:Ac Cc
 ex:Ac Ah
 fn:Ag->Ak
 calm:Ak
 pn:Pn
 xe:Aj->Ao->Prop
variable{X:Cx}
noncomputable def frs(l:Ac Cc):Ac Ah:=l.filterMap (·.frame)
noncomputable abbrev Cx.fs(X:Cx):Ac Ah:=frs X.outer
def Vis(sc:BK)(x:Ag):Prop:=sc.names.lookup x=Aa .local\/sc.names.lookup x=Aa .cell\/sc.names.lookup x=Aa .free
def Loc(sc:BK)(x:Ag):Prop:=sc.names.lookup x=Aa .local\/sc.names.lookup x=Aa .cell
noncomputable def XG(env:Cc)(h:AE)(m:Ag->An Aj)(x:Ag)(u:Aj):Prop:=
 (env.kindOf x=Aa .local/\m x=Aa u)\/((env.kindOf x=Aa .cell\/env.kindOf x=Aa .free)/\∃ c,env.cells.lookup x=Aa c/\h.IsCell c (Aa u))
structure Cx.Ok (X:Cx):Prop where
 mod:Mod X.K X.mg X.base
 kind:X.env.scope.kind=.function
 glob:X.env.globals=AT
 blt:X.env.builtins=HY
 above:X.s₀.heap.objs.size<=X.env.locals
 inj:∀ x y c,X.env.cells.lookup x=Aa c->X.env.cells.lookup y=Aa c->x=y
 has:∀ x,(X.env.kindOf x=Aa .cell\/X.env.kindOf x=Aa .free)->∃ c,X.env.cells.lookup x=Aa c
 cab:∀ x c,X.fn x=Ab->X.env.cells.lookup x=Aa c->X.s₀.heap.objs.size<=c
 hd:X.calm=Ab->X.A.handled=Ae
 frames:X.A.frames=Aa X.stack
 stk:X.stack=X.outer\/(X.stack=X.env::X.outer/\X.env.frame=Aa X.env.locals)
 exf:∀ b∈X.ex,b≠X.env.locals/\∀ x c,X.env.cells.lookup x=Aa c->c≠b
 bs:∀ b o,X.base.get? b=Aa o->X.s₀.heap.get? b=Aa o/\X.H₀ b=Ae
 bsz:X.base.objs.size<=X.s₀.heap.objs.size
 noex:∀ b o,X.base.get? b=Aa o->b∉X.ex
 exfs:∀ b∈X.ex,b∉X.fs
 funs:X.s₀.heap.FunFrames X.base X.outer
 frf:∀ b∈X.fs,X.H₀ b=Ae
structure Inv (X:Cx) (pI:Pn) (Y:Ac (An V)) (H:Hp) (s:Ao):Prop where
 ok:X.Ok
 os:s.os=X.s₀.os
 bare:Fn s.gens
 base:Un X.fs X.ex X.H₀ H X.s₀.heap s.heap
 loc:∃ m,s.heap.Ns X.env.locals m/\∀(i:Af)(x:Ag)(v:V),X.N[i]?=Aa x->Y[i]?=Aa (Aa v)->Vis X.env.scope x->∃ u,Bs v u/\XG X.env s.heap m x u
 cell:∀ x c,X.env.cells.lookup x=Aa c->∃ v,s.heap.IsCell c v
 free:H X.env.locals=Ae
 freeC:∀ x c,X.env.cells.lookup x=Aa c->H c=Ae
 pin:∀ p∈X.pn++pI,s.heap.get? p.1=Aa p.2/\H p.1=Ae/\p.1≠X.env.locals/\p.1∉X.fs/\∀ v,p.2.data≠.cell v
 hok:HOk X.prog X.w H s.heap
 len:Y.length=X.N.length
section
variable{X:Cx}{pI:Pn}{Y:Ac (An V)}{H H':Hp}{s:Ao}{h':AE}
theorem Cx.Ok.nofr(ok:X.Ok)(e:X.base.get? b=Aa o):b∉X.fs:=λhb=>by
 have:=(ok.funs.mem hb).1;rw[e]at this;cases this
theorem Inv.bs(I:Inv X pI Y H s):∀ b o,X.base.get? b=Aa o->s.heap.get? b=Aa o/\H b=Ae:=λb o e=>
 ⟨I.base.keep b o (I.ok.bs b o e).1 (I.ok.bs b o e).2 (I.ok.nofr e) (I.ok.noex b o e),I.base.free b o (I.ok.bs b o e).1 (I.ok.bs b o e).2 (I.ok.noex b o e)⟩
theorem Inv.bk(I:Inv X pI Y H s):∀ b o,X.base.get? b=Aa o->s.heap.get? b=Aa o:=λb o e=>(I.bs b o e).1
theorem Inv.mod(I:Inv X pI Y H s):Mod X.K X.mg X.base:=I.ok.mod
theorem Inv.kIn(I:Inv X pI Y H s):X.K.In s.heap:=I.ok.mod.kin.keeps I.bk
theorem Inv.lt(I:Inv X pI Y H s):X.env.locals<s.heap.objs.size:=let ⟨_,hn,_⟩:=I.loc;hn.lt
theorem Inv.sz(I:Inv X pI Y H s):X.s₀.heap.objs.size<=s.heap.objs.size:=Cp I.ok.above (FX I.lt)
theorem Inv.nofs(I:Inv X pI Y H s)(h:s.heap.objs.size<=a):a∉X.fs:=λhb=>by
 obtain⟨_,o,ho,_⟩:=I.ok.funs.mem hb;exact absurd (AI (AK ho) (Cp I.sz h)) (Bt _)
theorem Inv.cne(I:Inv X pI Y H s):∀ x c,X.env.cells.lookup x=Aa c->c≠X.env.locals:=λx c e z=>by
 obtain⟨v,o,ho,hd⟩:=I.cell x c e;obtain⟨m,⟨o',es,ep,ho',hd',_⟩,_⟩:=I.loc;rw[z,ho']at ho;cases ho;rw[hd']at hd;cases hd
theorem Inv.funs(I:Inv X pI Y H s):s.heap.FunFrames X.base X.outer:=by
 have all:∀(l:Ac Cc),(∀ b∈frs l,b∈X.fs)->X.s₀.heap.FunFrames X.base l->s.heap.FunFrames X.base l:=by
  intro l
  induction l with
  |nil=>intro _ _;trivial
  |cons env r ih=>
   intro hs hl;obtain⟨hk,⟨L,o,hf,hn,ho,hd⟩,hr⟩:=hl;have hL:L∈X.fs:=hs L (by unfold frs;rw[F9,hf];exact AO)
   obtain⟨sl,e⟩:=I.base.slot L o ho (I.ok.frf L hL) hL λz=>I.ok.exfs L z hL
   exact⟨hk,⟨L,_,hf,hn,e,hd⟩,ih (λb hb=>hs b (by unfold frs;rw[F9,hf];exact AF _ hb)) hr⟩
 exact all X.outer (λ_ hb=>hb) I.ok.funs
theorem Inv.stack(I:Inv X pI Y H s):s.heap.FunFrames X.base X.stack:=by
 rcases I.ok.stk with e|⟨e,hf⟩
 .rw[e];exact I.funs
 .rw[e];obtain⟨m,hn,_⟩:=I.loc;refine .cons (by rw[I.ok.kind];decide) hf hn ?_ I.funs
  exact CH (Cp I.ok.bsz I.ok.above)
theorem Inv.stkSub(I:Inv X pI Y H s):∀ b∈frs X.stack,b∈X.env.locals::X.fs:=λb hb=>by
 rcases I.ok.stk with e|⟨e,hf⟩
 .rw[e]at hb;exact AF _ hb
 .rw[e]at hb;unfold frs at hb;rw[F9,hf]at hb;exact hb
theorem Inv.stkFree(I:Inv X pI Y H s):∀ b∈frs X.stack,H b=Ae:=λb hb=>by
 rcases AH.mp (I.stkSub b hb) with e|hb
 .rw[e];exact I.free
 .obtain⟨_,o,ho,_⟩:=I.ok.funs.mem hb;exact I.base.free b o ho (I.ok.frf b hb) λz=>I.ok.exfs b z hb
theorem Inv.step(I:Inv X pI Y H s)(hch:∀ b∈ch,(b∈X.ex\/X.s₀.heap.objs.size<=b)/\b≠X.env.locals/\(∀ x c,X.env.cells.lookup x=Aa c->c≠b)/\∀ p∈X.pn++pI,p.1≠b)(keep:∀ b o,b≠X.env.locals->b∉X.fs->b∉ch->s.heap.get? b=Aa o->H b=Ae->h'.get? b=Aa o)(slot:∀ b o,b≠X.env.locals->b∈X.fs->b∉ch->s.heap.get? b=Aa o->H b=Ae->∃ sl,h'.get? b=Aa {o with slots:=sl})(free:∀ b o,b∉ch->s.heap.get? b=Aa o->H b=Ae->H' b=Ae)(there:∀ b o,b∉ch->s.heap.get? b=Aa o->∃ o',h'.get? b=Aa o')(tups:∀ b xs,H b=Aa (.tup xs)->H' b=Aa (.tup xs))(frzs:∀ b o u,H b=Aa (.frz o u)->H' b=Aa (.frz o u))(tbls:∀ b ps,H b=Aa (.tbl ps)->∃ more,H' b=Aa (.tbl (ps++more)))(ns:∀ m,s.heap.Ns X.env.locals m->h'.Ns X.env.locals m)(hok:HOk X.prog X.w H' h')(hg:Fn g'):Inv X pI Y H' {s with heap:=h',gens:=g',drawn:=d',toks:=t'}:=by
 have neL:∀ b o,X.s₀.heap.get? b=Aa o->b≠X.env.locals:=λb o e=>Bp (AI (AK e) I.ok.above)
 have neC:∀ b o,X.s₀.heap.get? b=Aa o->b∉X.ex->b∉ch:=λb o e hx hb=>by
  rcases (hch b hb).1 with z|z
  .exact hx z
  .exact absurd (AI (AK e) z) (Bt _)
 have cellK:∀ x c,X.env.cells.lookup x=Aa c->∀ v,s.heap.IsCell c v->h'.IsCell c v:=λx c e v ⟨o,ho,hd⟩=>by
  have nch:c∉ch:=λz=>(hch c z).2.2.1 x c e rfl
  by_cases hc:c∈X.fs
  .obtain⟨sl,q⟩:=slot c o (I.cne x c e) hc nch ho (I.freeC x c e);exact⟨_,q,hd⟩
  .exact⟨o,keep c o (I.cne x c e) hc nch ho (I.freeC x c e),hd⟩
 refine⟨I.ok,I.os,hg,⟨λb o e n hb hx=>?_,λb o e n hb hx=>?_,λb o e n hx=>?_,λb o e hx=>?_,λb xs e=>tups b xs (I.base.tups b xs e),λb o xs e=>frzs b o xs (I.base.frzs b o xs e),λb ps e=>?_⟩,?_,λx c e=>?_,?_,λx c e=>?_,λp hp=>?_,hok,I.len⟩
 .exact keep b o (neL b o e) hb (neC b o e hx) (I.base.keep b o e n hb hx) (I.base.free b o e n hx)
 .obtain⟨sl,e1⟩:=I.base.slot b o e n hb hx;obtain⟨sl',e2⟩:=slot b _ (neL b o e) hb (neC b o e hx) e1 (I.base.free b o e n hx);exact⟨sl',e2⟩
 .obtain⟨o',e1⟩:=I.base.there b o e hx;exact free b o' (neC b o e hx) e1 (I.base.free b o e n hx)
 .obtain⟨o',e1⟩:=I.base.there b o e hx;exact there b o' (neC b o e hx) e1
 .obtain⟨m1,e1⟩:=I.base.tbls b ps e;obtain⟨m2,e2⟩:=tbls b _ e1;exact⟨m1++m2,by rw[e2,Array.append_assoc]⟩
 .obtain⟨m,hn,hl⟩:=I.loc;refine⟨m,ns m hn,λi x v e1 e2 e3=>?_⟩
  obtain⟨u,r,l⟩:=hl i x v e1 e2 e3;refine⟨u,r,?_⟩;rcases l with l|⟨k,c,e,z⟩
  .exact .inl l
  .exact .inr ⟨k,c,e,cellK x c e _ z⟩
 .obtain⟨v,z⟩:=I.cell x c e;exact⟨v,cellK x c e v z⟩
 .obtain⟨m,⟨o,_,_,ho,_⟩,_⟩:=I.loc;exact free _ o (λz=>(hch _ z).2.1 rfl) ho I.free
 .obtain⟨v,o,ho,hd⟩:=I.cell x c e;exact free c o (λz=>(hch c z).2.2.1 x c e rfl) ho (I.freeC x c e)
 .obtain⟨e,n,ne,nf,d⟩:=I.pin p hp;have nch:p.1∉ch:=λz=>(hch p.1 z).2.2.2 p hp rfl
  exact⟨keep p.1 p.2 ne nf nch e n,free p.1 p.2 nch e n,ne,nf,d⟩
theorem Inv.un(I:Inv X pI Y H s)(u:Un X.fs [] H H' s.heap h')(hok:HOk X.prog X.w H' h'):Inv X pI Y H' {s with heap:=h',toks:=t'}:=by
 obtain⟨m,⟨o,es,ep,ho,r⟩,_⟩:=id I.loc;obtain⟨sl,hL⟩:=u.any ho I.free (by simp)
 exact I.step (g':=s.gens) (d':=s.drawn) (ch:=[]) (λ_ z=>nomatch z) (λb o _ hb _ e n=>u.keep b o e n hb (by simp)) (λb o _ hb _ e n=>u.slot b o e n hb (by simp)) (λb o _ e n=>u.free b o e n (by simp)) (λb o _ e=>u.there b o e (by simp)) u.tups u.frzs u.tbls (λm' hm=>by
  obtain⟨o',es',ep',ho',r'⟩:=hm;rw[ho]at ho';cases ho';exact⟨_,es',ep',hL,r'⟩) hok I.bare
theorem Inv.call(I:Inv X pI Y H s)(u:Un (frs X.stack) ch H H' s.heap h')(hok:HOk X.prog X.w H' h')(hg:Fn g')(hch:∀ b∈ch,(b∈X.ex\/X.s₀.heap.objs.size<=b)/\b≠X.env.locals/\(∀ x c,X.env.cells.lookup x=Aa c->c≠b)/\∀ p∈X.pn++pI,p.1≠b):Inv X pI Y H' {s with heap:=h',gens:=g',drawn:=d',toks:=t'}:=by
 obtain⟨m,⟨o,es,ep,ho,r⟩,_⟩:=id I.loc;obtain⟨sl,hL⟩:=u.any ho I.free λz=>(hch _ z).2.1 rfl
 exact I.step (ch:=ch) hch (λb o hL hb hc e n=>u.keep b o e n (λz=>(AH.mp (I.stkSub b z)).elim hL hb) hc) (λb o _ _ hc e n=>u.any e n hc) (λb o hc e n=>u.free b o e n hc) (λb o hc e=>u.there b o e hc) u.tups u.frzs u.tbls (λm' hm=>by
  obtain⟨o',es',ep',ho',r'⟩:=hm;rw[ho]at ho';cases ho';exact⟨_,es',ep',hL,r'⟩) hok hg
theorem Inv.turned(I:Inv X pI Y H s)(k:∀ b o,b≠it->s.heap.get? b=Aa o->h'.get? b=Aa o)(hn:H it=Ae)(hL:it≠X.env.locals)(h1:it∈X.ex\/X.s₀.heap.objs.size<=it)(h2:∀ x c,X.env.cells.lookup x=Aa c->c≠it)(h3:∀ p∈X.pn++pI,p.1≠it):Inv X pI Y H {s with heap:=h',toks:=t'}:=by
 have nit:∀ b u,H b=Aa u->b≠it:=λb u e z=>by rw[z,hn]at e;cases e
 refine I.step (g':=s.gens) (d':=s.drawn) (ch:=[it]) (λb hb=>?_) (λb o _ _ hc e _=>k b o (λz=>hc (by simp[z])) e) (λb o _ _ hc e _=>⟨o.slots,k b o (λz=>hc (by simp[z])) e⟩) (λ_ _ _ _ n=>n)
  (λb o hc e=>⟨o,k b o (λz=>hc (by simp[z])) e⟩) (λ_ _ e=>e) (λ_ _ _ e=>e) (λb ps e=>⟨#[],by rw[e];simp⟩) (λm hm=>?_) (λb u e=>?_) I.bare
 .have e:b=it:=by simpa using hb
  subst e;exact⟨h1,hL,h2,h3⟩
 .obtain⟨o,es,ep,ho,r⟩:=hm;exact⟨o,es,ep,k _ o (Cn hL) ho,r⟩
 .refine(I.hok b u e).stay (λc v hc q=>k c v ?_ q) (λ_ q=>q) λ_ _ q=>q
  rcases hc with z|z
  .rw[z];exact nit b u e
  .exact nit c _ z
theorem Inv.tok(I:Inv X pI Y H s)(t:Af):Inv X pI Y H {s with toks:=t}:=I.un (h':=s.heap) (t':=t) Un.refl I.hok
theorem Inv.kept{t':Af}(I:Inv X pI Y H s)(k:∀ b u,s.heap.get? b=Aa u->h'.get? b=Aa u):Inv X pI Y H {s with heap:=h',toks:=t'}:=I.un (Un.kept k) (I.hok.kept k)
theorem Inv.laid{a:Ah}{o:HO}{t':Af}(I:Inv X pI Y H s)(k:∀ b u,s.heap.get? b=Aa u->h'.get? b=Aa u)(hp:s.heap.objs.size<=a)(new:ObjOk X.prog X.w (upd H a o) h' a o):Inv X pI Y (upd H a o) {s with heap:=h',toks:=t'}:=I.un (Un.laid k hp (I.hok.fresh hp)) (I.hok.laid k hp new)
theorem Inv.write{x e:Ah}{o:HO}{t':Af}(I:Inv X pI Y H s)(mu:Mut (H x))(he:e=x\/H e=Aa (.own x))(k:∀ b u,b≠e->s.heap.get? b=Aa u->h'.get? b=Aa u)(heo:∃ u,h'.get? e=Aa u)(new:ObjOk X.prog X.w (upd H x o) h' x o):Inv X pI Y (upd H x o) {s with heap:=h',toks:=t'}:=I.un (Un.write mu he k heo) (I.hok.write mu he k heo new)
theorem Inv.pins_of{pins':Pn}(I:Inv X pI Y H s)(h:∀ p∈pins',s.heap.get? p.1=Aa p.2/\H p.1=Ae/\p.1≠X.env.locals/\p.1∉X.fs/\∀ v,p.2.data≠.cell v):Inv X pins' Y H s:=
 ⟨I.ok,I.os,I.bare,I.base,I.loc,I.cell,I.free,I.freeC,λp hp=>(Hm.mp hp).elim (λz=>I.pin p (Ey _ z)) (h p),I.hok,I.len⟩
theorem Oe{N:Ac Ag}(hN:N.Nodup){j:Af}(a:N[i]?=Aa x)(b:N[j]?=Aa x):i=j:=by
 obtain⟨h1,e1⟩:=A9.mp a;obtain⟨h2,e2⟩:=A9.mp b;exact(List.getElem_inj hN).mp (e1.trans e2.symm)
theorem QQ{A:AR}{E:Vq}(I:Inv X pI Y H s)(hN:X.N.Nodup)(hi:X.N[i]?=Aa x)(hx:Loc X.env.scope x)(r:Bs v u)(h:∀ s',Inv X pI (Y.set i (Aa v)) H s'->(∃ a,Eo a s.heap s'.heap/\(a=X.env.locals\/X.env.cells.lookup x=Aa a))->Q () s')(hf:X.fn x=Ab\/X.env.scope.names.lookup x=Aa .local:=by first|exact .inl rfl|exact .inr rfl|assumption):Aw M A (storeName X.env x u) Q E s:=by
 obtain⟨m,hn,hl⟩:=id I.loc;have hcls:(X.env.scope.kind==.class||(X.env.scope.kind==.module&&X.env.locals != X.env.globals))=Ad:=by rw[I.ok.kind];rfl
 have hiσ:i<Y.length:=by rw[I.len];exact(A9.mp hi).1
 have cne:=I.cne;have tracked:∀{a:Ah}{h':AE},(∃ o,s.heap.get? a=Aa o/\H a=Ae)->Eo a s.heap h'->HOk X.prog X.w H h':=λ{a h'} ha hs b ob e=>by
  obtain⟨_,_,hfree⟩:=ha;refine(I.hok b ob e).stay (λc w' hc q=>(hs.2 c ?_).trans q) (λ_ q=>q) λ_ _ q=>q
  rintro rfl;rcases hc with rfl|hc
  .rw[hfree]at e;cases e
  .rw[hfree]at hc;cases hc
 rcases hx with hk|hk
 .refine wpAny_storeName_local hk hn (λh' hn' hs=>?_) hcls
  obtain⟨oL,_,_,hoL,_⟩:=id hn;refine h _ ⟨I.ok,I.os,I.bare,⟨λb o e n hb hx=>?_,λb o e n hb hx=>?_,I.base.free,λb o e hx=>?_,I.base.tups,I.base.frzs,I.base.tbls⟩,⟨_,hn',λj y v' e1 e2 e3=>?_⟩,λy c e=>?_,I.free,I.freeC,λp hp=>?_,tracked ⟨oL,hoL,I.free⟩ hs,by simpa using I.len⟩ ⟨_,hs,.inl rfl⟩
  .exact(hs.2 b (Bp (AI (AK e) I.ok.above))).trans (I.base.keep b o e n hb hx)
  .obtain⟨sl,e1⟩:=I.base.slot b o e n hb hx;exact⟨sl,(hs.2 b (Bp (AI (AK e) I.ok.above))).trans e1⟩
  .obtain⟨o',e1⟩:=I.base.there b o e hx;exact⟨o',(hs.2 b (Bp (AI (AK e) I.ok.above))).trans e1⟩
  .by_cases hj:j=i
   .subst hj;rw[hi]at e1;cases e1;rw[BO hiσ]at e2;cases e2;exact⟨u,r,.inl ⟨hk,by simp⟩⟩
   .rw[FT (Cn hj)]at e2;obtain⟨u',r',q⟩:=hl j y v' e1 e2 e3;refine⟨u',r',?_⟩;rcases q with ⟨k,e⟩|⟨k,c,e,z⟩
    .refine .inl ⟨k,?_⟩;have:y≠x:=λe=>hj (Oe hN e1 (e ▸ hi))
     simp[this,e]
    .exact .inr ⟨k,c,e,z.sameBut hs (cne y c e)⟩
  .obtain⟨w',z⟩:=I.cell y c e;exact⟨w',z.sameBut hs (cne y c e)⟩
  .obtain⟨e,n,ne,nf,d⟩:=I.pin p hp;exact⟨(hs.2 p.1 ne).trans e,n,ne,nf,d⟩
 .have hfn:X.fn x=Ab:=by
   rcases hf with z|z
   .exact z
   .rw[z]at hk;cases hk
  obtain⟨c,hc⟩:=I.ok.has x (.inl hk);obtain⟨w',z⟩:=I.cell x c hc;refine wpAny_storeName_cell I.ok.kind hk hc z (λh' hc' hs=>?_)
  obtain⟨oc,hoc,hocd⟩:=id z;refine h {s with heap:=h'} ⟨I.ok,I.os,I.bare,⟨λb o e n hb hx=>?_,λb o e n hb hx=>?_,I.base.free,λb o e hx=>?_,I.base.tups,I.base.frzs,I.base.tbls⟩,⟨m,hn.sameBut hs (Cn (cne x c hc)),λj y v' e1 e2 e3=>?_⟩,λy c' e=>?_,I.free,I.freeC,λp hp=>?_,tracked ⟨oc,hoc,I.freeC x c hc⟩ hs,by simpa using I.len⟩ ⟨c,hs,.inr hc⟩
  .exact(hs.2 b (Bp (AI (AK e) (I.ok.cab x c hfn hc)))).trans (I.base.keep b o e n hb hx)
  .obtain⟨sl,e1⟩:=I.base.slot b o e n hb hx;exact⟨sl,(hs.2 b (Bp (AI (AK e) (I.ok.cab x c hfn hc)))).trans e1⟩
  .obtain⟨o',e1⟩:=I.base.there b o e hx;exact⟨o',(hs.2 b (Bp (AI (AK e) (I.ok.cab x c hfn hc)))).trans e1⟩
  .by_cases hj:j=i
   .subst hj;rw[hi]at e1;cases e1;rw[BO hiσ]at e2;cases e2;exact⟨u,r,.inr ⟨.inl hk,c,hc,hc'⟩⟩
   .rw[FT (Cn hj)]at e2;obtain⟨u',r',q⟩:=hl j y v' e1 e2 e3;refine⟨u',r',?_⟩;rcases q with q|⟨k,c',e,z'⟩
    .exact .inl q
    .refine .inr ⟨k,c',e,z'.sameBut hs ?_⟩;rintro rfl;exact hj (Oe hN e1 (I.ok.inj _ _ _ e hc ▸ hi))
  .by_cases hcc:c'=c
   .subst hcc;exact⟨_,hc'⟩
   .obtain⟨w2,z2⟩:=I.cell y c' e;exact⟨w2,z2.sameBut hs hcc⟩
  .obtain⟨e,n,ne,nf,d⟩:=I.pin p hp;refine⟨(hs.2 p.1 ?_).trans e,n,ne,nf,d⟩;intro q;rw[q,hoc]at e;have q':oc=p.2:=Bk e;exact d w' (by rw[<-q'];exact hocd)
theorem N9{A:AR}{E:Vq}(I:Inv X pI Y H s)(hN:X.N.Nodup)(hi:X.N[i]?=Aa x)(hx:Loc X.env.scope x)(r:Bs v u)(h:∀ s',Inv X pI (Y.set i (Aa v)) H s'->Q () s')(hf:X.fn x=Ab\/X.env.scope.names.lookup x=Aa .local:=by first|exact .inl rfl|exact .inr rfl|assumption):Aw M A (storeName X.env x u) Q E s:=
 QQ I hN hi hx r (λs' I' _=>h s' I') hf
theorem Inv.call'{s':Ao}(I:Inv X pI Y H s)(ho:s'.os=s.os)(u:Un (frs X.stack) ch H H' s.heap s'.heap)(hok:HOk X.prog X.w H' s'.heap)(hg:Fn s'.gens)(hch:∀ b∈ch,(b∈X.ex\/X.s₀.heap.objs.size<=b)/\b≠X.env.locals/\(∀ x c,X.env.cells.lookup x=Aa c->c≠b)/\∀ p∈X.pn++pI,p.1≠b):Inv X pI Y H' s':=by
 obtain⟨h',g',d',t',o'⟩:=s';have e:o'=s.os:=ho;subst e;exact I.call (g':=g') (t':=t') (d':=d') u hok hg hch
end
abbrev XK:=Aj->An Ah->Hp->Prop
abbrev St:=Ac (An V)
variable{Y:St}
abbrev VK:=V->Hp->Prop
abbrev TE:=St->Hp->VK->Prop
abbrev TT:=St->Hp->(Ak->Hp->Prop)->Prop
abbrev TA:=St->Hp->(Ac V->Hp->Prop)->Prop
variable{ta:TA}
structure Ends where
 nx:St->Hp->Prop
 rt:VK
 bk:St->Hp->Prop:=λ_ _=>AU
 ct:St->Hp->Prop:=λ_ _=>AU
abbrev TS:=Ends->St->Hp->Prop
def EP(X:Cx)(pI:Pn)(Y:St)(Q:VK)(u:Aj)(s':Ao):Prop:=∃ v H',Inv X pI Y H' s'/\Bs v u/\Q v H'
def TP(X:Cx)(pI:Pn)(Y:St)(Q:Ak->Hp->Prop)(b:Ak)(s':Ao):Prop:=∃ H',Inv X pI Y H' s'/\Q b H'
def AP(X:Cx)(pI:Pn)(Y:St)(Q:Ac V->Hp->Prop)(us:Ac Aj)(s':Ao):Prop:=∃ vs H',Inv X pI Y H' s'/\AW vs us/\Q vs H'
noncomputable def SP(X:Cx)(pI:Pn)(D:Ends)(f:Flow)(s':Ao):Prop:=
  match f with
  |.next=>∃ Y' H',Inv X pI Y' H' s'/\D.nx Y' H'
  |.brk=>∃ Y' H',Inv X pI Y' H' s'/\D.bk Y' H'
  |.cont=>∃ Y' H',Inv X pI Y' H' s'/\D.ct Y' H'
  |.ret u=>∃ v Y' H',Inv X pI Y' H' s'/\Bs v u/\D.rt v H'
noncomputable def PE(X:Cx)(e:Am)(t:TE):Prop:=
 ∀(pI:Pn)(s:Ao)(Y:St)(H:Hp)(Q:VK),Inv X pI Y H s->t Y H Q->Aw (model X.prog X.w) X.A (eval e X.env) (EP X pI Y Q) X.xe s
noncomputable def PT(X:Cx)(e:Am)(t:TT):Prop:=
 ∀(pI:Pn)(s:Ao)(Y:St)(H:Hp)(Q:Ak->Hp->Prop),Inv X pI Y H s->t Y H Q->Aw (model X.prog X.w) X.A (HQ e X.env (eval e X.env)) (TP X pI Y Q) X.xe s
noncomputable def PW(X:Cx)(e:Am)(t:TT):Prop:=
 ∀(whole:F0 Aj)(pI:Pn)(s:Ao)(Y:St)(H:Hp)(Q:Ak->Hp->Prop),Inv X pI Y H s->t Y H Q->Aw (model X.prog X.w) X.A (HQ e X.env whole) (TP X pI Y Q) X.xe s
theorem PW.pt{t:TT}(h:PW X e t):PT X e t:=h _
noncomputable def PA(X:Cx)(es:Ac Am)(t:TA):Prop:=
 ∀(pos:AA)(pI:Pn)(s:Ao)(Y:St)(H:Hp)(Q:Ac V->Hp->Prop),Inv X pI Y H s->t Y H Q->Aw (model X.prog X.w) X.A (spliced (Bu pos (Ar es X.env))) (AP X pI Y Q) X.xe s
noncomputable def PS(X:Cx)(st:AG)(t:TS):Prop:=
 ∀(pI:Pn)(s:Ao)(Y:St)(H:Hp)(D:Ends),Inv X pI Y H s->t D Y H->Aw (model X.prog X.w) X.A (exec st X.env) (SP X pI D) X.xe s
noncomputable def PSs(X:Cx)(st:Ac AG)(t:TS):Prop:=
 ∀(pI:Pn)(s:Ao)(Y:St)(H:Hp)(D:Ends),Inv X pI Y H s->t D Y H->Aw (model X.prog X.w) X.A (execs st X.env) (SP X pI D) X.xe s
theorem thn{α:Type}{t:F0 α}{Q Q':α->Ao->Prop}{A:AR}{E:Vq}(h:Aw M A t Q E s)(hQ:∀ a s,Q a s->Q' a s):Aw M A t Q' E s:=A5 h hQ λ_ _ x=>x
section
variable{X:Cx}
def Eu(i:Af):TE:=λY H Q=>∃ v,Y[i]?=Aa (Aa v)/\Q v H
def tC(v:V):TE:=λ_ H Q=>Q v H
theorem Kk(hN:X.N[i]?=Aa x)(hv:Vis X.env.scope x)(hd:(x==("__debug__" : Ag))=Ad:=by decide)(hcd:(x==("__classdict__" : Ag))=Ad:=by decide):PE X (.Name x pos) (Eu i):=by
 intro pI s Y H Q I h;obtain⟨v,e,h⟩:=h;obtain⟨m,hn,hl⟩:=I.loc;obtain⟨u,r,l⟩:=hl i x v hN e hv;have fin:EP X pI Y Q u s:=⟨v,H,I,r,h⟩;rcases l with ⟨hk,hm⟩|⟨hk,c,hc,hcell⟩
 .exact JW (wpAny_loadName_local I.ok.kind hk hn hm fin) hd
 .rcases hk with hk|hk
  .exact JW (wpAny_loadName_cell I.ok.kind hk hc hcell fin) hd
  .exact JW (wpAny_loadName_free I.ok.kind hk hc hcell fin hcd) hd
theorem hZ{i j pos}:PE X (.Constant (.int i) j pos) (tC (.int i)):=λ_ _ _ H _ I h=>wpAny_Constant_int ⟨.int i,H,I.tok _,⟨_,rfl⟩,h⟩
theorem lW{b j pos}:PE X (.Constant (.bool b) j pos) (tC (.bl b)):=λ_ _ _ H _ I h=>Constant_bool ⟨.bl b,H,I,rfl,h⟩
theorem hV{j pos}:PE X (.Constant .none j pos) (tC .non):=λ_ _ _ H _ I h=>Constant_none ⟨.non,H,I,rfl,h⟩
theorem Mt{x j pos}:PE X (.Constant (.str x) j pos) (tC (.str x)):=λ_ _ _ H _ I h=>Calls.Constant_str ⟨.str x,H,I.tok _,⟨_,rfl⟩,h⟩
def Gl(X:Cx)(x:Ag):Prop:=X.env.kindOf x=Aa .globalImplicit
theorem Gy{E:Vq}{Q:Vq}(I:Inv X pI Y H s)(hg:Gl X x)(hm:X.mg x=Aa u)(h:Q u s)(hd:(x==("__debug__" : Ag))=Ad:=by decide):Aw (model X.prog X.w) X.A (eval (.Name x pos) X.env) Q E s:=
 V1 I.ok.kind hg (Calls.loadGlobal_global (by rw[I.ok.glob];exact I.mod.glob.keeps I.bk) hm h) hd
theorem Kn{E:Vq}{Q:Vq}(I:Inv X pI Y H s)(hg:Gl X x)(hm:X.mg x=Ae)(hv:CU x=Aa u)(h:Q u s)(hn:x≠"__name__" := by decide)(hd:(x==("__debug__" : Ag))=Ad:=by decide):Aw (model X.prog X.w) X.A (eval (.Name x pos) X.env) Q E s:=by
 obtain⟨mb,h1,h2⟩:=I.mod.blt;exact V1 I.ok.kind hg (Calls.loadGlobal_builtin (by rw[I.ok.glob];exact I.mod.glob.keeps I.bk) hm (by rw[I.ok.blt];exact h1.keeps I.bk) ((h2 x hn).trans hv) h) hd
theorem Om(hg:Gl X x)(hm:X.mg x=Aa u)(r:Bs v u)(hd:(x==("__debug__" : Ag))=Ad:=by decide):PE X (.Name x pos) (tC v):=
 λ_ _ _ H _ I h=>Gy I hg hm ⟨v,H,I,r,h⟩ hd
theorem Si(hg:Gl X x)(hm:X.mg x=Ae)(hv:CU x=Aa u)(r:Bs v u)(hn:x≠"__name__" := by decide)(hd:(x==("__debug__" : Ag))=Ad:=by decide):PE X (.Name x pos) (tC v):=
 λ_ _ _ H _ I h=>Kn I hg hm hv ⟨v,H,I,r,h⟩ hn hd
variable{a b:Am}{ta tb:TE}{pos:AA}
variable{tA tB':TT}{rest:Ac Am}
def qV(t u:TT):TT:=λY H Q=>t Y H λc H1=>if c=Ab then u Y H1 Q else Q Ad H1
def tOr(t u:TT):TT:=λY H Q=>t Y H λc H1=>if c=Ab then Q Ab H1 else u Y H1 Q
def qP(t:TT):TT:=λY H Q=>t Y H λc H1=>Q (!c) H1
theorem dC(ha:PT X a tA):PW X (.BoolOp .And [a] pos) tA:=by
 intro wh pI s Y H Q I h;refine isTrue_and (thn (ha pI s Y H Q I h) λc s1 e=>?_)
 cases c with
 |true=>exact isTrue_and_nil e
 |false=>exact e
theorem jC(ha:PT X a tA):PW X (.BoolOp .Or [a] pos) tA:=by
 intro wh pI s Y H Q I h;refine isTrue_or (thn (ha pI s Y H Q I h) λc s1 e=>?_)
 cases c with
 |false=>exact isTrue_or_nil e
 |true=>exact e
theorem jD(ha:PT X a tA)(hb:PW X (.BoolOp .And (b::rest) pos) tB'):PW X (.BoolOp .And (a::b::rest) pos) (qV tA tB'):=by
 intro wh pI s Y H Q I h;refine isTrue_and (thn (ha pI s Y H _ I h) λc s1 ⟨H1,I1,q1⟩=>?_)
 cases c with
 |true=>exact hb wh pI s1 Y H1 Q I1 q1
 |false=>exact⟨H1,I1,q1⟩
theorem lT(ha:PT X a tA)(hb:PW X (.BoolOp .Or (b::rest) pos) tB'):PW X (.BoolOp .Or (a::b::rest) pos) (tOr tA tB'):=by
 intro wh pI s Y H Q I h;refine isTrue_or (thn (ha pI s Y H _ I h) λc s1 ⟨H1,I1,q1⟩=>?_)
 cases c with
 |true=>exact⟨H1,I1,q1⟩
 |false=>exact hb wh pI s1 Y H1 Q I1 q1
theorem jE(ha:PT X a tA):PT X (.UnaryOp .Not a pos) (qP tA):=by
 intro pI s Y H Q I h;exact isTrue_not (ha pI s Y H (λc H1=>Q (!c) H1) I h)
def lS(ta tb:TE):TE:=λY H Q=>ta Y H λx H1=>∃ c,x=.bl c/\if c=Ab then tb Y H1 Q else Q (.bl Ad) H1
def qO(ta tb:TE):TE:=λY H Q=>ta Y H λx H1=>∃ c,x=.bl c/\if c=Ab then Q (.bl Ab) H1 else tb Y H1 Q
def lO(ta:TE):TE:=λY H Q=>ta Y H λx H1=>∃ c,x=.bl c/\Q (.bl (!c)) H1
theorem jH{op}{t:TE}(h:PE X a t):PE X (.BoolOp op [a] pos) t:=λpI s Y H Q I hw=>BoolOp_one (h pI s Y H Q I hw)
theorem iB(ha:PE X a ta)(hb:PE X (.BoolOp .And (b::rest) pos) tb):PE X (.BoolOp .And (a::b::rest) pos) (lS ta tb):=by
 intro pI s Y H Q I h;refine BoolOp_and (thn (ha pI s Y H _ I h) λv s1 ⟨x,H1,I1,r1,q1⟩=>?_)
 obtain⟨c,rfl,q1⟩:=q1;cases r1;refine Cv ?_;cases c with
 |true=>exact hb pI s1 Y H1 Q I1 q1
 |false=>exact⟨.bl Ad,H1,I1,rfl,q1⟩
theorem lU(ha:PE X a ta)(hb:PE X (.BoolOp .Or (b::rest) pos) tb):PE X (.BoolOp .Or (a::b::rest) pos) (qO ta tb):=by
 intro pI s Y H Q I h;refine BoolOp_or (thn (ha pI s Y H _ I h) λv s1 ⟨x,H1,I1,r1,q1⟩=>?_)
 obtain⟨c,rfl,q1⟩:=q1;cases r1;refine Cv ?_;cases c with
 |false=>exact hb pI s1 Y H1 Q I1 q1
 |true=>exact⟨.bl Ab,H1,I1,rfl,q1⟩
theorem jI(ha:PE X a ta):PE X (.UnaryOp .Not a pos) (lO ta):=by
 intro pI s Y H Q I h;refine UnaryOp_ (thn (ha pI s Y H _ I h) λv s1 ⟨x,H1,I1,r1,q1⟩=>?_)
 obtain⟨c,rfl,q1⟩:=q1;cases r1;exact not_of (Cv ⟨.bl (!c),H1,I1,rfl,q1⟩)
end
noncomputable def SqL(K:Fg)(H:Hp)(a:Ah)(xs:Ac V):Prop:=
 Rd H a (.lst xs) \/
  ∃(o:C7)(its:Bj Aj)(n:Af),K.lookup a=Aa o/\o.cls=.type "list"/\o.dict=Ae/\o.data=.seq its n/\its.size<=sizeLine/\AW xs its.toList
noncomputable def SqT(K:Fg)(H:Hp)(a:Ah)(xs:Ac V):Prop:=
 Rd H a (.tup xs) \/
  ∃(o:C7)(its:Bj Aj)(n:Af),K.lookup a=Aa o/\o.cls=.type "tuple"/\o.data=.seq its n/\its.size<=sizeLine/\AW xs its.toList
noncomputable def Xz:Aj->An V
 |.none=>Aa .non
 |.bool b=>Aa (.bl b)
 |.int i _=>Aa (.int i)
 |.str x _=>Aa (.str x)
 |.bytes b _=>Aa (.byt b)
 |.float b _=>Aa (.flt b)
 |.ref a=>Aa (.ref a)
 |.type n=>Aa (.ty n)
 |_=>Ae
theorem Bs.abs{x:V}(r:Bs x u):Xz u=Aa x:=by
 cases x with
 |non=>cases r;rfl
 |bl _=>cases r;rfl
 |int _=>obtain⟨t,rfl⟩:=r;rfl
 |str _=>obtain⟨t,rfl⟩:=r;rfl
 |byt _=>obtain⟨t,rfl⟩:=r;rfl
 |flt _=>obtain⟨t,rfl⟩:=r;rfl
 |ref _=>cases r;rfl
 |ty _=>cases r;rfl
theorem Bs.inj{x:V}(r:Bs x u)(q:Bs y u):x=y:=Bk (r.abs.symm.trans q.abs)
theorem AW.inj:∀{xs ys:Ac V}{us:Ac Aj},AW xs us->AW ys us->xs=ys
 |_,_,_,.nil,.nil=>rfl
 |_,_,_,.cons r t,.cons r' t'=>by rw[r.inj r',AW.inj t t']
section
variable{X:Cx}{pI:Pn}{Y:St}{H:Hp}{s:Ao}{a:Ah}{xs ys:Ac V}
theorem SqL.of{K:Fg}(h:H a=Aa (.lst xs)):SqL K H a xs:=.inl (.inl h)
theorem SqT.of{K:Fg}(h:H a=Aa (.tup xs)):SqT K H a xs:=.inl (.inl h)
theorem Inv.list(I:Inv X pI Y H s)(h:SqL X.K H a xs):∃ its:Ac Aj,AW xs its/\PlainL s.heap a its.toArray/\xs.length<=sizeLine:=by
 rcases h with h|⟨o,its,n,hk,hc,hd,hs,hz,r⟩
 .obtain⟨z,its,n,r,e⟩:=h.ok I.hok;exact⟨its,r,⟨_,n,e,rfl,rfl,rfl⟩,z⟩
 .refine⟨its.toList,r,⟨o,n,I.kIn a o hk,hc,hd,by simpa using hs⟩,?_⟩
  have e:=r.length;simp only[Vn]at e;omega
theorem Inv.tuple(I:Inv X pI Y H s)(h:SqT X.K H a xs):∃ its:Ac Aj,AW xs its/\KP s.heap a its.toArray/\xs.length<=sizeLine:=by
 rcases h with h|⟨o,its,n,hk,hc,hs,hz,r⟩
 .obtain⟨z,its,r,p⟩:=h.ok I.hok;exact⟨its,r,p,z⟩
 .refine⟨its.toList,r,⟨o,I.kIn a o hk,hc,n,by simpa using hs⟩,?_⟩
  have e:=r.length;simp only[Vn]at e;omega
theorem Inv.list_inj(I:Inv X pI Y H s)(h:SqL X.K H a xs)(h':SqL X.K H a ys):xs=ys:=by
 obtain⟨its,r,⟨o,n,e,_,_,d⟩,_⟩:=I.list h;obtain⟨its',r',⟨o',n',e',_,_,d'⟩,_⟩:=I.list h';rw[e]at e';cases e';rw[d]at d'
 injection d' with d1 _
 have:its=its':=by simpa using congrArg Vo d1
 subst this;exact r.inj r'
theorem Inv.tuple_inj(I:Inv X pI Y H s)(h:SqT X.K H a xs)(h':SqT X.K H a ys):xs=ys:=by
 obtain⟨its,r,⟨o,e,_,n,d⟩,_⟩:=I.tuple h;obtain⟨its',r',⟨o',e',_,n',d'⟩,_⟩:=I.tuple h';rw[e]at e';cases e';rw[d]at d'
 injection d' with d1 _
 have:its=its':=by simpa using congrArg Vo d1
 subst this;exact r.inj r'
end
noncomputable abbrev Cx.wish(X:Cx)(E:Vq):Cx:={X with xe:=E}
noncomputable abbrev Cx.nox(X:Cx):Cx:=X.wish λ_ _=>AU
theorem Cx.Ok.wish(ok:X.Ok)(E:Vq):(X.wish E).Ok:=
 ⟨ok.mod,ok.kind,ok.glob,ok.blt,ok.above,ok.inj,ok.has,ok.cab,ok.hd,ok.frames,ok.stk,ok.exf,ok.bs,ok.bsz,ok.noex,ok.exfs,ok.funs,ok.frf⟩
theorem Cx.Ok.unwish{E:Vq}(ok:(X.wish E).Ok):X.Ok:=
 ⟨ok.mod,ok.kind,ok.glob,ok.blt,ok.above,ok.inj,ok.has,ok.cab,ok.hd,ok.frames,ok.stk,ok.exf,ok.bs,ok.bsz,ok.noex,ok.exfs,ok.funs,ok.frf⟩
section
variable{X:Cx}{pI:Pn}{Y:St}{H:Hp}{s:Ao}{E:Vq}
theorem Inv.wish(I:Inv X pI Y H s)(E:Vq):Inv (X.wish E) pI Y H s:=⟨I.ok.wish E,I.os,I.bare,I.base,I.loc,I.cell,I.free,I.freeC,I.pin,I.hok,I.len⟩
theorem Inv.unwish(I:Inv (X.wish E) pI Y H s):Inv X pI Y H s:=⟨I.ok.unwish,I.os,I.bare,I.base,I.loc,I.cell,I.free,I.freeC,I.pin,I.hok,I.len⟩
theorem SP.unwish{D:Ends}{f:Flow}{s':Ao}(h:SP (X.wish E) pI D f s'):SP X pI D f s':=by
 cases f with
 |next=>obtain⟨Y',H',I,q⟩:=h;exact⟨Y',H',I.unwish,q⟩
 |brk=>obtain⟨Y',H',I,q⟩:=h;exact⟨Y',H',I.unwish,q⟩
 |cont=>obtain⟨Y',H',I,q⟩:=h;exact⟨Y',H',I.unwish,q⟩
 |ret u=>obtain⟨v,Y',H',I,r,q⟩:=h;exact⟨v,Y',H',I.unwish,r,q⟩
theorem PSs.nox{st:Ac AG}{t:TS}(h:PSs X.nox st t):PSs X st t:=λpI s Y H D I hw=>
 A5 (h pI s Y H D (I.wish _) hw) (λ_ _ q=>q.unwish) λ_ _ z=>AV z
end
section
variable{X:Cx}{st:AG}{rest:Ac AG}{t u:TS}{e:Am}{te:TE}{pos:AA}
def T7:TS:=λD Y H=>D.nx Y H
def qM(t u:TS):TS:=λD Y H=>t {D with nx:=u D} Y H
theorem Se:PSs X [] T7:=λ_ _ Y H _ I h=>E7 ⟨Y,H,I,h⟩
theorem IV(h1:PS X st t)(h2:PSs X rest u):PSs X (st::rest) (qM t u):=by
 intro pI s Y H D I h;refine G3 (thn (h1 pI s Y H {D with nx:=u D} I h) λf s1 q=>?_)
 cases f with
 |next=>
  obtain⟨Y',H',I',q⟩:=q;exact h2 pI s1 Y' H' D I' q
 |ret v=>exact q
 |brk=>exact q
 |cont=>exact q
theorem Ig(h1:PS X st t):PSs X [st] t:=by
 intro pI s Y H D I h;refine G3 (thn (h1 pI s Y H D I h) λf s1 q=>?_)
 cases f with
 |next=>exact E7 q
 |ret v=>exact q
 |brk=>exact q
 |cont=>exact q
theorem Inv.quiet(I:Inv X pI Y H s):interactive X.env=Ad:=by simp[interactive,I.ok.kind]
def lP(te:TE):TS:=λD Y H=>te Y H λ_ H1=>D.nx Y H1
theorem Jz(he:PE X e te)(hs:CF e Ae pos.line X.env=pure Ad:=by rfl):PS X (.Expr e pos) (lP te):=by
 intro pI s Y H D I h;exact wpAny_Expr_any (thn (he pI s Y H _ I h) λv s1 ⟨x,H1,I1,r1,q1⟩=>⟨Y,H1,I1,q1⟩) I.quiet hs
def qN(te:TE):TS:=λD Y H=>te Y H D.rt
theorem OZ(he:PE X e te):PS X (.Return (Aa e) pos) (qN te):=by
 intro pI s Y H D I h;exact wpAny_Return_some (thn (he pI s Y H _ I h) λv s1 ⟨x,H1,I1,r1,q1⟩=>⟨x,Y,H1,I1,r1,q1⟩)
def qS(c:TT)(t u:TS):TS:=λD Y H=>c Y H λb H1=>if b=Ab then t D Y H1 else u D Y H1
theorem Uk{c:Am}{a b:Ac AG}{tc:TT}(hc:PT X c tc)(ha:PSs X a t)(hb:PSs X b u):PS X (.If c a b pos) (qS tc t u):=by
 intro pI s Y H D I h;refine wpAny_If (thn (hc pI s Y H _ I h) λd s1 ⟨H1,I1,q1⟩=>?_)
 cases d with
 |true=>exact ha pI s1 Y H1 D I1 q1
 |false=>exact hb pI s1 Y H1 D I1 q1
def Tr:TS:=λ_ _ _=>AU
theorem YJ{sts:Ac AG}:PSs X sts Tr:=λ_ _ _ _ _ _ h=>h.elim
end
abbrev TG:=V->St->Hp->(St->Hp->Prop)->Prop
abbrev TGs:=Ac V->St->Hp->(St->Hp->Prop)->Prop
noncomputable def PG(X:Cx)(target:Am)(t:TG):Prop:=
 ∀(pI:Pn)(s:Ao)(Y:St)(H:Hp)(v:V)(u:Aj)(Q:St->Hp->Prop),Inv X pI Y H s->Bs v u->t v Y H Q ->
  Aw (model X.prog X.w) X.A (assign target X.env u) (λ_ s'=>∃ Y' H',Inv X pI Y' H' s'/\Q Y' H') X.xe s
noncomputable def PGs(X:Cx)(ts:Ac Am)(t:TGs):Prop:=
 ∀(pI:Pn)(s:Ao)(Y:St)(H:Hp)(vs:Ac V)(us:Ac Aj)(Q:St->Hp->Prop),Inv X pI Y H s->AW vs us->t vs Y H Q ->
  Aw (model X.prog X.w) X.A (assignInOrder ((DS ts X.env).map (·.2)) us) (λ_ s'=>∃ Y' H',Inv X pI Y' H' s'/\Q Y' H') X.xe s
section
variable{X:Cx}{pos:AA}
def Eg(i:Af):TG:=λv Y H Q=>Q (Y.set i (Aa v)) H
theorem Lk(hN:X.N.Nodup)(hi:X.N[i]?=Aa x)(hx:Loc X.env.scope x)(hf:X.fn x=Ab\/X.env.scope.names.lookup x=Aa .local:=by first|exact .inl rfl|exact .inr rfl|assumption):PG X (.Name x pos) (Eg i):=by
 intro pI s Y H v u Q I r h;exact Xo (N9 I hN hi hx r (λs' I'=>⟨_,H,I',h⟩) hf)
def Ix:TGs:=λvs Y H Q=>vs=[]/\Q Y H
def Ir(t:TG)(u:TGs):TGs:=λvs Y H Q=>∃ v r,vs=v::r/\t v Y H λY' H'=>u r Y' H' Q
theorem Sf:PGs X [] Ix:=by
 intro pI s Y H vs us Q I r h;obtain⟨e,h⟩:=h;subst e;cases r;exact assignInOrder_nil ⟨Y,H,I,h⟩
theorem Ry{t:TG}{u:TGs}(h1:PG X e t)(h2:PGs X es u)(hs:(DS (e::es) X.env).map (·.2)=assign e X.env::(DS es X.env).map (·.2):=by rfl):PGs X (e::es) (Ir t u):=by
 intro pI s Y H vs us Q I r h;obtain⟨v,vr,e1,h⟩:=h;subst e1;cases r with
 |cons r rr=>
  rw[hs];refine assignInOrder_cons (thn (h1 pI s Y H _ _ _ I r h) λ_ s1 ⟨Y1,H1,I1,q1⟩=>?_)
  exact h2 pI s1 Y1 H1 _ _ Q I1 rr q1
def LO(K:Fg)(n:Af)(t:TGs):TG:=λv Y H Q=>∃ a xs,v=.ref a/\SqT K H a xs/\xs.length=n/\t xs Y H Q
theorem S5{t:TGs}(hc:X.calm=Ab)(h:PGs X es t)(hn:(DS es X.env).length=n:=by rfl)(hst:(DS es X.env).findIdx? (·.1)=Ae:=by rfl):PG X (.Tuple es k pos) (LO X.K n t):=by
 intro pI s Y H v u Q I r hw;obtain⟨a,xs,e1,hq,hl,hw⟩:=hw;subst e1;cases r;obtain⟨its,rv,ht,hz⟩:=I.tuple hq;refine assign_Tuple_tuple (I.ok.hd hc) ht (by simp[hn,<-hl,rv.length]) hst λh' hx=>?_
 have I1:Inv X pI Y H {s with heap:=h'}:=I.kept (t':=s.toks) λb o e=>hx b o (Bp (AK e)) e
 exact h pI _ Y H xs _ Q I1 (by simpa using rv) hw
def JK(te:TE)(g:TG):TS:=λD Y H=>te Y H λx H1=>g x Y H1 D.nx
theorem Lu{te:TE}{pos':AA}(hN:X.N.Nodup)(hi:X.N[i]?=Aa x)(hx:Loc X.env.scope x)(he:PE X e te)(hs:CF e (Aa (.Name x pos')) pos.line X.env=pure Ad:=by rfl)(hf:X.fn x=Ab\/X.env.scope.names.lookup x=Aa .local:=by first|exact .inl rfl|exact .inr rfl|assumption):PS X (.Assign [.Name x pos'] e pos) (JK te (Eg i)):=by
 intro pI s Y H D I h;refine wpAny_Assign_Name (thn (he pI s Y H _ I h) λv s1 ⟨y,H1,I1,r1,q1⟩=>?_) hs
 exact N9 I1 hN hi hx r1 (λs2 I2=>⟨_,H1,I2,q1⟩) hf
end
section
variable{X:Cx}{pos:AA}
end
structure It where
 go:Af->Hp->Prop
 yld:Af->Hp->V->Hp->Prop
 stop:Af->Hp->Prop
noncomputable def Gp(X:Cx)(pI:Pn)(H:Hp)(b:Ah):Prop:=
 H b=Ae/\b≠X.env.locals/\b∉X.fs/\(b∈X.ex\/X.s₀.heap.objs.size<=b)/\(∀ x c,X.env.cells.lookup x=Aa c->c≠b)/\∀ p∈X.pn++pI,p.1≠b
theorem Inv.fpOk{H':Hp}(I:Inv X pI Y H s)(hb:s.heap.objs.size<=b)(hn:H' b=Ae):Gp X pI H' b:=by
 refine⟨hn,GX (AI I.lt hb),I.nofs hb,.inr (Cp I.sz hb),λx c e z=>?_,λp hp z=>?_⟩
 .obtain⟨v,q⟩:=I.cell x c e;exact absurd (AI q.lt (by rw[z];exact hb)) (Bt _)
 .exact absurd (AI (AK (I.pin p hp).1) (by rw[z];exact hb)) (Bt _)
structure Turn (P:AL) (w:Az) (K:Fg) (tg:Am) (J:It) (fp:Ac Ah) (it:Ah) (tn:Af->AE->Prop):Prop where
 mem:it∈fp
 obj:∀ i h,tn i h->∀ b∈fp,∃ o,h.get? b=Aa o/\∀ v,o.data≠.cell v
 keep:∀ i h h',tn i h->(∀ b∈fp,∀ o,h.get? b=Aa o->h'.get? b=Aa o)->tn i h'
 item:∀(X:Cx),X.prog=P->X.w=w->X.K=K->X.calm=Ab->∀(i:Af)(pI:Pn)(s:Ao)(Y:St)(H:Hp)(E:Vq),Inv X pI Y H s->(∀ b∈fp,Gp X pI H b)->tn i s.heap->J.go i H ->
  Aw (model P w) X.A (pyNext (.ref it)) (λr s1=>∃ u,r=Aa u /\
   Aw (model P w) X.A (F2 tg (.ref it) u) (λ_ s2=>∃ x H',Inv X pI Y H' s2/\Bs x u/\J.yld i H x H'/\tn (i+1) s2.heap/\∀ b∈fp,H' b=Ae) E s1) E s
 done:∀(X:Cx),X.prog=P->X.w=w->X.K=K->X.calm=Ab->∀(i:Af)(pI:Pn)(s:Ao)(Y:St)(H:Hp)(E:Vq),Inv X pI Y H s->(∀ b∈fp,Gp X pI H b)->tn i s.heap->J.stop i H ->
  Aw (model P w) X.A (pyNext (.ref it)) (λr s1=>r=Ae/\Inv X pI Y H s1) E s
 self:∀(A:AR)(i:Af)(s:Ao)(Q:Vq)(E:Vq),tn i s.heap->Q (.ref it) s->Aw (model P w) A (KY (.ref it)) Q E s
abbrev TI:=St->Hp->(It->Hp->Prop)->Prop
noncomputable def PIE(X:Cx)(pI:Pn)(Y:St)(tg:Am)(R:It->Hp->Prop)(itv:Aj)(s2:Ao):Prop:=
 ∃(it:Ah)(fp:Ac Ah)(tn:Af->AE->Prop)(J:It)(H':Hp),itv=.ref it/\Inv X pI Y H' s2/\Turn X.prog X.w X.K tg J fp it tn/\tn 0 s2.heap/\(∀ b∈fp,Gp X pI H' b)/\R J H'
noncomputable def PI(X:Cx)(tg iter:Am)(wi:TI):Prop:=
 ∀(pI:Pn)(s:Ao)(Y:St)(H:Hp)(R:It->Hp->Prop),Inv X pI Y H s->wi Y H R ->
  Aw (model X.prog X.w) X.A (eval iter X.env) (λv s1=>Aw (model X.prog X.w) X.A (KY v) (PIE X pI Y tg R) X.xe s1) X.xe s
theorem PD{A:AR}{E:Vq}{n:CK}{vs:Bj Aj}(ho:s.heap.get? it=Aa o)(hc:o.cls=.type n)(hd:o.data=.fields vs)(hn:["enumerate", "zip", "dict_itemiterator", "dict_reverseitemiterator", "odict_iterator", "itertools.zip_longest", "itertools.pairwise"].contains n=Ad)(hQ:Q () s):Aw M A (F2 tg (.ref it) u) Q E s:=by
  unfold F2;cases tg<;>first
    |exact Bi hQ
    | (cases u<;>first
        |exact Bi hQ
        | (refine As (wpAny_load ho ?_)
           rw[hc,hd];show Aw M A (if (["enumerate", "zip", "dict_itemiterator", "dict_reverseitemiterator", "odict_iterator", "itertools.zip_longest", "itertools.pairwise"].contains n&&vs[0]? == Aa (D1 _))=Ab then _ else _) Q E s
           rw[AJ (by intro h;rw[hn,Bool.false_and]at h;cases h)]
           exact Bi hQ))
noncomputable def Itl(K:Fg)(a:Ah):It:=
 ⟨λi H=>∃ xs x,SqL K H a xs/\xs[i]?=Aa x,λi H x H'=>H'=H/\∀ xs,SqL K H a xs->xs[i]?=Aa x,λi H=>∃ xs,SqL K H a xs/\xs.length<=i⟩
noncomputable def Itt(K:Fg)(a:Ah):It:=
 ⟨λi H=>∃ xs x,SqT K H a xs/\xs[i]?=Aa x,λi H x H'=>H'=H/\∀ xs,SqT K H a xs->xs[i]?=Aa x,λi H=>∃ xs,SqT K H a xs/\xs.length<=i⟩
noncomputable def Itr(lo:Ai)(n:Af):It:=⟨λi _=>i<n,λi H x H'=>H'=H/\x=.int (lo+i),λi _=>n<=i⟩
theorem Yd{w:Az}{K:Fg}(a it:Ah):Turn P w K tg (Itl K a) [it] it (λi h=>h.IsListIter it a i) where
  mem:=by simp
  obj:=λi h st b hb=>by
    have e:b=it:=by simpa using hb
    subst e;obtain⟨o,e,c,d⟩:=st;exact⟨o,e,λv z=>by rw[d]at z;cases z⟩
  keep:=λi h h' st k=>st.at λo e=>k it (by simp) o e
  item:=by
    intro X hP hw hK hc i pI s Y H E I hf st hg;subst hP hw hK;obtain⟨xs,x,hq,hx⟩:=hg;obtain⟨its,rv,p,hz⟩:=I.list hq;obtain⟨u,hu,ru⟩:=rv.get hx;obtain⟨f0,f1,f2,f3,f4,f5⟩:=hf it (by simp)
    refine wpAny_pyNext_list_item st p.isList (x:=u) (by simpa using hu) λh' st' sb=>?_
    have I1:Inv X pI Y H {s with heap:=h'}:=I.turned (t':=s.toks) (λb o hb e=>(sb.2 b hb).trans e) f0 f1 f3 f4 f5
    obtain⟨o,e,c,d⟩:=id st';exact⟨u,rfl,PD (s:={s with heap:=h'}) e c d (by decide) ⟨x,H,I1,ru,⟨rfl,λys hy=>by rw[I.list_inj hy hq];exact hx⟩,st',λb hb=>(hf b hb).1⟩⟩
  done:=by
    intro X hP hw hK hc i pI s Y H E I hf st hg;subst hP hw hK;obtain⟨xs,hq,hx⟩:=hg;obtain⟨its,rv,p,hz⟩:=I.list hq;obtain⟨f0,f1,f2,f3,f4,f5⟩:=hf it (by simp)
    have hl:=rv.length;exact wpAny_pyNext_list_end (I.ok.hd hc) st p.isList (by simp;omega) λh' eb=>⟨rfl,I.turned (t':=s.toks) (λb o hb e=>eb b o hb e) f0 f1 f3 f4 f5⟩
  self:=λ_ _ _ _ _ st h=>wpAny_pyIter_listiter st h
theorem XY{w:Az}{K:Fg}(a it:Ah):Turn P w K tg (Itt K a) [it] it (λi h=>h.IsTupleIter it a i) where
  mem:=by simp
  obj:=λi h st b hb=>by
    have e:b=it:=by simpa using hb
    subst e;obtain⟨o,e,c,d⟩:=st;exact⟨o,e,λv z=>by rw[d]at z;cases z⟩
  keep:=λi h h' st k=>st.at λo e=>k it (by simp) o e
  item:=by
    intro X hP hw hK hc i pI s Y H E I hf st hg;subst hP hw hK;obtain⟨xs,x,hq,hx⟩:=hg;obtain⟨its,rv,p,hz⟩:=I.tuple hq;obtain⟨u,hu,ru⟩:=rv.get hx;obtain⟨f0,f1,f2,f3,f4,f5⟩:=hf it (by simp)
    refine wpAny_pyNext_tuple_item st (show s.heap.IsTuple a its.toArray from p) (x:=u) (by simpa using hu) λh' st' sb=>?_
    have I1:Inv X pI Y H {s with heap:=h'}:=I.turned (t':=s.toks) (λb o hb e=>(sb.2 b hb).trans e) f0 f1 f3 f4 f5
    obtain⟨o,e,c,d⟩:=id st';exact⟨u,rfl,PD (s:={s with heap:=h'}) e c d (by decide) ⟨x,H,I1,ru,⟨rfl,λys hy=>by rw[I.tuple_inj hy hq];exact hx⟩,st',λb hb=>(hf b hb).1⟩⟩
  done:=by
    intro X hP hw hK hc i pI s Y H E I hf st hg;subst hP hw hK;obtain⟨xs,hq,hx⟩:=hg;obtain⟨its,rv,p,hz⟩:=I.tuple hq;obtain⟨f0,f1,f2,f3,f4,f5⟩:=hf it (by simp)
    have hl:=rv.length;exact wpAny_pyNext_tuple_end (I.ok.hd hc) st (show s.heap.IsTuple a its.toArray from p) (by simp;omega) λh' eb=>⟨rfl,I.turned (t':=s.toks) (λb o hb e=>eb b o hb e) f0 f1 f3 f4 f5⟩
  self:=λ_ _ _ _ _ st h=>wpAny_pyIter_tupleiter st h
theorem XZ{w:Az}{K:Fg}(it:Ah)(lo:Ai)(n:Af):Turn P w K tg (Itr lo n) [it] it (λi h=>IsRangeIter h it (lo+(i:Af)*1) ((n:Ai)-(i:Af)) 1) where
  mem:=by simp
  obj:=λi h st b hb=>by
    have e:b=it:=by simpa using hb
    subst e;exact⟨_,st,λv z=>by
      have z':Data.fields _=KO v:=z;cases z'⟩
  keep:=λi h h' st k=>k it (by simp) _ st
  item:=by
    intro X hP hw hK hc i pI s Y H E I hf st hg;subst hP hw hK;obtain⟨f0,f1,f2,f3,f4,f5⟩:=hf it (by simp)
    have W:=Walks.range (prog:=X.prog) (w:=X.w) (I.ok.hd hc) it lo 1 n;refine W.item i s _ _ hg st λv h' tk hv st' kk=>?_
    obtain⟨t,rfl⟩:=hv;have I1:Inv X pI Y H {s with heap:=h',toks:=tk}:=I.turned (λb o hb e=>kk b o (by simpa using hb) e) f0 f1 f3 f4 f5
    refine⟨_,rfl,PD (s:={s with heap:=h',toks:=tk}) (n := "range_iterator") st' rfl rfl (by decide) ⟨.int (lo+i),H,I1,⟨t,?_⟩,⟨rfl,rfl⟩,st',λb hb=>(hf b hb).1⟩⟩
    rw[FC]
  done:=by
    intro X hP hw hK hc i pI s Y H E I hf st hg;subst hP hw hK;obtain⟨f0,f1,f2,f3,f4,f5⟩:=hf it (by simp)
    exact wpAny_pyNext_range_end (I.ok.hd hc) st (by have:n<=i:=hg;omega) λh' eb=>⟨rfl,I.turned (t':=s.toks) (λb o hb e=>eb b o hb e) f0 f1 f3 f4 f5⟩
  self:=λ_ _ _ _ _ st h=>wpAny_pyIter_rangeiter st h
section
variable{X:Cx}{tg:Am}
theorem Rx{R:It->Hp->Prop}{E:Vq}{lo hi:Ai}{t u v:CI}{tk:Af}(I:Inv X pI Y H s)(h1:-(2 ^ 62)<=lo)(h2:lo<2 ^ 62)(h3:-(2 ^ 62)<=hi)(h4:hi<2 ^ 62)(q:R (Itr lo (hi-lo).toNat) H):Aw (model X.prog X.w) X.A (KY (.ref s.heap.objs.size)) (PIE X pI Y tg R) E { s with heap:=s.heap.push { cls:=.type "range",data:=.fields #[.int lo t,.int hi u,.int 1 v] },toks:=tk }:=by
 refine wpAny_pyIter_range (IsRange.new ..) (small_one h1 h2 h3 h4) ?_;have I1:Inv X pI Y H { s with heap:=s.heap.push { cls:=.type "range",data:=.fields #[.int lo t,.int hi u,.int 1 v] },toks:=tk }:=I.kept λb o e=>Ax _ e
 refine⟨(s.heap.push { cls:=.type "range",data:=.fields #[.int lo t,.int hi u,.int 1 v] }).objs.size,[(s.heap.push { cls:=.type "range",data:=.fields #[.int lo t,.int hi u,.int 1 v] }).objs.size],_,_,H,rfl,
  I1.kept (t':=tk) λb o e=>Ax _ e,XZ _ lo (hi-lo).toNat,?_,λb hb=>?_,q⟩
 .have e1:lo+((0:Af):Ai)*1=lo:=by simp
  have e2:(((hi-lo).toNat:Af):Ai)-((0:Af):Ai)=Builtin.Range.rangeSize lo hi 1:=by rw[rangeSize_one];split<;>omega
  show IsRangeIter _ _ (lo+((0:Af):Ai)*1) ((((hi-lo).toNat:Af):Ai)-((0:Af):Ai)) 1;rw[e1,e2];exact Be _ rfl
 .have e:b=(s.heap.push { cls:=.type "range",data:=.fields #[.int lo t,.int hi u,.int 1 v] }).objs.size:=by simpa using hb
  subst e;exact I1.fpOk (AN _) (I1.hok.fresh (AN _))
def oO(ta:TA):TI:=λY H R=>ta Y H λvs H1=>∃ j:Ai,vs=[.int j]/\-(2 ^ 62)<=j/\j<2 ^ 62/\R (Itr 0 j.toNat) H1
def oM(ta:TA):TI:=λY H R=>ta Y H λvs H1=>∃ i j:Ai,vs=[.int i,.int j]/\(-(2 ^ 62)<=i/\i<2 ^ 62/\-(2 ^ 62)<=j/\j<2 ^ 62)/\R (Itr i (j-i).toNat) H1
theorem YM{a:Am}(hg:Gl X "range")(hm:X.mg "range" = Ae)(ha:PA X [a] ta)(hs:Ar [a] X.env=[(Ad,eval a X.env)]:=by rfl):PI X tg (.Call (.Name "range" p) [a] [] pos) (oO ta):=by
 intro pI s Y H R I h;refine Call_ (Kn I hg hm boot_range (Dy (thn (ha pos pI s Y H _ I h) λus s1 ⟨vs,H1,I1,r1,q1⟩=>?_) hs rfl))
 obtain⟨j,e,q1,q2,q⟩:=q1;subst e;cases r1 with
 |cons r rr=>
  cases rr;obtain⟨t,rfl⟩:=r;exact call_range_1 (Rx I1 (by omega) (by omega) q1 q2 (by simpa using q))
theorem YL{a b:Am}(hg:Gl X "range")(hm:X.mg "range" = Ae)(ha:PA X [a,b] ta)(hs:Ar [a,b] X.env=[(Ad,eval a X.env),(Ad,eval b X.env)]:=by rfl)(hs2:Ar [b] X.env=[(Ad,eval b X.env)]:=by rfl):
  PI X tg (.Call (.Name "range" p) [a,b] [] pos) (oM ta):=by
 intro pI s Y H R I h;refine Call_ (Kn I hg hm boot_range (Dy (thn (ha pos pI s Y H _ I h) λus s1 ⟨vs,H1,I1,r1,q1⟩=>?_) (by rw[hs,hs2]) (by rw[hs2];rfl)))
 obtain⟨i,j,e,⟨q1,q2,q3,q4⟩,q⟩:=q1;subst e;cases r1 with
 |cons r rr=>
  cases rr with
  |cons r' rr=>
   cases rr;obtain⟨t,rfl⟩:=r;obtain⟨t',rfl⟩:=r';exact call_range_2 (Rx I1 q1 q2 q3 q4 q)
def qT(wi:TI)(g:TG)(tb:TS):TS:=λD Y H=>wi Y H λJ H1=>∃ W:Af->Af->St->Hp->Prop,(∃ m,W 0 m Y H1)/\∀ i m Y H,W i m Y H ->
 (J.stop i H/\D.nx Y H)\/(J.go i H/\∃ N:St->Hp->Prop,(∀ Y' H',N Y' H'->∃ m',m'<m/\W (i+1) m' Y' H')/\∀ x H',J.yld i H x H'->g x Y H' λY2 H2=>tb {D with nx:=N,ct:=N,bk:=D.nx} Y2 H2)
noncomputable def JB(fp:Ac Ah)(h:AE):Pn:=fp.filterMap λb=>(h.get? b).map λo=>(b,o)
theorem K9(hb:b∈fp)(e:h.get? b=Aa o):(b,o)∈JB fp h:=List.mem_filterMap.mpr ⟨b,hb,by rw[e];rfl⟩
theorem QX{p:Ah×C7}(hp:p∈JB fp h):p.1∈fp/\h.get? p.1=Aa p.2:=by
 obtain⟨b,hb,e⟩:=List.mem_filterMap.mp hp;cases q:h.get? b with
 |none=>rw[q]at e;cases e
 |some o=>
  rw[q]at e;have e':(b,o)=p:=Bk e;subst e';exact⟨hb,q⟩
theorem Inv.pinned(I:Inv X pI Y H s)(hf:∀ b∈fp,Gp X pI H b)(ho:∀ b∈fp,∃ o,s.heap.get? b=Aa o/\∀ v,o.data≠.cell v):Inv X (pI++JB fp s.heap) Y H s:=
 I.pins_of λp hp=>(Hm.mp hp).elim (λz=>I.pin p (Bh _ z)) λz=>by
  obtain⟨hb,e⟩:=QX z;obtain⟨f0,f1,f2,_⟩:=hf p.1 hb;obtain⟨o,e',d⟩:=ho p.1 hb;rw[e]at e';cases e';exact⟨e,f0,f1,f2,d⟩
theorem Inv.unpinned{pl:Pn}(I:Inv X (pI++pl) Y H s):Inv X pI Y H s:=I.pins_of λp hp=>I.pin p (Bh _ (Ey _ hp))
theorem O0{iter:Am}{wi:TI}{g:TG}{tb:TS}(hp:Dz (model X.prog X.w) X.A X.env X.xe)(hc:X.calm=Ab)(hi:PI X tg iter wi)(hg:PG X tg g)(hb:PSs X body tb)(hs:∀ x,BL iter X.env x=pure x:=by intro _;rfl):PS X (.For tg iter body [] pos) (qT wi g tb):=by
 intro pI s Y H D I h;refine wpAny_For (thn (hi pI s Y H _ I h) λv s1 h1=>thn h1 λitv s2 h2=>?_) hs
 obtain⟨it,fp,tn,J,H2,e,I2,T,st2,f2,W,⟨m0,w0⟩,turn⟩:=h2;subst e
 -- what stays Ab of the iterator's objects through the loop
 have stat:∀{H':Hp},(∀ b∈fp,H' b=Ae)->∀ b∈fp,Gp X pI H' b:=λhn b hb=>⟨hn b hb,(f2 b hb).2⟩
 refine codeAny_forLoop_any (λn s'=>∃ i Y' H',Inv X pI Y' H' s'/\tn i s'.heap/\(∀ b∈fp,H' b=Ae)/\W i n Y' H') ?_ m0 ⟨0,Y,H2,I2,st2,λb hb=>(f2 b hb).1,w0⟩
 rintro n s3 ⟨i,Y3,H3,I3,st3,fr3,w3⟩;rcases turn i n Y3 H3 w3 with ⟨stop,qn⟩|⟨go,N,hN,step⟩
 .refine E8 hp (thn (T.done X rfl rfl rfl hc i pI s3 Y3 H3 X.xe I3 (stat fr3) st3 stop) λr s4 ⟨hr,I4⟩=>?_)
  subst hr;exact E7 ⟨Y3,H3,I4,qn⟩
 .refine E8 hp (thn (T.item X rfl rfl rfl hc i pI s3 Y3 H3 X.xe I3 (stat fr3) st3 go) λr s4 ⟨u,hr,h4⟩=>?_)
  subst hr;refine E8 hp (thn h4 λ_ s5 ⟨x,H5,I5,r5,y5,st5,fr5⟩=>?_)
  have I5':=I5.pinned (stat fr5) (T.obj _ _ st5);refine E8 hp (thn (hg _ s5 Y3 H5 x u _ I5' r5 (step x H5 y5)) λ_ s6 ⟨Y6,H6,I6,q6⟩=>?_)
  refine E8 hp (thn (hb _ s6 Y6 H6 _ I6 q6) λf s7 q7=>?_)
  have again:∀{Y7:St}{H7:Hp},Inv X (pI++JB fp s5.heap) Y7 H7 s7->N Y7 H7->∃ m,m<n/\∃ i Y' H',Inv X pI Y' H' s7/\tn i s7.heap/\(∀ b∈fp,H' b=Ae)/\W i m Y' H':=λ{Y7 H7} I7 n7=>by
   obtain⟨m',hm,w7⟩:=hN Y7 H7 n7;refine⟨m',hm,i+1,Y7,H7,I7.unpinned,T.keep _ _ _ st5 λb hb o e=>(I7.pin (b,o) (Bh _ (Bh _ (K9 hb e)))).1,λb hb=>?_,w7⟩
   obtain⟨o,e,d⟩:=T.obj _ _ st5 b hb;exact(I7.pin (b,o) (Bh _ (Bh _ (K9 hb e)))).2.1
  cases f with
  |next=>obtain⟨Y7,H7,I7,n7⟩:=q7;exact again I7 n7
  |cont=>obtain⟨Y7,H7,I7,n7⟩:=q7;exact again I7 n7
  |brk=>obtain⟨Y7,H7,I7,q7⟩:=q7;exact⟨Y7,H7,I7.unpinned,q7⟩
  |ret v=>obtain⟨x7,Y7,H7,I7,r7,q7⟩:=q7;exact⟨x7,Y7,H7,I7.unpinned,r7,q7⟩
end
abbrev R2:=V->V->Hp->VK->Prop
variable{r:R2}
noncomputable def OpR(X:Cx)(f:Aj->Aj->F0 Aj)(r:R2):Prop:=
 ∀(pI:Pn)(s:Ao)(Y:St)(H:Hp)(x y:V)(v u:Aj)(Q:VK),Inv X pI Y H s->Bs x v->Bs y u->r x y H Q ->
  Aw (model X.prog X.w) X.A (f v u) (EP X pI Y Q) X.xe s
noncomputable def Io(X:Cx)(f:Aj)(r:Ac V->Hp->VK->Prop):Prop:=
 ∀(pI:Pn)(s:Ao)(Y:St)(H:Hp)(xs:Ac V)(us:Ac Aj)(Q:VK),Inv X pI Y H s->AW xs us->r xs H Q ->
  Aw (model X.prog X.w) X.A (call f us) (EP X pI Y Q) X.xe s
noncomputable def XD(X:Cx)(r:V->Hp->(Ak->Hp->Prop)->Prop):Prop:=
 ∀(pI:Pn)(s:Ao)(Y:St)(H:Hp)(x:V)(v:Aj)(Q:Ak->Hp->Prop),Inv X pI Y H s->Bs x v->r x H Q ->
  Aw (model X.prog X.w) X.A (truthy v) (TP X pI Y Q) X.xe s
def tOp(r:R2)(ta tb:TE):TE:=λY H Q=>ta Y H λx H1=>tb Y H1 λy H2=>r x y H2 Q
def rI(C:Ai->Ai->Prop)(g:Ai->Ai->V):R2:=λx y H Q=>∃ i j,x=.int i/\y=.int j/\C i j/\Q (g i j) H
def rI0(g:Ai->Ai->V):R2:=λx y H Q=>∃ i j,x=.int i/\y=.int j/\Q (g i j) H
section
variable{X:Cx}{a b c:Am}{ta tb tc:TE}{pos:AA}
theorem Qa(ha:PE X a ta)(hb:PE X b tb){R:V->V->Hp->Prop}(I:Inv X pI Y H s)(h:ta Y H λx H1=>tb Y H1 λy H2=>R x y H2){Q:Vq}(hf:∀ v u s2 x y H2,Inv X pI Y H2 s2->Bs x v->Bs y u->R x y H2->Aw (model X.prog X.w) X.A (f v u) Q X.xe s2):Aw (model X.prog X.w) X.A (eval a X.env) (λv s₁=>Aw (model X.prog X.w) X.A (eval b X.env) (λu s₂=>Aw (model X.prog X.w) X.A (f v u) Q X.xe s₂) X.xe s₁) X.xe s:=by
 refine thn (ha pI s Y H _ I h) λv s1 ⟨x,H1,I1,r1,q1⟩=>?_
 refine thn (hb pI s1 Y H1 _ I1 q1) λu s2 ⟨y,H2,I2,r2,q2⟩=>?_
 exact hf v u s2 x y H2 I2 r1 r2 q2
theorem Ul{op:Fb}(ho:OpR X (B1 op) r)(ha:PE X a ta)(hb:PE X b tb):PE X (.BinOp a op b pos) (tOp r ta tb):=by
 intro pI s Y H Q I h;exact wpAny_BinOp (Qa ha hb I h λv u s2 x y H2 I2 rx ry q=>ho pI s2 Y H2 x y v u Q I2 rx ry q)
theorem opI{C:Ai->Ai->Prop}(rule:∀(i j:Ai)(t u:CI)(s:Ao)(Q:Vq)(E:Vq),C i j->Q (.int (g i j) s.toks) {s with toks:=s.toks+1}->Aw (model X.prog X.w) X.A (f (.int i t) (.int j u)) Q E s):OpR X f (rI C λi j=>.int (g i j)):=by
 intro pI s Y H x y v u Q I rx ry h;obtain⟨i,j,rfl,rfl,hc,q⟩:=h;obtain⟨t,rfl⟩:=rx;obtain⟨t',rfl⟩:=ry;exact rule i j t t' s _ _ hc ⟨.int (g i j),H,I.tok _,⟨_,rfl⟩,q⟩
theorem Vb(rule:∀(i j:Ai)(t u:CI)(s:Ao)(Q:Vq)(E:Vq),Q (.int (g i j) s.toks) {s with toks:=s.toks+1}->Aw (model X.prog X.w) X.A (f (.int i t) (.int j u)) Q E s):OpR X f (rI0 λi j=>.int (g i j)):=by
 intro pI s Y H x y v u Q I rx ry h;obtain⟨i,j,rfl,rfl,q⟩:=h;obtain⟨t,rfl⟩:=rx;obtain⟨t',rfl⟩:=ry;exact rule i j t t' s _ _ ⟨.int (g i j),H,I.tok _,⟨_,rfl⟩,q⟩
theorem MV{g:Ai->Ai->Ak}(rule:∀(i j:Ai)(t u:CI)(s:Ao)(Q:Vq)(E:Vq),Q (.bool (g i j)) s->Aw (model X.prog X.w) X.A (f (.int i t) (.int j u)) Q E s):OpR X f (rI0 λi j=>.bl (g i j)):=by
 intro pI s Y H x y v u Q I rx ry h;obtain⟨i,j,rfl,rfl,q⟩:=h;obtain⟨t,rfl⟩:=rx;obtain⟨t',rfl⟩:=ry;exact rule i j t t' s _ _ ⟨.bl (g i j),H,I,rfl,q⟩
def XI(i j:Ai):Prop:=0<j/\j<1073741824
def XH(i j:Ai):Prop:=0<=j/\j<=1000000/\i.natAbs<2 ^ 64
def M7(i j:Ai):Prop:=(-(2 ^ 64)<i/\i<2 ^ 64)\/(-(2 ^ 64)<j/\j<2 ^ 64)
theorem M7.ok{i j:Ai}(h:M7 i j):KU i j:=by
 rcases h with ⟨h1,h2⟩|⟨h1,h2⟩
 .exact .of_left (intBits_le_64 h1 h2)
 .exact .of_right (intBits_le_64 h1 h2)
theorem iG:OpR X (B1 .Add) (rI0 λi j=>.int (i+j)):=Vb λ_ _ _ _ _ _ _ q=>add_int q
theorem iC:OpR X (B1 .Sub) (rI0 λi j=>.int (i-j)):=Vb λ_ _ _ _ _ _ _ q=>sub_int q
theorem cB:OpR X (B1 .FloorDiv) (rI XI λi j=>.int (i/j)):=opI λi j _ _ _ _ _ hc q=>by
 have h1:(0:Ai)<j:=hc.1;have h2:j<1073741824:=hc.2;exact floordiv_int (by omega) (by rw[Int.fdiv_eq_ediv_of_nonneg i (by omega)];exact q) (.inl (PyProof.noPylong_small (by omega)))
theorem iE:OpR X (B1 .Mod) (rI (λ_ j=>0<j) λi j=>.int (i%j)):=opI λi j _ _ _ _ _ hc q=>by
 have h1:(0:Ai)<j:=hc;exact mod_int' (by omega) (by rw[Int.fmod_eq_emod_of_nonneg i (by omega)];exact q)
theorem iD:OpR X (B1 .Pow) (rI XH λi j=>.int (i ^ j.toNat)):=opI λ_ _ _ _ _ _ _ hc q=>pow_int_small hc.1 hc.2.1 hc.2.2 q
end
section
variable{X:Cx}{a b c:Am}{ta tb tc:TE}{pos:AA}
theorem SJ{Q:VK}{k k':Ak}(I:Inv X pI Y H s)(q:Q (.bl k) H)(e:k=k'):EP X pI Y Q (.bool k') s:=by
 subst e;exact⟨.bl k,H,I,rfl,q⟩
theorem lY:OpR X (Cu .Lt) (rI0 λi j=>.bl (decide (i<j))):=MV λ_ _ _ _ _ _ _ q=>lt_int q
theorem lZ:OpR X (Cu .LtE) (rI0 λi j=>.bl (decide (i<=j))):=MV λ_ _ _ _ _ _ _ q=>le_int q
theorem mB:OpR X (Cu .Gt) (rI0 λi j=>.bl (decide (j<i))):=MV λ_ _ _ _ _ _ _ q=>gt_int q
theorem mC:OpR X (Cu .GtE) (rI0 λi j=>.bl (decide (j<=i))):=MV λ_ _ _ _ _ _ _ q=>ge_int q
theorem iF:OpR X (Cu .Is) (λx y H Q=>y=.non/\Q (.bl (decide (x=.non))) H):=by
 intro pI s Y H x y v u Q I rx ry h;obtain⟨rfl,q⟩:=h;cases ry;refine is_none_gen (SJ I q ?_);cases x<;>first
  |(cases rx;rfl)
  |(obtain⟨t,rfl⟩:=rx;rfl)
theorem dX:OpR X (Cu .IsNot) (λx y H Q=>y=.non/\Q (.bl (!decide (x=.non))) H):=by
 intro pI s Y H x y v u Q I rx ry h;obtain⟨rfl,q⟩:=h;cases ry;refine isnot_none_gen (SJ I q ?_);cases x<;>first
  |(cases rx;rfl)
  |(obtain⟨t,rfl⟩:=rx;rfl)
theorem dO(ho:OpR X (Cu op) r)(ha:PE X a ta)(hb:PE X b tb)(hm:Gx op b=Ad):PE X (.Compare a [op] [b] pos) (tOp r ta tb):=by
 intro pI s Y H Q I h;exact wpAny_Compare1 (Qa ha hb I h λv u s2 x y H2 I2 rx ry q=>ho pI s2 Y H2 x y v u Q I2 rx ry q) hm
def T6(t:TE):TT:=λY H Q=>t Y H λx H'=>∃ k,x=.bl k/\Q k H'
theorem dF(ho:OpR X (Cu op) r)(ha:PE X a ta)(hb:PE X b tb)(hm:Gx op b=Ad):PT X (.Compare a [op] [b] pos) (T6 (tOp r ta tb)):=by
 intro pI s Y H Q I h;refine wpAny_isTrue_Compare1 (thn (ha pI s Y H _ I h) λv s1 ⟨x,H1,I1,r1,q1⟩=>thn (hb pI s1 Y H1 _ I1 q1) λu s2 ⟨y,H2,I2,r2,q2⟩=>
  thn (ho pI s2 Y H2 x y v u _ I2 r1 r2 q2) λc s3 ⟨z,H3,I3,r3,k,e,q3⟩=>?_) hm
 subst e;cases r3;exact Cv ⟨H3,I3,q3⟩
def Ts(r r':R2)(ta tb tc:TE):TE:=λY H Q=>ta Y H λx H1=>tb Y H1 λy H2=>r x y H2 λz H3=>∃ k,z=.bl k /\
 (if k=Ab then tc Y H3 λw' H4=>r' y w' H4 Q else Q (.bl Ad) H3)
theorem ZP{op':C4}{r':R2}(ho:OpR X (Cu op) r)(ho':OpR X (Cu op') r')(ha:PE X a ta)(hb:PE X b tb)(hc:PE X c tc)(hm:IS [op,op'] [b,c]=Ad:=by with_unfolding_all rfl):PE X (.Compare a [op,op'] [b,c] pos) (Ts r r' ta tb tc):=by
 intro pI s Y H Q I h;refine Compare_chain (thn (ha pI s Y H _ I h) λv s1 ⟨x,H1,I1,r1,q1⟩=>chain_link (thn (hb pI s1 Y H1 _ I1 q1) λu s2 ⟨y,H2,I2,r2,q2⟩=>
  thn (ho pI s2 Y H2 x y v u _ I2 r1 r2 q2) λd s3 ⟨z,H3,I3,r3,k,e,q3⟩=>?_)) hm
 subst e;cases r3;refine Cv ?_;cases k with
 |false=>exact ite_ff ⟨.bl Ad,H3,I3,rfl,q3⟩
 |true=>exact ite_tt (chain_last (thn (hc pI s3 Y H3 _ I3 q3) λw' s4 ⟨z',H4,I4,r4,q4⟩=>ho' pI s4 Y H4 y z' u w' Q I4 r2 r4 q4))
theorem YU{op':C4}{r':R2}(ho:OpR X (Cu op) r)(ho':OpR X (Cu op') r')(ha:PE X a ta)(hb:PE X b tb)(hc:PE X c tc)(hm:IS [op,op'] [b,c]=Ad:=by with_unfolding_all rfl):PT X (.Compare a [op,op'] [b,c] pos) (T6 (Ts r r' ta tb tc)):=by
 intro pI s Y H Q I h;refine isTrue_chain (thn (ha pI s Y H _ I h) λv s1 ⟨x,H1,I1,r1,q1⟩=>test_link (thn (hb pI s1 Y H1 _ I1 q1) λu s2 ⟨y,H2,I2,r2,q2⟩=>
  thn (ho pI s2 Y H2 x y v u _ I2 r1 r2 q2) λd s3 ⟨z,H3,I3,r3,k,e,q3⟩=>?_)) hm
 subst e;cases r3;refine Cv ?_;cases k with
 |false=>
  obtain⟨k',e',q'⟩:=q3;cases e';exact ite_ff ⟨H3,I3,q'⟩
 |true=>
  refine ite_tt (test_last (thn (hc pI s3 Y H3 _ I3 q3) λw' s4 ⟨z',H4,I4,r4,q4⟩=>thn (ho' pI s4 Y H4 y z' u w' _ I4 r2 r4 q4) λd' s5 ⟨z2,H5,I5,r5,k2,e2,q5⟩=>?_))
  subst e2;cases r5;exact Cv ⟨H5,I5,q5⟩
noncomputable def Vi(K:Fg)(x:V)(H:Hp)(k:Ak):Prop:=
  match x with
  |.non=>k=Ad
  |.bl b=>k=b
  |.int i=>k=(i != 0)
  |.str y=>y.length<=sizeLine/\k=((y.length:Ai) != 0)
  |.byt y=>y.size<=sizeLine/\k=((y.size:Ai) != 0)
  |.ref p=>(∃ xs,SqL K H p xs/\k=!xs.isEmpty)\/(∃ xs,SqT K H p xs/\k=!xs.isEmpty)\/∃ kvs,H p=Aa (.dK kvs)/\k=!kvs.isEmpty
  |_=>AU
theorem Yl{κ:Type}{kvs:Ac (κ×V)}{vs:Ac (κ×Aj)}(r:KV kvs vs):(!vs.isEmpty)=!kvs.isEmpty:=by
 cases r<;>rfl
theorem Qx{its:Ac Aj}(r:AW xs its):(!its.toArray.isEmpty)=!xs.isEmpty:=by
 cases r<;>simp
theorem Km:(sizeLine:Af)<2 ^ 63:=by rw[BZ];decide
theorem gQ:XD X (λx H Q=>∃ k,Vi X.K x H k/\Q k H):=by
 intro pI s Y H x v Q I rx h;obtain⟨k,e,q⟩:=h;have hl:=Km;have hs:sizeLine=16777216:=BZ;cases x with
 |non=>
  cases rx;have e':k=Ad:=e;subst e';exact truthy_none ⟨H,I,q⟩
 |bl b=>
  cases rx;have e':k=b:=e;subst e';exact Cv ⟨H,I,q⟩
 |int i=>
  obtain⟨t,rfl⟩:=rx;have e':k=(i != 0):=e;subst e';exact PySem.P.truthy_int ⟨H,I,q⟩
 |str y=>
  obtain⟨t,rfl⟩:=rx;obtain⟨hy,e'⟩:y.length<=sizeLine/\k=((y.length:Ai) != 0):=e;subst e';exact PySem.P.truthy_str (by omega) ⟨H,I.tok _,q⟩
 |byt y=>
  obtain⟨t,rfl⟩:=rx;obtain⟨hy,e'⟩:y.size<=sizeLine/\k=((y.size:Ai) != 0):=e;subst e';exact PySem.W.truthy_bytes (by omega) ⟨H,I.tok _,q⟩
 |ref p=>
  cases rx;have e':(∃ xs,SqL X.K H p xs/\k=!xs.isEmpty)\/(∃ xs,SqT X.K H p xs/\k=!xs.isEmpty)\/∃ kvs,H p=Aa (.dK kvs)/\k=!kvs.isEmpty:=e;rcases e' with ⟨xs,hx,e'⟩|⟨xs,hx,e'⟩|⟨kvs,hx,e'⟩
  .subst e';obtain⟨its,r,pl,hz⟩:=I.list hx;have hlen:=r.length;exact wpAny_truthy_list pl.isList (by simp only[A6];omega) ⟨H,I.tok _,by rw[Qx r];exact q⟩
  .subst e';obtain⟨its,r,pl,hz⟩:=I.tuple hx;have hlen:=r.length;exact truthy_tuple pl (by simp only[A6];omega) ⟨H,I.tok _,by rw[Qx r];exact q⟩
  .subst e';obtain⟨hz,hS,vs,r,m⟩:kvs.length<=sizeLine/\(p==JV)=Ad/\∃ vs,KV kvs vs/\s.heap.DictOf (Os X.prog X.w) p vs:=I.hok p _ hx;have hlen:kvs.length=vs.length:=WL r;exact wpAny_truthy_dict hS m (by omega) ⟨H,I.tok _,by rw[Yl r];exact q⟩
 |_=>exact(show AU from e).elim
theorem YT(ha:PE X a ta)(he:∀ whole,HQ a X.env whole=(do let v <-whole;standAt a.pos;holding [v] (truthy v))):PT X a (λY H Q=>ta Y H λx H'=>∃ k,Vi X.K x H' k/\Q k H'):=by
 intro pI s Y H Q I h;exact isTrue_plain (thn (ha pI s Y H _ I h) λv s1 ⟨x,H1,I1,r1,q1⟩=>gQ pI s1 Y H1 x v Q I1 r1 q1) (he _)
theorem Yj:OpR X (B1 .Add) (λx y H Q=>∃ i j,x=.str i/\y=.str j/\i.length+j.length<=sizeLine/\Q (.str (i++j)) H):=by
 intro pI s Y H x y v u Q I rx ry h;obtain⟨i,j,rfl,rfl,hz,q⟩:=h;obtain⟨t,rfl⟩:=rx;obtain⟨t',rfl⟩:=ry;exact add_str (λt' tk=>⟨.str (i++j),H,I.tok _,⟨_,rfl⟩,q⟩) hz
theorem Je{x:V}(r:AW [x] us):∃ u,us=[u]/\Bs x u:=by
 cases r with
 |cons r1 r2=>cases r2;exact⟨_,rfl,r1⟩
theorem Ks{x:V}(r:AW [x,y] us):∃ u w',us=[u,w']/\Bs x u/\Bs y w':=by
 cases r with
 |cons r1 r2=>
  cases r2 with
  |cons r3 r4=>cases r4;exact⟨_,_,rfl,r1,r3⟩
theorem XS:Io X (.type "str") (λxs H Q=>∃ i,xs=[.int i]/\i.natAbs.log2<1920/\Q (.str (toString i)) H):=by
 intro pI s Y H xs us Q I r h;obtain⟨i,rfl,hz,q⟩:=h;obtain⟨u,rfl,t,rfl⟩:=Je r;exact PySem.P.str_of_int hz ⟨.str _,H,I.tok _,⟨_,rfl⟩,q⟩
end
structure ObjM (h:AE) (x dx C:Ah) (mA:Ag->An Aj):Prop where
 obj:h.get? x=Aa (Dj C dx)
 ns:h.Ns1 dx mA
 ne:dx≠x
theorem YA(n:h.Ns1 dx mA):∃ od,h.get? dx=Aa od/\∀ name,Gd name od=Aa (mA name):=by
 obtain⟨o,es,ep,ho,hd,hk,_,hm⟩:=n;refine⟨o,ho,λname=>?_⟩
 have e:=hm name;unfold nsFind findBy at e;rw[<-Vm]at e;unfold Gd;rw[hd];dsimp only;split
 .rename_i y q;rw[q]at e;exact congrArg Aa e
 .rename_i q;rw[q]at e;have a:es.toList.any (·.refKey)=Ad:=by
   rw[List.any_eq_false];intro y hy;obtain⟨z,t,hkey⟩:=hk y (Array.mem_toList_iff.mp hy);simp[DictEntry.refKey,hkey]
  have a':¬ es.toList.any (·.refKey)=Ab:=by rw[a];exact At
  rw[AJ a'];exact congrArg Aa e
theorem ObjM.look{x:Ah}(I:ObjM h x dx C mA):∃ od,PySem.W.InstAt h x (Dj C dx) C (Aa od)/\∀ name,Gd name od=Aa (mA name):=
 let ⟨od,ho,hl⟩:=YA I.ns
 ⟨od,⟨I.obj,rfl,rfl,ho⟩,hl⟩
section
variable{prog:AL}{w:Az}{A:AR}{E:Vq}{s:Ao}{K:Fg}{x dx C f:Ah}{mA:Ag->An Aj}{name:Ag}{v:Aj}
theorem eT{expr:Ak}{Q:Vq}(X:K.In s.heap)(I:ObjM s.heap x dx C mA)(hg:EB K C name=Ab)(hh:Fu K C=Ab)(ha:Aq K (.ref C) name=Aa Ae)(hv:mA name=Aa v)(hv':W8 v=Ab)(h:Q v {s with toks:=s.toks+1}):Aw (model prog w) A (Jq (.ref x) name expr) Q E s:=by
 obtain⟨od,J,hl⟩:=I.look;exact PySem.W.get_value X J (Ga hg).1 (PySem.W.findObj_own hh ha rfl (by rw[hl,hv])) hv' h
theorem ZE{Q:Aj×Ac Aj->Ao->Prop}(X:K.In s.heap)(I:ObjM s.heap x dx C mA)(hg:EB K C name=Ab)(hf:Aq K (.ref C) name=Aa (Aa (.ref f)))(ht:CD K (.ref f)=Ab)(hv:mA name=Ae)(h:Q (.ref f,[.ref x]) s):Aw (model prog w) A (getMethod (.ref x) name pl) Q E s:=by
 obtain⟨od,J,hl⟩:=I.look;exact PySem.W.method_fn X J (Ga hg).1 (Ga hg).2 hf (AB.mp ht) (by show (Gd name od).map (·.isSome)=Aa Ad;rw[hl,hv];rfl) h
theorem aZ{ns:Ac Ag}(X:K.In s.heap)(I:ObjM s.heap x dx C mA)(hs:Aq K (.ref C) "__setattr__" = Aa (Aa (.builtin "object.__setattr__")))(hp:GM K C=Ab)(ht:Ht K C name=Aa Ae)(hh:Fu K C=Ab)(hw:IP mA ns)(hsz:ns.length<=sizeLine)(h:∀ h',ObjM h' x dx C (λy=>if y=name then Aa v else mA y)->Eo dx s.heap h'->Q () {s with heap:=h',toks:=s.toks+2}):Aw (model prog w) A (JY (.ref x) name v) Q E s:=by
  obtain⟨od,J,hl⟩:=I.look;refine PySem.W.set_plain X J hs (PySem.W.osa_open (s:={s with toks:=s.toks+1}) (r:=Ae) X J hp ht λb=>?_)
  obtain⟨cd,hc,hd'⟩:=PySem.W.any_some hh;have hx:s.heap.get? x=Aa ⟨.ref C,Aa dx,.plain,#[]⟩:=I.obj;refine As (Bi (As (As (Xr hx (As (PySem.W.Looks.here (s:={s with toks:=s.toks+1}) (PySem.W.looks_clsIn X hc) ?_))))))
  rw[hd'];refine Bi (a:=Aa dx) (As (Bi (As ?_)));refine wpAny_nsSet1 (s:={s with toks:=s.toks+1}) I.ns λh' hn2 hs2=>?_
  obtain⟨oD,esD,epD,hoD,hdD,hcD⟩:=hn2.count (PySem.Within.cons name v hw);refine As (Xs hoD (by rw[hdD];exact Xk (Cp hcD (by rw[Ba];omega))) ?_)
  exact Bi (h _ ⟨(hs2.2 _ (Cn I.ne)).trans I.obj,hn2,I.ne⟩ hs2)
theorem Q9{R:G1->Ao->Prop}{vs:Ac Aj}(X:K.In s.heap)(hm:Hs K C=Ab)(hi:Aq K (.ref C) "__init__" = Aa (Aa (.ref f)))(hf:Dd K (.ref f)=Aa (.type "function"))(h:Ep (model prog w) (A.under (.builtin "type.__call__" ⟨.ref C::vs,kw⟩)) (.call (.ref f) ⟨.ref (s.heap.objs.size+1)::vs,kw⟩) (PySem.W.InitBack (s.heap.objs.size+1) R)
      {s with heap:=(s.heap.push Ct).push (Dj C s.heap.objs.size)}):Ep (model prog w) A (.call (.ref C) ⟨vs,kw⟩) R s:=by
  obtain⟨hh,g,d,t,os⟩:=s;exact PySem.W.make_core (PySem.W.makes_of X hm) (B8 X hi) (λself=>PySem.W.bind_fn X self hf) (.inl rfl) h
end
noncomputable def EY(f:Ag)(v:V):Ac (Ag×V)->Ac (Ag×V)
 |[]=>[(f,v)]
 |(g,x)::r=>if g=f then (g,v)::r else (g,x)::EY f v r
theorem Qj(f g:Ag)(v:V):∀ fs:Ac (Ag×V),(EY f v fs).lookup g=if g=f then Aa v else fs.lookup g
 |[]=>by
  show BX g [(f,v)]=_;by_cases h:g=f
  .have hb:(g==f)=Ab:=AB.mpr h;simp only[BX,hb,AC h]
  .have hb:(g==f)=Ad:=CP.mpr h;simp only[BX,hb,AJ h]
 |(k,x)::r=>by
  have ih:=Qj f g v r;rw[show EY f v ((k,x)::r)=(if k=f then (k,v)::r else (k,x)::EY f v r) from rfl]
  by_cases hk:k=f
  .rw[AC hk];by_cases h:g=k
   .have hb:(g==k)=Ab:=AB.mpr h;simp only[BX,hb,AC (h.trans hk)]
   .have hb:(g==k)=Ad:=CP.mpr h;simp only[BX,hb,AJ (λe:g=f=>h (e.trans hk.symm))]
  .rw[AJ hk];by_cases h:g=k
   .have hb:(g==k)=Ab:=AB.mpr h;simp only[BX,hb,AJ (λe:g=f=>hk (h.symm.trans e))]
   .have hb:(g==k)=Ad:=CP.mpr h;simp only[BX,hb];exact ih
theorem N0(f:Ag)(v:V):∀ fs:Ac (Ag×V),f∈(EY f v fs).map (·.1)/\∀ g,g∈fs.map (·.1)->g∈(EY f v fs).map (·.1)
 |[]=>⟨by simp[EY],λg h=>by simp at h⟩
 |(k,x)::r=>by
  obtain⟨i1,i2⟩:=N0 f v r;rw[show EY f v ((k,x)::r)=(if k=f then (k,v)::r else (k,x)::EY f v r) from rfl]
  by_cases hk:k=f
  .rw[AC hk];subst hk;exact⟨by simp,λg h=>by simpa using h⟩
  .rw[AJ hk];refine⟨?_,λg h=>?_⟩
   .rw[B2];exact AF _ i1
   .rw[B2]at h ⊢;rcases AH.mp h with e|e
    .exact List.mem_cons.mpr (.inl e)
    .exact AF _ (i2 g e)
theorem Qk(f:Ag)(v:V):∀ fs:Ac (Ag×V),(EY f v fs).length<=fs.length+1
 |[]=>by simp[EY]
 |(k,x)::r=>by
  have ih:=Qk f v r;rw[show EY f v ((k,x)::r)=(if k=f then (k,v)::r else (k,x)::EY f v r) from rfl]
  by_cases hk:k=f
  .rw[AC hk,Ba,Ba];omega
  .rw[AJ hk,Ba,Ba];omega
theorem Hk.some_of{o:An Aj}(r:Hk (Aa v) o):∃ u,o=Aa u/\Bs v u:=by
 cases o with
 |none=>exact(show AU from r).elim
 |some u=>exact⟨u,rfl,r⟩
theorem Hk.none_of{o:An Aj}(r:Hk Ae o):o=Ae:=by
 cases o with
 |none=>rfl
 |some u=>exact(show AU from r).elim
theorem QD(r:Bs v u):W8 u=Ab:=by
 cases v with
 |non=>cases (show u=CB from r);rfl
 |bl b=>cases (show u=HV b from r);rfl
 |int i=>obtain⟨t,e⟩:=(show ∃ t,u=IM i t from r);cases e;rfl
 |str x=>obtain⟨t,e⟩:=(show ∃ t,u=IN x t from r);cases e;rfl
 |byt b=>obtain⟨t,e⟩:=(show ∃ t,u=W2 b t from r);cases e;rfl
 |flt b=>obtain⟨t,e⟩:=(show ∃ t,u=Jr b t from r);cases e;rfl
 |ref a=>cases (show u=Bc a from r);rfl
 |ty n=>cases (show u=JS n from r);rfl
section
variable{P:AL}{w:Az}{H H':Hp}{h h':AE}{a C dx:Ah}{fs fs':Ac (Ag×V)}
theorem Mg(hok:HOk P w H h)(e:H a=Aa (.ins C dx fs)):∃ mA,ObjM h a dx C mA/\(∀ f,Hk (fs.lookup f) (mA f))/\IP mA (fs.map (·.1))/\fs.length<=1000/\H dx=Aa (.own a):=by
 obtain⟨d,z,ne,ob,mA,n,r,q⟩:=(show ObjOk P w H h a (.ins C dx fs) from hok a _ e)
 exact⟨mA,⟨ob,n,ne⟩,r,q,z,d⟩
end
structure Cls (K:Fg) (C:Ah):Prop where
 pg:EB K C Dm=Ab
 hd:Fu K C=Ab
 po:GM K C=Ab
 sa:Aq K (.ref C) "__setattr__" = Aa (Aa (.builtin "object.__setattr__"))
theorem Cls.get{K:Fg}(c:Cls K C)(f:Ag):EB K C f=Ab:=c.pg
def Gz(K:Fg)(C:Ah)(f:Ag):Prop:=Aq K (.ref C) f=Aa Ae
theorem Gz.taker{K:Fg}{f:Ag}(n:Gz K C f):Ht K C f=Aa Ae:=by
 unfold Ht;rw[show Aq K (.ref C) f=Aa Ae from n]
 rfl
structure Meth (K:Fg) (C:Ah) (m:Ag) (f:Ah):Prop where
 at_:Aq K (.ref C) m=Aa (Aa (.ref f))
 fn:CD K (.ref f)=Ab
 kp:Bf K (.ref f)=Ab
section
variable{X:Cx}{pI:Pn}{Y:St}{H:Hp}{s:Ao}{a C dx:Ah}{fs:Ac (Ag×V)}{f:Ag}{v:V}{A:AR}{E:Vq}
theorem Yn{b:Ak}{Q:Vq}(I:Inv X pI Y H s)(e:H a=Aa (.ins C dx fs))(c:Cls X.K C)(n:Gz X.K C f)(l:fs.lookup f=Aa v)(h:∀ u s',Inv X pI Y H s'->Bs v u->Q u s'):Aw (model X.prog X.w) A (Jq (.ref a) f b) Q E s:=by
 obtain⟨mA,O,r,_,_,_⟩:=Mg I.hok e;obtain⟨u,hu,ru⟩:=Hk.some_of (v:=v) (o:=mA f) (by rw[<-l];exact r f)
 exact eT I.kIn O (c.get f) c.hd n hu (QD ru) (h u _ (I.tok _) ru)
theorem Qy{m:Ag}{g:Ah}{Q:Aj×Ac Aj->Ao->Prop}(I:Inv X pI Y H s)(e:H a=Aa (.ins C dx fs))(c:Cls X.K C)(k:Meth X.K C m g)(l:fs.lookup m=Ae)(h:Q (.ref g,[.ref a]) s):Aw (model X.prog X.w) A (getMethod (.ref a) m pl) Q E s:=by
 obtain⟨mA,O,r,_,_,_⟩:=Mg I.hok e;have hn:mA m=Ae:=Hk.none_of (by rw[<-l];exact r m)
 exact ZE I.kIn O (c.get m) k.at_ k.fn hn h
theorem X2(I:Inv X pI Y H s)(e:H a=Aa (.ins C dx fs))(c:Cls X.K C)(n:Gz X.K C f)(hl:fs.length<1000)(ry:Bs y u)(h:∀ s',Inv X pI Y (upd H a (.ins C dx (EY f y fs))) s'->Q () s'):Aw (model X.prog X.w) A (JY (.ref a) f u) Q E s:=by
 obtain⟨mA,O,r,wi,_,ho⟩:=Mg I.hok e;have hz:(fs.map (·.1)).length<=sizeLine:=by rw[CA,BZ];omega
 refine aZ I.kIn O c.sa c.po n.taker c.hd wi hz λh' O' sb=>h _ ?_
 have hd:∃ o,h'.get? dx=Aa o:=let ⟨o,_,_,e',_⟩:=O'.ns;⟨o,e'⟩
 refine I.write (x:=a) (e:=dx) (by rw[e];exact Fo) (.inr ho) (λb q hb z=>(sb.2 b hb).trans z) hd ?_
 refine⟨by rw[Bb O.ne];exact ho,?_,O.ne,O'.obj,_,O'.ns,λg=>?_,λg hg=>?_⟩
 .have:=Qk f y fs;omega
 .show Hk ((EY f y fs).lookup g) (if g=f then Aa u else mA g)
  rw[Qj];by_cases q:g=f
  .rw[AC q,AC q];exact ry
  .rw[AJ q,AJ q];exact r g
 .by_cases q:g=f
  .rw[q];exact(N0 f y fs).1
  .refine(N0 f y fs).2 g (wi g λz=>hg ?_)
   show (if g=f then Aa u else mA g)=Ae
   rw[AJ q];exact z
theorem Inv.made(I:Inv X pI Y H s):Inv X pI Y (upd (upd H s.heap.objs.size (.own (s.heap.objs.size+1))) (s.heap.objs.size+1) (.ins C s.heap.objs.size [])) {s with heap:=(s.heap.push Ct).push (Dj C s.heap.objs.size)}:=by
  have e1:(s.heap.push Ct).get? s.heap.objs.size=Aa Ct:=Be s.heap rfl;have e2:((s.heap.push Ct).push (Dj C s.heap.objs.size)).get? (s.heap.objs.size+1)=Aa (Dj C s.heap.objs.size):=by
    have:=Be (s.heap.push Ct) (o:=Dj C s.heap.objs.size) rfl
    rwa [Ds]at this
  have e3:(s.heap.push Ct).Ns s.heap.objs.size (λ_=>Ae):=⟨Ct,#[],_,e1,rfl,(λe he=>absurd he (by simp)),λ_=>rfl⟩
  have I1:=I.laid (a:=s.heap.objs.size) (o:=.own (s.heap.objs.size+1)) (h':=s.heap.push Ct) (t':=s.toks) (λb u q=>Ax _ q) (AN _) ⟨_,e1⟩
  refine I1.laid (a:=s.heap.objs.size+1) (o:=.ins C s.heap.objs.size []) (t':=s.toks) (λb u q=>Ax _ q) (VN (Ds _ _)) ?_
  have ne:s.heap.objs.size≠s.heap.objs.size+1:=Bp (Ez _);refine⟨by rw[Bb ne,C8],Dh _,ne,e2,λ_=>Ae,(WF e3).at λo q=>Ax _ q,λ_=>Fo,λy hy=>absurd rfl hy⟩
theorem Sy{prog:AL}{w:Az}{env:Cc}{f:Ag}{Q:Vq}(hb:Cd e f env (eval e env)=eval e env)(h:Aw (model prog w) A (eval e env) (λo s₁=>Aw (model prog w) A (Jq o f Ab) Q E s₁) E s):Aw (model prog w) A (eval (.Attribute e f pos) env) Q E s:=
 Attribute_any_ h (by rw[arm_eval_Attribute,hb])
end
def qA(K:Fg)(ta tv:TE)(f:Ag):TS:=λD Y H=>tv Y H λy H1=>ta Y H1 λx H2=>∃ a C dx fs,x=.ref a/\H2 a=Aa (.ins C dx fs)/\Cls K C/\Gz K C f/\fs.length<1000 /\
 D.nx Y (upd H2 a (.ins C dx (EY f y fs)))
section
variable{X:Cx}{o e value:Am}{f:Ag}{pos pos' tpos:AA}{ta tv:TE}
theorem S0(ha:PE X o ta)(hv:PE X value tv)(hs:CF value (Aa (.Attribute o f pos')) pos.line X.env=pure Ad):PS X (.Assign [.Attribute o f pos'] value pos) (qA X.K ta tv f):=by
 intro pI s Y H D I h;refine Xl (thn (hv pI s Y H _ I h) λu s1 ⟨y,H1,I1,ry,q⟩=>thn (ha pI s1 Y H1 _ I1 q) λov s2 ⟨x,H2,I2,rx,a,C,dx,fs,ex,ea,c,n,l,q2⟩=>?_) hs
 subst ex;obtain rfl:ov=Bc a:=rx;exact X2 I2 ea c n l ry λs3 I3=>⟨Y,_,I3,q2⟩
end
section
variable{X:Cx}{pI:Pn}{Y:St}{H:Hp}{s:Ao}{A:AR}{E:Vq}{Q:Vq}{c:Aj}{b:Ak}
inductive TyOf (K:Fg) (H:Hp):V->Aj->Prop where
  |non:TyOf K H .non (.type "NoneType")
  |bl (x:Ak):TyOf K H (.bl x) (.type "bool")
  |int (i:Ai):TyOf K H (.int i) (.type "int")
  |str (x:Ag):TyOf K H (.str x) (.type "str")
  |flt (x:UInt64):TyOf K H (.flt x) (.type "float")
  |lst {a:Ah} {xs:Ac V} (e:H a=Aa (.lst xs)):TyOf K H (.ref a) (.type "list")
  |frz {a:Ah} {o:C7} {xs:Ac V} (e:H a=Aa (.frz o (.lst xs))):TyOf K H (.ref a) (.type "list")
  |tup {a:Ah} {xs:Ac V} (e:H a=Aa (.tup xs)):TyOf K H (.ref a) (.type "tuple")
  |dK {a:Ah} {kvs:Ac (Key×V)} (e:H a=Aa (.dK kvs)):TyOf K H (.ref a) (.type "dict")
  |dT {a:Ah} {kvs:Ac (Ac Key×V)} (e:H a=Aa (.dT kvs)):TyOf K H (.ref a) (.type "dict")
  |ins {a C dx:Ah} {fs:Ac (Ag×V)} (e:H a=Aa (.ins C dx fs)) (cl:Cls K C) (ha:Aq K (.ref C) "__class__" = Aa (Aa (.builtin "object.__class__")))
      (hn:BY K (.builtin "object.__class__") "__get__" = Aa (Aa (.builtin "getset_descriptor.__get__"))) (htk:Hu K (.builtin "object.__class__")=Aa Ab)
      (hm:B4 K C (.type "object")=Aa Ab):TyOf K H (.ref a) (.ref C)
theorem YB{x:V}{t:Aj}(I:Inv X pI Y H s)(rx:Bs x u)(ty:TyOf X.K H x t)(e:BR X.K t c=Aa b)(h:∀ tk,Q (.bool b) {s with toks:=tk}):
  Aw (model X.prog X.w) A (call (.builtin "isinstance") [u,c]) Q E s:=by
 cases ty with
 |non=>cases (show u=CB from rx);exact B7 PySem.W.kitx_none I.kIn Fo e (λz=>nomatch z) h
 |bl y=>cases (show u=HV y from rx);exact B7 PySem.W.kitx_bool I.kIn Fo e (λz=>nomatch z) h
 |int i=>obtain⟨t,q⟩:=(show ∃ t,u=IM i t from rx);cases q;exact B7 PySem.W.kitx_int I.kIn Fo e (λz=>nomatch z) h
 |str y=>obtain⟨t,q⟩:=(show ∃ t,u=IN y t from rx);cases q;exact B7 PySem.W.kitx_str I.kIn Fo e (λz=>nomatch z) h
 |flt y=>obtain⟨t,q⟩:=(show ∃ t,u=Jr y t from rx);cases q;exact B7 PySem.W.kitx_float I.kIn Fo e (λz=>nomatch z) h
 | @lst a xs ea=>
  cases (show u=Bc a from rx)
  obtain⟨_,_,n,_,h1⟩:=(show ObjOk X.prog X.w H s.heap a (.lst xs) from I.hok a _ ea)
  exact B7 Xd I.kIn ⟨_,h1,rfl⟩ e (λz=>nomatch z) h
 | @frz a ob xs ea=>
  cases (show u=Bc a from rx)
  obtain⟨_,_,_,n,_,h1⟩:=(show ObjOk X.prog X.w H s.heap a (.frz ob (.lst xs)) from I.hok a _ ea)
  exact B7 Xd I.kIn ⟨_,h1,rfl⟩ e (λz=>nomatch z) h
 | @tup a xs ea=>
  cases (show u=Bc a from rx)
  obtain⟨_,_,_,p⟩:=(show ObjOk X.prog X.w H s.heap a (.tup xs) from I.hok a _ ea)
  obtain⟨o,h1,h2,_⟩:=p;exact B7 PySem.W.kitx_tuple I.kIn ⟨o,h1,h2⟩ e (λz=>nomatch z) h
 | @dK a kvs ea=>
  cases (show u=Bc a from rx)
  obtain⟨_,_,vs,_,p⟩:=(show ObjOk X.prog X.w H s.heap a (.dK kvs) from I.hok a _ ea)
  obtain⟨o,es,ep,h1,h2,_⟩:=p;exact B7 Xc I.kIn ⟨o,h1,h2.1⟩ e (λz=>nomatch z) h
 | @dT a kvs ea=>
  cases (show u=Bc a from rx)
  obtain⟨_,_,xs,_,o,es,ep,h1,h2,_⟩:=(show ObjOk X.prog X.w H s.heap a (.dT kvs) from I.hok a _ ea)
  exact B7 Xc I.kIn ⟨o,h1,h2.1⟩ e (λz=>nomatch z) h
 | @ins a C dx fs ea cl ha hn htk hm=>
  cases (show u=Bc a from rx)
  obtain⟨mA,O,_⟩:=Mg I.hok ea;obtain⟨od,J,_⟩:=O.look;exact B7 (PySem.W.kitx_own (cl.get _) cl.hd ha hn htk hm) I.kIn J e (λz=>nomatch z) h
end
structure Room (k:Af) (A:AR):Prop where
 hd:A.handled=Ae
 dp:A.depth+3*k+5<HU
 un:A.units+16*k+200<BE
 gd:A.guards=Aa []
theorem Room.mono{j:Af}{A:AR}(r:Room k A)(h:j<=k):Room j A:=⟨r.hd,by have:=r.dp;omega,by have:=r.un;omega,r.gd⟩
theorem Room.deeper{A:AR}(r:Room (k+1) A)(env:Cc):Room k (A.deeper env):=
 ⟨r.hd,by have:=r.dp;show A.depth+1+3*k+5<_;omega,by have:=r.un;show A.units+3+16*k+200<_;omega,r.gd⟩
theorem NL{A:AR}:(A.under (.builtin "type.__call__" ⟨.ref C::us,kw⟩)).depth=A.depth+1:=by
 first|rfl|simp[II,Code.weight,Code.isCreation,Code.isGuard,Code.isCaller,V2,IJ,guardIds]
theorem NK{A:AR}:(A.under (.builtin "type.__call__" ⟨.ref C::us,kw⟩)).units=A.units+1:=by
 first|rfl|simp[II,Code.cUnits,V2,IJ]
theorem Room.make{A:AR}(r:Room (k+1) A)(C:Ah)(us:Ac Aj)(kw:Ac (Ag×Aj)):Room k (A.under (.builtin "type.__call__" ⟨.ref C::us,kw⟩)):=
 ⟨r.hd,by have:=r.dp;rw[NL];omega,by have:=r.un;rw[NK];omega,r.gd⟩
theorem Room.depth{A:AR}(r:Room k A):A.depth<HU:=by have:=r.dp;omega
theorem Room.units{A:AR}(r:Room k A):A.units+64<BE:=by have:=r.un;omega
def qQ:TA:=λ_ H Q=>Q [] H
def lQ(ta:TE)(tr:TA):TA:=λY H Q=>ta Y H λx H1=>tr Y H1 λxs H2=>Q (x::xs) H2
section
variable{X:Cx}{e:Am}{es:Ac Am}{te:TE}{t:TA}{pos:AA}
theorem Fe:PA X [] qQ:=λ_ _ _ _ H Q I h=>Calls.spliced_nil ⟨[],H,I,.nil,h⟩
theorem DU(ha:PE X e te)(hr:PA X es t)(hs:Ar (e::es) X.env=(Ad,eval e X.env)::Ar es X.env:=by rfl):PA X (e::es) (lQ te t):=by
 intro pos pI s Y H Q I h;rw[hs];show Aw _ _ (spliced ((Ad,eval e X.env)::Bu pos (Ar es X.env))) _ _ s;refine Calls.spliced_cons (thn (ha pI s Y H _ I h) λu s1 ⟨x,H1,I1,r1,q1⟩=>?_)
 exact thn (hr pos pI s1 Y H1 _ I1 q1) λus s2 ⟨xs,H2,I2,r2,q2⟩=>⟨x::xs,H2,I2,.cons r1 r2,q2⟩
def qL(t:TA):TE:=λY H Q=>t Y H λxs H1=>xs.length<=sizeLine/\∀ p,H1 p=Ae->Q (.ref p) (upd H1 p (.tup xs))
def qR(t:TA):TE:=λY H Q=>t Y H λxs H1=>xs.length<=sizeLine/\∀ p,H1 p=Ae->Q (.ref p) (upd H1 p (.lst xs))
theorem S6{x1}(h:PA X es t):PE X (.Tuple es x1 pos) (qL t):=by
 intro pI s Y H Q I hq;refine wpAny_Tuple_spliced (thn (h pos pI s Y H _ I hq) λus s1 ⟨xs,H1,I1,r,z,q⟩=>⟨by rw[<-r.length];exact z,?_⟩)
 have hf:H1 s1.heap.objs.size=Ae:=I1.hok.fresh (AN _);refine⟨.ref s1.heap.objs.size,upd H1 s1.heap.objs.size (.tup xs),I1.laid (t':=s1.toks) (λb u e=>Ax _ e) (AN _) ?_,rfl,q _ hf⟩
 exact⟨z,us,r,⟨_,Be _ rfl,rfl,_,rfl⟩⟩
theorem S7(h:PA X es t):PE X (.List es pos) (qR t):=by
 intro pI s Y H Q I hq;refine wpAny_List_spliced (thn (h pos pI s Y H _ I hq) λus s1 ⟨xs,H1,I1,r,z,q⟩=>⟨by rw[<-r.length];exact z,?_⟩)
 have hf:H1 s1.heap.objs.size=Ae:=I1.hok.fresh (AN _);refine⟨.ref s1.heap.objs.size,upd H1 s1.heap.objs.size (.lst xs),I1.laid (t':=s1.toks) (λb u e=>Ax _ e) (AN _) ?_,rfl,q _ hf⟩
 exact⟨z,us,0,r,Be _ rfl⟩
end
abbrev Sp:=Ac V->Hp->VK->XK->Prop
variable{sp:Sp}
abbrev CXT:=Ac Cc->Hp->Ao->XK->Aj->Ao->Prop
variable{CX:CXT}
structure Env0 (P:AL) (w:Az) (K:Fg) (mg:Ag->An Aj) (base:AE) (A:AR) (outer:Ac Cc) (s:Ao) (H:Hp):Prop where
 frames:A.frames=Aa outer
 mod:Mod K mg base
 bs:∀ b o,base.get? b=Aa o->s.heap.get? b=Aa o/\H b=Ae
 bsz:base.objs.size<=s.heap.objs.size
 funs:s.heap.FunFrames base outer
 frf:∀ b∈frs outer,H b=Ae
 hok:HOk P w H s.heap
 bare:Fn s.gens
noncomputable def CE(outer:Ac Cc)(P:AL)(w:Az)(H:Hp)(s:Ao)(Q:VK)(u:Aj)(s':Ao):Prop:=
 ∃ v H',s'.os=s.os/\Fn s'.gens/\Un (frs outer) [] H H' s.heap s'.heap/\HOk P w H' s'.heap/\Bs v u/\Q v H'
noncomputable def CR(CX:CXT)(outer:Ac Cc)(P:AL)(w:Az)(H:Hp)(s:Ao)(Q:VK)(E:XK)(r:G1)(s':Ao):Prop:=
  match r with
  |.ok (.ret u)=>CE outer P w H s Q u s'
  |.ok _=>AU
  |.error e=>CX outer H s E e s'
structure FnOk (P:AL) (w:Az) (K:Fg) (mg:Ag->An Aj) (base:AE) (CX:CXT) (k:Af) (f:Ah) (fd:Bv) (ps:Ac Ag) (sp:Sp):Prop where
 len:∀ vs H Q E,sp vs H Q E->vs.length=ps.length
 run:∀(A:AR)(outer:Ac Cc)(s:Ao)(H:Hp)(args:Args)(us:Ac Aj)(vs:Ac V)(Q:VK)(E:XK),Room k A->Env0 P w K mg base A outer s H->FR s fd args (ps.zip us)->AW vs us->sp vs H Q E ->
  Ep (model P w) A (.call (.ref f) args) (CR CX outer P w H s Q E) s
theorem FnOk.imp{w:Az}{K:Fg}{mg:Ag->An Aj}{base:AE}{f:Ah}{sp':Sp}(F:FnOk P w K mg base CX k f fd ps sp)(h:∀ vs H Q E,sp' vs H Q E->sp vs H Q E):FnOk P w K mg base CX k f fd ps sp':=
 ⟨λvs H Q E q=>F.len vs H Q E (h _ _ _ _ q),λA outer s H args us vs Q E hr he hb hv hs=>F.run A outer s H args us vs Q E hr he hb hv (h _ _ _ _ hs)⟩
theorem Env0.make{w:Az}{K:Fg}{mg:Ag->An Aj}{base:AE}{A:AR}{outer:Ac Cc}(e:Env0 P w K mg base A outer s H)(C:Ah)(us:Ac Aj)(kw:Ac (Ag×Aj)):
    Env0 P w K mg base (A.under (.builtin "type.__call__" ⟨.ref C::us,kw⟩)) outer s H:=⟨by first|exact e.frames|(simpa [II,Code.envs,IJ,pushEnvs] using e.frames),e.mod,e.bs,e.bsz,e.funs,e.frf,e.hok,e.bare⟩
section
variable{X:Cx}{pI:Pn}{Y:St}{H:Hp}{s s':Ao}
theorem Inv.env0(I:Inv X pI Y H s):Env0 X.prog X.w X.K X.mg X.base X.A X.stack s H:=
 ⟨I.ok.frames,I.ok.mod,I.bs,Cp I.ok.bsz I.sz,I.stack,I.stkFree,I.hok,I.bare⟩
theorem Inv.after{Q:VK}(I:Inv X pI Y H s)(h:CE X.stack X.prog X.w H s Q u s'):EP X pI Y Q u s':=by
 obtain⟨v,H',os,bare,un,hok,r,q⟩:=h;obtain⟨hh,g,d,t,os'⟩:=s';obtain rfl:os'=s.os:=os;exact⟨v,H',I.call (h':=hh) (g':=g) (d':=d) (t':=t) (ch:=[]) un hok bare (λb z=>absurd z (by simp)),r,q⟩
end
def lR(sp:Sp)(dvs:Ac V)(E:XK)(t:TA):TE:=λY H Q=>t Y H λvs H1=>sp (vs++dvs) H1 Q E
noncomputable def DB(K:Fg)(fd:Bv)(ps:Ac Ag)(ds:Ac Aj):Prop:=
 ∀(s:Ao)(us:Ac Aj),K.In s.heap->(us++ds).length=ps.length->FR s fd ⟨us,[]⟩ (ps.zip (us++ds))
theorem DB.all{K:Fg}(h:∀ us:Ac Aj,us.length=ps.length->FK fd ⟨us,[]⟩=pure (ps.zip us)):DB K fd ps []:=λs us _ hl=>by
 rw[BA]at hl ⊢;exact .of_eq (h us hl)
def HH(CX:CXT)(X:Cx)(E:XK):Prop:=∀(pI:Pn)(Y:St)(H:Hp)(s:Ao)(e:Aj)(s':Ao),Inv X pI Y H s->CX X.stack H s E e s'->X.xe e s'
section
variable{X:Cx}{CX:CXT}{k:Af}{f C:Ah}{fd:Bv}{ps:Ac Ag}{sp:Sp}{dvs:Ac V}{ds:Ac Aj}{E:XK}{x m:Ag}{p pos apos:AA}{e o:Am}{es:Ac Am}{ta:TE}{t:TA}
theorem SZ{Q:VK}(F:FnOk X.prog X.w X.K X.mg X.base CX k f fd ps sp)(hr:Room k X.A)(hb:DB X.K fd ps ds)(hd:AW dvs ds)(hx:HH CX X E)(I:Inv X pI Y H s)(r:AW vs us)(h:sp (vs++dvs) H Q E):Aw (model X.prog X.w) X.A (call (.ref f) us) (EP X pI Y Q) X.xe s:=by
 have r2:AW (vs++dvs) (us++ds):=r.append hd;have hl:(us++ds).length=ps.length:=by rw[<-r2.length];exact F.len _ _ _ _ h
 refine D9 (DA (F.run X.A X.stack s H ⟨us,[]⟩ (us++ds) (vs++dvs) Q E hr I.env0 (hb s us I.kIn hl) r2 h) λr s' hq=>?_)
 cases r with
 |error e=>exact hx pI Y H s e s' I hq
 |ok fl=>
  cases fl with
  |ret u=>exact I.after hq
  |next=>exact AV hq
  |brk=>exact AV hq
  |cont=>exact AV hq
theorem Sh(F:FnOk X.prog X.w X.K X.mg X.base CX k f fd ps sp)(hr:Room k X.A)(hg:Gl X x)(hm:X.mg x=Aa (.ref f))(hk:Bf X.K (.ref f)=Ab)(hb:DB X.K fd ps ds)(hd:AW dvs ds)(hx:HH CX X E)(ha:PA X (e::es) t)(hdb:(x==("__debug__" : Ag))=Ad:=by decide)(he:Ar (e::es) X.env=(Ad,eval e X.env)::Ar es X.env:=by rfl)(hpl:(Bu pos (Ar es X.env)).any (·.1)=Ad:=by rfl):PE X (.Call (.Name x p) (e::es) [] pos) (lR sp dvs E t):=by
 intro pI s Y H Q I h;refine Cm (Gy I hg hm ?_ hdb);refine CC (h₀:=X.base) I.ok.mod.kin hk (thn (ha pos pI s Y H _ I h) λus s1 ⟨vs,H1,I1,r,q⟩=>⟨I1.kIn,?_⟩) he hpl
 exact SZ F hr hb hd hx I1 r q
structure Mk (K:Fg) (C f:Ah):Prop where
 makes:Hs K C=Ab
 init:Aq K (.ref C) "__init__" = Aa (Aa (.ref f))
 fn:CD K (.ref f)=Ab
 kp:Bf K (.ref C)=Ab
theorem Ru{Q:VK}(M:Mk X.K C f)(F:FnOk X.prog X.w X.K X.mg X.base CX k f fd ps sp)(hr:Room (k+1) X.A)(hb:DB X.K fd ps ds)(hd:AW dvs ds)(hx:HH CX X E)(I:Inv X pI Y H s)(r:AW vs us)(h:∀ x dx,H x=Ae->H dx=Ae->dx≠x->sp (.ref x::(vs++dvs)) (upd (upd H dx (.own x)) x (.ins C dx [])) (λv H2=>v=.non/\Q (.ref x) H2) E):Aw (model X.prog X.w) X.A (call (.ref C) us) (EP X pI Y Q) X.xe s:=by
 have hq:=h (s.heap.objs.size+1) s.heap.objs.size (I.hok.fresh (Hw _)) (I.hok.fresh (AN _)) (Bp (Ez _));have I2:=Inv.made (C:=C) I;have r2:AW (V.ref (s.heap.objs.size+1)::(vs++dvs)) (Bc (s.heap.objs.size+1)::(us++ds)):=.cons rfl (r.append hd);have hl:(Bc (s.heap.objs.size+1)::us++ds).length=ps.length:=by
  have e:=r2.length;rw[F.len _ _ _ _ hq]at e;exact e.symm
 refine D9 (Q9 (f:=f) I.kIn M.makes M.init (AB.mp M.fn) (DA (F.run _ X.stack _ _ ⟨Bc (s.heap.objs.size+1)::us,[]⟩ (Bc (s.heap.objs.size+1)::(us++ds)) _ _ E (hr.make C us [])
  (I2.env0.make C us []) (hb _ (Bc (s.heap.objs.size+1)::us) I2.kIn hl) r2 hq) λr s' hq'=>?_))
 cases r with
 |error e=>exact hx pI Y _ _ e s' I2 hq'
 |ok fl=>
  cases fl with
  |ret u=>
   obtain⟨v,H',I3,rv,ev,q3⟩:=I2.after hq';subst ev;exact⟨rv,⟨V.ref (s.heap.objs.size+1),H',I3,rfl,q3⟩⟩
  |next=>exact AV hq'
  |brk=>exact AV hq'
  |cont=>exact AV hq'
end
section
variable{X:Cx}{CX:CXT}{k:Af}{f C:Ah}{fd:Bv}{ps ks:Ac Ag}{sp:Sp}{E:XK}{x m:Ag}{p pos apos kpos:AA}{e o:Am}{es:Ac Am}{kws:Ac D4}{te ta:TE}{t tk:TA}{nm:An Ag}
variable{g:Ac Aj->Ac Aj->Ac Aj}{gV:Ac V->Ac V->Ac V}
end
structure FnScope (N P:Ac Ag) (sc:BK):Prop where
 kind:sc.kind=.function
 co:sc.isCoroutine=Ad
 gen:sc.isGenerator=Ad
 nd:N.Nodup
 pre:N.take P.length=P
 par:∀ x∈P,sc.names.lookup x=Aa .local\/sc.names.lookup x=Aa .cell
 nofree:∀ y∈sc.names,y.2≠.free
theorem QJ{kindOf:Ag->An D0}{x:Ag}:∀{binds:Ac (Ag×Aj)}{m:Ag->An Aj},(∀ v,(x,v)∉binds)->HX kindOf binds m x=m x
 |[],_,_=>rfl
 |(n,v)::r,m,h=>by
  unfold HX;rw[QJ λw hw=>h w (AF _ hw)]
  split
  .have:x≠n:=by rintro rfl;exact h v AO
   simp[this]
  .rfl
theorem QL{kindOf:Ag->An D0}{x:Ag}:∀{binds:Ac (Ag×Aj)}{m:Ag->An Aj},(∀ v,(x,v)∉binds)->HW kindOf binds m x=m x
 |[],_,_=>rfl
 |(n,v)::r,m,h=>by
  unfold HW;rw[QL λw hw=>h w (AF _ hw)]
  split
  .rfl
  .have:x≠n:=by rintro rfl;exact h v AO
   simp[this]
theorem QK{kindOf:Ag->An D0}{x:Ag}{v:Aj}:∀{P:Ac Ag}{vs:Ac Aj}{i:Af}{m:Ag->An Aj},P.Nodup->P[i]?=Aa x->vs[i]?=Aa v->kindOf x=Aa .local->HX kindOf (P.zip vs) m x=Aa v
 |[],_,_,_,_,h,_,_=>by simp at h
 |_::_,[],_,_,_,_,h,_=>by simp at h
 |p::P,w::vs,0,m,nd,h1,h2,hk=>by
  simp at h1 h2;subst h1;subst h2;show HX kindOf ((p,w)::P.zip vs) m p=_;unfold HX;rw[QJ λv hv=>(FW.mp nd).1 (Hn hv).1,AC hk]
  simp
 |p::P,w::vs,i+1,m,nd,h1,h2,hk=>by
  show HX kindOf ((p,w)::P.zip vs) m x=_;unfold HX;exact QK (i:=i) (FW.mp nd).2 (by simpa using h1) (by simpa using h2) hk
theorem QM{kindOf:Ag->An D0}{x:Ag}{v:Aj}:∀{P:Ac Ag}{vs:Ac Aj}{i:Af}{m:Ag->An Aj},P.Nodup->P[i]?=Aa x->vs[i]?=Aa v->kindOf x≠Aa .local->HW kindOf (P.zip vs) m x=Aa v
 |[],_,_,_,_,h,_,_=>by simp at h
 |_::_,[],_,_,_,_,h,_=>by simp at h
 |p::P,w::vs,0,m,nd,h1,h2,hk=>by
  simp at h1 h2;subst h1;subst h2;show HW kindOf ((p,w)::P.zip vs) m p=_;unfold HW;rw[QL λv hv=>(FW.mp nd).1 (Hn hv).1,AJ hk]
  simp
 |p::P,w::vs,i+1,m,nd,h1,h2,hk=>by
  show HW kindOf ((p,w)::P.zip vs) m x=_;unfold HW;exact QM (i:=i) (FW.mp nd).2 (by simpa using h1) (by simpa using h2) hk
noncomputable def start(N:Ac Ag)(vs:Ac V):St:=vs.map Aa++Gc (N.length-vs.length) Ae
noncomputable def E2(CX:CXT)(P:AL)(w:Az)(K:Fg)(mg:Ag->An Aj)(base:AE)(N:Ac Ag)(qual:Ag)(scope:BK)(f:Ah)(cd:Aj)(A:AR)(outer:Ac Cc)(s:Ao)(H:Hp)(E:XK):Cx where
 prog:=P
 w:=w
 K:=K
 mg:=mg
 base:=base
 A:=A.deeper (D7 qual scope s.heap.objs.size f cd)
 N:=N
 s₀:=s
 H₀:=H
 env:=D7 qual scope s.heap.objs.size f cd
 outer:=outer
 stack:=D7 qual scope s.heap.objs.size f cd::outer
 ex:=[]
 calm:=Ab
 fn:=λ_=>Ab
 pn:=[]
 xe:=λe s'=>Aw (model P w) (A.deeper (D7 qual scope s.heap.objs.size f cd)) (leaving (D7 qual scope s.heap.objs.size f cd) e) (λ_ s''=>CX outer H s E e s'') (λe' s''=>CX outer H s E e' s'') s'
theorem Rl{sc:BK}(h:sc.names.lookup x=Aa .cell):∃ c,(CN n sc.names []).lookup x=Aa c:=by
 have q:=W6 sc.names n [] (.inl h);exact Ch.mp q
theorem QZ{w:Az}{K:Fg}{mg:Ag->An Aj}{base:AE}{N ps:Ac Ag}{f:Ah}{cd:Aj}{A:AR}{outer:Ac Cc}{s1:Ao}{E:XK}(S:FnScope N ps scope)(hd:A.handled=Ae)(e0:Env0 P w K mg base A outer s H)(hl:vs.length=ps.length)(r:AW vs us)(x:InCallC s s.heap.objs.size (HX (D7 qual scope s.heap.objs.size f cd).kindOf (ps.zip us) λ_=>Ae) (CN (s.heap.objs.size+1) scope.names []) (HW (D7 qual scope s.heap.objs.size f cd).kindOf (ps.zip us) λ_=>Ae) s1):Inv (E2 CX P w K mg base N qual scope f cd A outer s H E) [] (start N vs) H s1:=by
 have hpl:ps.length<=N.length:=by have:=congrArg List.length S.pre;rw[List.length_take]at this;omega
 obtain⟨h1,tk,rfl,hk⟩:=x.done;have noA:∀ b:Ah,b∉(E2 CX P w K mg base N qual scope f cd A outer s H E).ex:=λb z=>absurd (show b∈([]:Ac Ah) from z) (by simp)
 refine⟨⟨e0.mod,S.kind,rfl,rfl,AN _,λy z c h1 h2=>?_,λy hy=>?_,λy c _ h=>?_,λ_=>hd,Around.frames_deeper e0.frames,.inr ⟨rfl,rfl⟩,λb z=>absurd z (noA b),e0.bs,e0.bsz,λb _ _=>noA b,λb z=>absurd z (noA b),e0.funs,e0.frf⟩,
  rfl,e0.bare,Un.kept hk,⟨_,x.toInCall.ns,λi y v h1 h2 h3=>?_⟩,λy c h=>⟨_,x.cell y c h⟩,e0.hok.fresh (AN _),λy c h=>?_,λp hp=>absurd (show p∈([]:Pn) from hp) (by simp),e0.hok.kept hk,?_⟩
 .exact name_of_addr x.apart (Cw h1) (Cw h2)
 .have hy:scope.names.lookup y=Aa .cell\/scope.names.lookup y=Aa .free:=hy;rcases hy with hy|hy
  .exact Rl hy
  .exact absurd rfl (S.nofree _ (Cw hy))
 .exact FX (x.above y c (Cw h))
 .have hi:i<vs.length:=by
   unfold start at h2;by_cases hi:i<vs.length
   .exact hi
   .rw[VD (by simpa using hi)]at h2
    rw[VE]at h2;split at h2<;>cases h2
  have ha:vs[i]?=Aa v:=by
   unfold start at h2;rw[E3 (by simpa using hi),Em]at h2
   cases e:vs[i]? with
   |none=>rw[e]at h2;cases h2
   |some a=>rw[e]at h2;cases h2;rfl
  obtain⟨u,hu,rv⟩:=r.get ha;have hp:ps[i]?=Aa y:=by
   rw[<-S.pre,List.getElem?_take_of_lt (by omega)];exact h1
  have ndP:ps.Nodup:=by rw[<-S.pre];exact S.nd.sublist (List.take_sublist _ _)
  refine⟨u,rv,?_⟩;rcases S.par y (FV hp) with k|k
  .exact .inl ⟨k,QK ndP hp hu k⟩
  .obtain⟨c,e⟩:=Rl (n:=s.heap.objs.size+1) k;refine .inr ⟨.inl k,c,e,?_⟩;have q:=x.cell y c e;rw[QM ndP hp hu (by show scope.names.lookup y≠_;rw[k];decide)]at q
   exact q
 .exact e0.hok.fresh (FX (x.above y c (Cw h)))
 .unfold start;show _=N.length;rw[Db,CA,VG];omega
theorem PF{w:Az}{K:Fg}{mg:Ag->An Aj}{base:AE}{f:Ah}{name:Ag}{params:Arguments}{dV kV doc pm cdv ct oc:Aj}{an od:An Ah}{osl:Bj (An Aj)}{N ps:Ac Ag}(lk:K.lookup f=Aa ⟨oc,od,.func (BU name qual params body scope dV kV doc pm an cdv ct),osl⟩)(hcd:DY K cdv qual=Ab)(S:FnScope N ps scope)(len:∀ vs H Q E,sp vs H Q E->vs.length=ps.length)(hbody:∀(A:AR)(outer:Ac Cc)(s:Ao)(H:Hp)(vs:Ac V)(Q:VK)(E:XK),Room k (A.deeper (D7 qual scope s.heap.objs.size f cdv))->sp vs H Q E ->
   ∃ t,PSs (E2 CX P w K mg base N qual scope f cdv A outer s H E) body t/\t {nx:=λ_ H'=>Q .non H',rt:=Q} (start N vs) H):FnOk P w K mg base CX (k+1) f (BU name qual params body scope dV kV doc pm an cdv ct) ps sp:=by
 refine⟨len,λA outer s H args us vs Q E hr e0 hb r hsp=>?_⟩
 have hl:=len _ _ _ _ hsp;have KX:K.In s.heap:=e0.mod.kin.keeps λb o e=>(e0.bs b o e).1
 have lim:s.heap.NoLimit:=e0.mod.nolimit.keeps λb o e=>(e0.bs b o e).1
 have hkind:∀ y∈ps.zip us,scope.names.lookup y.1=Aa .local\/(scope.names.lookup y.1=Aa .cell/\((CN (s.heap.objs.size+1) scope.names []).lookup y.1).isSome=Ab):=λ⟨n,v⟩ hy=>by
  rcases S.par n (Hn hy).1 with q|q
  .exact .inl q
  .exact .inr ⟨q,W6 _ _ _ (.inl q)⟩
 refine Xh hr.depth (KX _ _ lk) rfl S.co S.gen rfl (W7 KX hcd) (hb _ _ _ _ ?_);refine Xu S.kind hkind λenv he s1 x=>?_
 subst he;refine⟨lim.keeps x.toInCall.keep,codeAny_func ?_⟩;obtain⟨t,ht,hq⟩:=hbody A outer s H vs Q E (hr.deeper _) hsp;have I:Inv (E2 CX P w K mg base N qual scope f cdv A outer s H E) [] (start N vs) H s1:=QZ S hr.hd e0 hl r x;refine A5 (ht [] s1 (start N vs) H _ I hq) (λfl s' hs=>?_) λe s' hs=>hs
 have fin:∀{Y':St}{H':Hp}{v:V}{u:Aj},Inv (E2 CX P w K mg base N qual scope f cdv A outer s H E) [] Y' H' s'->Bs v u->Q v H'->CE outer P w H s Q u s':=
  λ{Y' H' v u} J rv q=>⟨v,H',J.os,J.bare,J.base,J.hok,rv,q⟩
 cases fl with
 |ret u=>
  obtain⟨v,Y',H',J,rv,q⟩:=hs;exact fin J rv q
 |next=>
  obtain⟨Y',H',J,q⟩:=hs;exact fin (v:=V.non) (u:=CB) J rfl q
 |brk=>
  obtain⟨_,_,_,q⟩:=hs;exact AV q
 |cont=>
  obtain⟨_,_,_,q⟩:=hs;exact AV q
section
variable{X:Cx}{x:Ag}{p pos:AA}{e:Am}{es:Ac Am}{t:TA}{id T:CK}{r:Ac V->Hp->VK->Prop}
def tCB(r:Ac V->Hp->VK->Prop)(t:TA):TE:=λY H Q=>t Y H λvs H1=>r vs H1 Q
theorem Ka(hc:Io X (.builtin id) r)(hg:Gl X x)(hm:X.mg x=Ae)(hv:CU x=Aa (.builtin id))(ha:PA X (e::es) t)(hn:x≠"__name__" := by decide)(hdb:(x==("__debug__" : Ag))=Ad:=by decide)(he:Ar (e::es) X.env=(Ad,eval e X.env)::Ar es X.env:=by rfl)(hpl:(Bu pos (Ar es X.env)).any (·.1)=Ad:=by rfl):PE X (.Call (.Name x p) (e::es) [] pos) (tCB r t):=by
 intro pI s Y H Q I h;refine Cm (Kn I hg hm hv ?_ hn hdb);exact PyProof.Rows.callWith_builtin1 (thn (ha pos pI s Y H _ I h) λus s1 ⟨vs,H1,I1,r1,q1⟩=>hc pI s1 Y H1 vs us Q I1 r1 q1) he hpl
theorem QW(hc:Io X (.type T) r)(hg:Gl X x)(hm:X.mg x=Ae)(hv:CU x=Aa (.type T))(ha:PA X (e::es) t)(hn:x≠"__name__" := by decide)(hdb:(x==("__debug__" : Ag))=Ad:=by decide)(he:Ar (e::es) X.env=(Ad,eval e X.env)::Ar es X.env:=by rfl)(hpl:(Bu pos (Ar es X.env)).any (·.1)=Ad:=by rfl):PE X (.Call (.Name x p) (e::es) [] pos) (tCB r t):=by
 intro pI s Y H Q I h;refine Cm (Kn I hg hm hv ?_ hn hdb);exact Dy (thn (ha pos pI s Y H _ I h) λus s1 ⟨vs,H1,I1,r1,q1⟩=>hc pI s1 Y H1 vs us Q I1 r1 q1) he hpl
end
end L2
namespace HT
open PySem PyProof.Rows
section
open PySem.SeqAt
open PySem.AutoSeq1 (wpAny_loadPart')
open PySem.MeetsSeq PySem.MeetsSeq2 PySem.MeetsSeq3
end
section
variable{prog:AL}{w:Az}{A:AR}{E:Vq}{s:Ao}
theorem cat_tup{t b:Ah}{vs ws:Ac Aj}{Q:Vq}(ht:KP s.heap t vs.toArray)(hb:KP s.heap b ws.toArray)(hv:vs≠[])(h1:ws=[]->Q (.ref t) s)(h2:ws≠[]->Q (.ref s.heap.objs.size) { s with heap:=s.heap.push { cls:=.type "tuple",data:=.seq (vs++ws).toArray } })(hsz:vs.length+ws.length<=sizeLine):Aw (model prog w) A (B1 .Add (.ref t) (.ref b)) Q E s:=by
 obtain⟨⟨cls,dd,data,sl⟩,ho,hc,n,hd⟩:=id ht;obtain⟨⟨cls2,dd2,data2,sl2⟩,ho2,hc2,n2,hd2⟩:=id hb;simp only at hc hd hc2 hd2;subst hc hd hc2 hd2;have e:vs.toArray++ws.toArray=(vs++ws).toArray:=by simp
 by_cases hw:ws=[]
 .exact IR ⟨_,ho,rfl⟩ ⟨_,ho2,rfl⟩ Xj seq_tuple_add WC Ww (Wt _ _)
   (tuple_addW1 t b vs.toArray ws.toArray n n2 dd dd2 sl sl2 (by simpa using hv) (by simp[hw])) ⟨ho,ho2,h1 hw⟩
 .refine IR ⟨_,ho,rfl⟩ ⟨_,ho2,rfl⟩ Xj seq_tuple_add WC Ww (Wt _ _)
   (tuple_addW2 t b vs.toArray ws.toArray n n2 dd dd2 sl sl2 (by simpa using hv) (by simpa using hw) (by rw[A6,A6];exact hsz)) ⟨ho,ho2,?_⟩
  rw[e];exact h2 hw
end
end HT
namespace L2
open PySem PySem.Spec PyProof.Rows
variable{xs:Ac V}{us its:Ac Aj}{n t':Af}{i:Ai}
abbrev TO:=St->Hp->(An Ai->Hp->Prop)->Prop
noncomputable def PO(X:Cx)(e:An Am)(t:TO):Prop:=
 ∀(pI:Pn)(s:Ao)(Y:St)(H:Hp)(Q:An Ai->Hp->Prop),Inv X pI Y H s->t Y H Q ->
  Aw (model X.prog X.w) X.A (evalPart e X.env) (λu s'=>∃ o H',Inv X pI Y H' s'/\IsPart u o/\Q o H') X.xe s
def aL:TO:=λ_ H Q=>Q Ae H
def lN(t:TE):TO:=λY H Q=>t Y H λx H1=>∃ i,x=.int i/\Q (Aa i) H1
section
variable{X:Cx}{e:Am}{te:TE}{lo hi:An Am}{tl th:TO}{pos p2:AA}
theorem dJ:PO X Ae aL:=by
 intro pI s Y H Q I h;rw[evalPart_none];exact Bi ⟨Ae,H,I,.none,h⟩
theorem dI(h:PE X e te):PO X (Aa e) (lN te):=by
 intro pI s Y H Q I hw;rw[evalPart_some];refine thn (h pI s Y H _ I hw) λu s1 ⟨x,H1,I1,r1,q1⟩=>?_
 obtain⟨i,rfl,q⟩:=q1;obtain⟨t,rfl⟩:=r1;exact⟨Aa i,H1,I1,.int i t,q⟩
noncomputable def SlR(X:Cx)(r:V->An Ai->An Ai->Hp->VK->Prop):Prop:=
 ∀(pI:Pn)(s:Ao)(Y:St)(H:Hp)(x:V)(v vl vu:Aj)(lo hi:An Ai)(sl:Ah)(Q:VK),Inv X pI Y H s->Bs x v->s.heap.IsSliceOf sl vl vu .none->IsPart vl lo->IsPart vu hi->r x lo hi H Q ->
  ∃ T id,typeLookup (.type T) "__getitem__" = pure (Aa (.builtin id))/\s.TypeIs v T/\Aw (model X.prog X.w) X.A (getItem v (.ref sl)) (EP X pI Y Q) X.xe s
theorem SlR.or{r r':V->An Ai->An Ai->Hp->VK->Prop}(h:SlR X r)(h':SlR X r'):SlR X (λx lo hi H Q=>r x lo hi H Q\/r' x lo hi H Q):=by
 intro pI s Y H x v vl vu lo hi sl Q I rx hs pl pu q;rcases q with q|q
 .exact h pI s Y H x v vl vu lo hi sl Q I rx hs pl pu q
 .exact h' pI s Y H x v vl vu lo hi sl Q I rx hs pl pu q
def nC(K:Fg):R2:=λx y H Q=>∃ a b xs ys,x=.ref a/\y=.ref b/\SqT K H a xs/\SqT K H b ys/\xs≠[]/\xs.length+ys.length<=sizeLine /\
 (ys=[]->Q (.ref a) H)/\(ys≠[]->∀ p,H p=Ae->Q (.ref p) (upd H p (.tup (xs++ys))))
theorem AW.nil_iff(r:AW xs us):us=[]↔xs=[]:=by
 cases r with
 |nil=>simp
 |cons _ _=>simp
theorem cE:OpR X (B1 .Add) (nC X.K):=by
 intro pI s Y H x y v u Q I rx ry h;obtain⟨a,b,xs,ys,rfl,rfl,ha,hb,hx,hz,q1,q2⟩:=h;cases rx;cases ry;obtain⟨its,r1,p1,_⟩:=I.tuple ha;obtain⟨its2,r2,p2,_⟩:=I.tuple hb;refine HT.cat_tup p1 p2 (λz=>hx (r1.nil_iff.mp z)) (λz=>⟨.ref a,H,I,rfl,q1 (r2.nil_iff.mp z)⟩) (λz=>?_) (by rw[<-r1.length,<-r2.length];exact hz)
 refine⟨.ref s.heap.objs.size,_,I.laid (t':=s.toks) (o:=.tup (xs++ys)) (λb ob q=>Ax _ q) (AN _) ?_,rfl,q2 (λw=>z (r2.nil_iff.mpr w)) _ (I.hok.fresh (AN _))⟩
 exact⟨by rw[Db];exact hz,_,r1.append r2,VR _ _⟩
end
noncomputable def ixN(n:Af)(i:Ai):An Af:=if 0<=i then (if i<n then Aa i.toNat else Ae) else if -(n:Ai)<=i then Aa (i+n).toNat else Ae
noncomputable def atI{α:Type}(xs:Ac α)(i:Ai):An α:=(ixN xs.length i).bind λj=>xs[j]?
theorem bV{j:Af}(h:ixN n i=Aa j):seqIndex? i n=Aa j/\j<n/\-(n:Ai)<=i/\i<n:=by
 unfold ixN at h;by_cases h0:0<=i
 .rw[AC h0]at h;by_cases h1:i<n
  .rw[AC h1]at h;have e:i.toNat=j:=Bk h;exact⟨by rw[seqIndex_of h0 h1,e],by omega,by omega,h1⟩
  .rw[AJ h1]at h;cases h
 .rw[AJ h0]at h;by_cases h1:-(n:Ai)<=i
  .rw[AC h1]at h;have e:(i+n).toNat=j:=Bk h;exact⟨by rw[seqIndex_neg (by omega) h1,e],by omega,h1,by omega⟩
  .rw[AJ h1]at h;cases h
theorem Oz{α:Type}{xs:Ac α}{v:α}(h:atI xs i=Aa v):∃ j,seqIndex? i xs.length=Aa j/\xs[j]?=Aa v/\j<xs.length/\-(xs.length:Ai)<=i/\i<xs.length:=by
 unfold atI at h;cases e:ixN xs.length i with
 |none=>rw[e]at h;cases h
 |some j=>
  rw[e]at h;obtain⟨h1,h2,h3,h4⟩:=bV e;exact⟨j,h1,h,h2,h3,h4⟩
def OF(b:Am):Prop:=∀ o i,subscripted b Ad o i=operate [o,i] (getItem o i)
noncomputable def IxR(X:Cx)(r:R2):Prop:=
 ∀(value slice:Am)(pI:Pn)(s:Ao)(Y:St)(H:Hp)(x y:V)(v u:Aj)(Q:VK),Inv X pI Y H s->Bs x v->Bs y u->r x y H Q ->
  subscripted slice Ad v u=operate [v,u] (getItem v u)->Aw (model X.prog X.w) X.A (subscriptTail value slice v u) (EP X pI Y Q) X.xe s
noncomputable def MtR(X:Cx)(id:CK)(r:V->Ac V->Hp->VK->Prop):Prop:=
 ∀(pI:Pn)(s:Ao)(Y:St)(H:Hp)(x:V)(xs:Ac V)(v:Aj)(us:Ac Aj)(Q:VK),Inv X pI Y H s->Bs x v->AW xs us->r x xs H Q ->
  Aw (model X.prog X.w) X.A (call (.builtin id) (v::us)) (EP X pI Y Q) X.xe s
section
variable{X:Cx}{a b:Am}{ta tb:TE}{pos:AA}
theorem IxR.or{r r':R2}(h:IxR X r)(h':IxR X r'):IxR X (λx y H Q=>r x y H Q\/r' x y H Q):=by
 intro value slice pI s Y H x y v u Q I rx ry q hs;rcases q with q|q
 .exact h value slice pI s Y H x y v u Q I rx ry q hs
 .exact h' value slice pI s Y H x y v u Q I rx ry q hs
theorem lV{r:R2}(hr:IxR X r)(ha:PE X a ta)(hb:PE X b tb)(hs:OF b):PE X (.Subscript a b pos) (tOp r ta tb):=by
 intro pI s Y H Q I h;exact Subscript_ (Qa ha hb I h λv u s2 x y H2 I2 rx ry q=>hr a b pI s2 Y H2 x y v u Q I2 rx ry q (hs _ _))
def U_9(K:Fg):R2:=λx y H Q=>∃ p xs i v,x=.ref p/\y=.int i/\SqL K H p xs/\atI xs i=Aa v/\Q v H
def U_7(K:Fg):R2:=λx y H Q=>∃ p xs i v,x=.ref p/\y=.int i/\SqT K H p xs/\atI xs i=Aa v/\Q v H
def U_8:R2:=λx y H Q=>∃ z i c,x=.str z/\y=.int i/\z.length<=sizeLine/\atI z.cps.toList i=Aa c/\Q (.str ⟨#[c]⟩) H
theorem bU:IxR X (U_9 X.K):=by
 intro value slice pI s Y H x y v u Q I rx ry h hs;obtain⟨p,xs,i,z,rfl,rfl,hq,he,q⟩:=h;cases rx;obtain⟨t,rfl⟩:=ry;obtain⟨its,r,pl,hz⟩:=I.list hq;obtain⟨j,h1,h2,h3,h4,h5⟩:=Oz he;obtain⟨w,ew,rw'⟩:=r.get h2;have hl:=r.length;have hn:=Km;have fin:EP X pI Y Q w s:=⟨z,H,I,rw',q⟩;by_cases h0:0<=i
 .have hj:i.toNat=j:=by
   rw[seqIndex_of h0 h5]at h1;exact Bk h1
  exact item_listR pl.isList h0 (by omega) (by rw[hj];simpa using ew) fin hs
 .have hj:(i+(its.toArray.size:Ai)).toNat=j:=by
   rw[seqIndex_neg (by omega) h4]at h1
   rw[A6,<-hl];exact Bk h1
  exact VV (x:=w) pl.isList.typeIs slot_list_getitem.lookup
   (wpAny_getItem_list_neg (Q:=λr s'=>r=w/\EP X pI Y Q r s') pl.isList (by omega) (by rw[A6]<;>omega) (by omega) (by rw[hj];simpa using ew) ⟨rfl,fin⟩) hs
theorem kG:IxR X (U_7 X.K):=by
 intro value slice pI s Y H x y v u Q I rx ry h hs;obtain⟨p,xs,i,z,rfl,rfl,hq,he,q⟩:=h;cases rx;obtain⟨t,rfl⟩:=ry;obtain⟨its,r,pl,hz⟩:=I.tuple hq;obtain⟨j,h1,h2,h3,h4,h5⟩:=Oz he;obtain⟨w,ew,rw'⟩:=r.get h2;have hl:=r.length;have hn:=Km;have fin:EP X pI Y Q w s:=⟨z,H,I,rw',q⟩;exact VV (x:=w) pl.typeIs slot_tuple_getitem.lookup
  (getItem_tuple (j:=j) (Q:=λr s'=>r=w/\EP X pI Y Q r s') pl (by omega) (by omega) (by rw[A6,<-hl];exact h1) (by simpa using ew) ⟨rfl,fin⟩) hs
theorem kH:IxR X U_8:=by
 intro value slice pI s Y H x y v u Q I rx ry h hs;obtain⟨z,i,c,rfl,rfl,hz,he,q⟩:=h;obtain⟨t,rfl⟩:=rx;obtain⟨t',rfl⟩:=ry;obtain⟨j,h1,h2,h3,h4,h5⟩:=Oz he;have hl:z.cps.toList.length=z.length:=by simp[Str.length]
 rw[hl]at h1 h4 h5;have hn:=Km;exact tail_any (F3 s z t) slot_str_getitem.lookup (getItem_str (c:=c) (by
  have e1:decide (i < -(2 ^ 63:Ai))=Ad:=Cj (by omega)
  have e2:decide (i ≥ 2 ^ 63)=Ad:=Cj (by omega)
  rw[e1,e2,DH]) (by rw[h1];simpa using h2) ⟨.str ⟨#[c]⟩,H,I.tok _,⟨_,rfl⟩,q⟩) hs
def rIx(K:Fg):R2:=λx y H Q=>U_9 K x y H Q\/U_7 K x y H Q\/U_8 x y H Q
theorem kI:IxR X (rIx X.K):=bU.or (kG.or kH)
theorem Inv.lst{pI:Pn}{Y:St}{H:Hp}{s:Ao}{p:Ah}{xs:Ac V}(I:Inv X pI Y H s)(h:H p=Aa (.lst xs)):
  ∃(its:Ac Aj)(n:Af),AW xs its/\s.heap.get? p=Aa { cls:=.type "list",data:=.seq its.toArray n }/\xs.length<=sizeLine:=by
 obtain⟨z,its,n,r,e⟩:=I.hok p _ h;exact⟨its,n,r,e,z⟩
theorem Qp:Io X (.builtin "len") (λxs H Q=>∃ p ys,xs=[.ref p]/\(SqL X.K H p ys\/SqT X.K H p ys)/\Q (.int ys.length) H):=by
 intro pI s Y H xs us Q I r h;obtain⟨p,ys,rfl,hq,q⟩:=h;obtain⟨u,rfl,rx⟩:=Je r;cases rx;have hn:=Km;rcases hq with hq|hq
 .obtain⟨its,r',pl,hz⟩:=I.list hq;have hlen:=r'.length;exact Calls.call_len_list pl.isList (by simp only[A6]<;>omega) ⟨.int ys.length,H,I.tok _,⟨s.toks+1,by rw[A6,hlen]⟩,q⟩
 .obtain⟨its,r',pl,hz⟩:=I.tuple hq;have hlen:=r'.length;exact len_tuple pl (by simp only[A6]<;>omega) ⟨.int ys.length,H,I.tok _,⟨s.toks+1,by rw[A6,hlen]⟩,q⟩
theorem XU:Io X (.builtin "len") (λxs H Q=>∃ z,xs=[.str z]/\z.length<=sizeLine/\Q (.int z.length) H):=by
 intro pI s Y H xs us Q I r h;obtain⟨z,rfl,hz,q⟩:=h;obtain⟨u,rfl,t,rfl⟩:=Je r;have hn:=Km;exact len_str (by omega) ⟨.int z.length,H,I.tok _,⟨_,rfl⟩,q⟩
theorem Qo:Io X (.type "list") (λxs H Q=>∃ p ys,xs=[.ref p]/\(SqL X.K H p ys\/SqT X.K H p ys)/\∀ l,H l=Ae->Q (.ref l) (upd H l (.lst ys))):=by
 intro pI s Y H xs us Q I r h;obtain⟨p,ys,rfl,hq,q⟩:=h;obtain⟨u,rfl,rx⟩:=Je r;cases rx;have fin:∀(its:Ac Aj),AW ys its->ys.length<=sizeLine->∀(h':AE)(c':Af),(∀ b o',s.heap.get? b=Aa o'->h'.get? b=Aa o') ->
   h'.get? s.heap.objs.size=Aa { cls:=.type "list",dict:=Ae,data:=.seq its.toArray c',slots:=#[] }->EP X pI Y Q (.ref s.heap.objs.size) {s with heap:=h'}:=λits r' hz h' c' kp e=>
  ⟨.ref s.heap.objs.size,_,I.laid (t':=s.toks) kp (AN _) (show ObjOk X.prog X.w _ h' _ (.lst ys) from ⟨hz,its,c',r',e⟩),rfl,q _ (I.hok.fresh (AN _))⟩
 rcases hq with hq|hq
 .obtain⟨its,r',pl,hz⟩:=I.list hq;have hlen:=r'.length;obtain⟨o,ho,hc,n,hd⟩:=pl.isList;exact call_list_seq p (.inl rfl) ho hc hd (λh' c' kp e=>fin its r' hz h' c' kp e) (by simp only[A6]<;>omega)
 .obtain⟨its,r',pl,hz⟩:=I.tuple hq;have hlen:=r'.length;obtain⟨o,ho,hc,n,hd⟩:=pl;exact call_list_seq p (.inr rfl) ho hc hd (λh' c' kp e=>fin its r' hz h' c' kp e) (by simp only[A6]<;>omega)
theorem Qf:Io X (.type "tuple") (λxs H Q=>∃ p ys,xs=[.ref p]/\((SqL X.K H p ys/\∀ l,H l=Ae->Q (.ref l) (upd H l (.tup ys)))\/(SqT X.K H p ys/\Q (.ref p) H))):=by
 intro pI s Y H xs us Q I r h;obtain⟨p,ys,rfl,h⟩:=h;obtain⟨u,rfl,rx⟩:=Je r;cases rx;rcases h with ⟨hq,q⟩|⟨hq,q⟩
 .obtain⟨its,r',pl,hz⟩:=I.list hq;have hlen:=r'.length;refine call_tuple_list pl.isList (λh' kp=>?_) (by simp only[A6]<;>omega)
  have I1:Inv X pI Y H {s with heap:=h'}:=I.kept (t':=s.toks) kp
  have I2:Inv X pI Y (upd H h'.objs.size (.tup ys)) { s with heap:=h'.push { cls:=.type "tuple",data:=.seq its.toArray } }:=
   I1.laid (t':=s.toks) (λb o e=>Ax _ e) (AN _) (show ObjOk X.prog X.w _ _ _ (.tup ys) from ⟨hz,its,r',VR _ _⟩)
  exact⟨.ref h'.objs.size,_,I2,rfl,q _ (I1.hok.fresh (AN _))⟩
 .obtain⟨its,r',pl,hz⟩:=I.tuple hq;exact call_tuple_same pl ⟨.ref p,H,I,rfl,q⟩
def tyV(K:Fg)(T:CK)(x:V)(H:Hp):Prop:=match x with
  |.str _=>T = "str"
  |.int _=>T = "int"
  |.ref p=>(T = "list"/\∃ xs,SqL K H p xs)\/(T = "tuple"/\∃ o,K.lookup p=Aa o/\o.cls=.type "tuple"/\o.dict=Ae) \/
      (T = "dict"/\((∃ kvs,H p=Aa (.dK kvs))\/∃ kvs,H p=Aa (.dT kvs)))\/(T = "set"/\∃ S n,H p=Aa (.set S n))
  |_=>AU
theorem To{pI:Pn}{Y:St}{H:Hp}{s:Ao}{T:CK}{x:V}{v:Aj}(I:Inv X pI Y H s)(r:Bs x v)(ty:tyV X.K T x H):s.TypeIs v T/\∀ a,v=.ref a->∃ ob,s.heap.get? a=Aa ob/\ob.dict=Ae:=by
 cases x with
 |str z=>
  obtain⟨t,rfl⟩:=r;cases (show T = "str" from ty)
  exact⟨F3 s z t,λ_ e=>nomatch e⟩
 |int i=>
  obtain⟨t,rfl⟩:=r;cases (show T = "int" from ty)
  exact⟨typeIs_int s i t,λ_ e=>nomatch e⟩
 |ref p=>
  cases r;rcases ty with ⟨rfl,xs,hq⟩|⟨rfl,o,hk,hc,hd⟩|⟨rfl,hk⟩|⟨rfl,S,n,hk⟩
  .obtain⟨its,_,pl,_⟩:=I.list hq;refine⟨pl.isList.typeIs,λa e=>?_⟩
   cases e;obtain⟨o,n,e,c,hd,_⟩:=pl;exact⟨o,e,hd⟩
  .refine⟨⟨o,I.kIn p o hk,hc⟩,λa e=>?_⟩
   cases e;exact⟨o,I.kIn _ o hk,hd⟩
  .have z:∃ o,s.heap.get? p=Aa o/\o.ExactDict:=by
    rcases hk with ⟨kvs,hk⟩|⟨kvs,hk⟩
    .obtain⟨_,_,_,_,o,_,_,e,ex,_⟩:=I.hok p _ hk;exact⟨o,e,ex⟩
    .obtain⟨_,_,_,_,o,_,_,e,ex,_⟩:=I.hok p _ hk;exact⟨o,e,ex⟩
   obtain⟨o,e,ex⟩:=z;refine⟨⟨o,e,ex.1⟩,λa e2=>?_⟩
   cases e2;exact⟨o,e,ex.2.1⟩
  .obtain⟨o,_,_,_,e,ex,_⟩:=I.hok p _ hk;refine⟨⟨o,e,ex.1⟩,λa e2=>?_⟩
   cases e2;exact⟨o,e,ex.2.1⟩
 |_=>exact AV ty
def qU(K:Fg)(T:CK)(r:V->Ac V->Hp->VK->Prop)(to:TE):TE:=λY H Q=>to Y H λx H1=>tyV K T x H1/\r x [] H1 Q
def tBM(K:Fg)(T:CK)(r:V->Ac V->Hp->VK->Prop)(to:TE)(t:TA):TE:=λY H Q=>to Y H λx H1=>tyV K T x H1/\t Y H1 λxs H2=>r x xs H2 Q
variable{o e:Am}{es:Ac Am}{to:TE}{t:TA}{name:Ag}{apos cpos:AA}{T id:CK}{r:V->Ac V->Hp->VK->Prop}
theorem iA(pa:PlainAttrs T)(slot:Slot T name id)(hty:typeOf (.builtin id)=pure (.type "method_descriptor"))(hm:MtR X id r)(ho:PE X o to)(hbase:Cd o name X.env (eval o X.env)=eval o X.env:=by rfl)(hline:(apos.endLine==cpos.line)=Ab:=by rfl):PE X (.Call (.Attribute o name apos) [] [] cpos) (qU X.K T r to):=by
 intro pI s Y H Q I h;refine wpAny_Call_method0_late hbase hline (thn (ho pI s Y H _ I h) λv s1 ⟨x,H1,I1,r1,ty,q1⟩=>?_)
 obtain⟨h1,h2⟩:=To I1 r1 ty;exact⟨T,id,pa,slot,hty,h1,h2,FD rfl (PySem.evalArgs_none (hm pI s1 Y H1 x [] v [] Q I1 r1 .nil q1))⟩
theorem Pq(pa:PlainAttrs T)(slot:Slot T name id)(hty:typeOf (.builtin id)=pure (.type "method_descriptor"))(hm:MtR X id r)(ho:PE X o to)(ha:PA X (e::es) t)(hbase:Cd o name X.env (eval o X.env)=eval o X.env:=by rfl)(hfew:((Bu cpos (Ar (e::es) X.env)).all (λx=>!x.1)&&(G2 cpos (FF [] X.env)).all (λx=>x.1.isSome)
   && decide ((e::es).length+([]:Ac D4).length+(if ([]:Ac D4).isEmpty then 0 else 1)<30))=Ab:=by rfl)(hline:(apos.endLine==cpos.line)=Ab:=by rfl)(hs:Ar (e::es) X.env=(Ad,eval e X.env)::Ar es X.env:=by rfl)(hplain:(Bu cpos (Ar es X.env)).any (·.1)=Ad:=by rfl):PE X (.Call (.Attribute o name apos) (e::es) [] cpos) (tBM X.K T r to t):=by
 intro pI s Y H Q I h;refine wpAny_Call_method_late hbase hfew hline rfl (thn (ho pI s Y H _ I h) λv s1 ⟨x,H1,I1,r1,ty,q1⟩=>?_)
 obtain⟨h1,h2⟩:=To I1 r1 ty;refine⟨T,id,pa,slot,hty,h1,h2,?_⟩;have hA:=ha cpos pI s1 Y H1 _ I1 q1;rw[hs]at hA ⊢;refine FD (by show (Ad||(Bu cpos (Ar es X.env)).any (·.1))=Ad;rw[hplain]<;>rfl) (EA ?_)
 exact thn hA λus s2 ⟨vs,H2,I2,r2,q2⟩=>hm pI s2 Y H2 x vs v us Q I2 r1 r2 q2
/- xs.append(e),list.index on a module's tuple .. are MtR facts of 06m -/
end
noncomputable def MtM(X:Cx)(id:CK)(r:V->Ac V->Hp->VK->Prop):Prop:=
 ∀(pI:Pn)(s:Ao)(Y:St)(H:Hp)(x:V)(xs:Ac V)(v:Aj)(us:Ac Aj)(Q:VK),Inv X pI Y H s->Bs x v->AW xs us->r x xs H Q ->
  Aw (model X.prog X.w) X.A (call (.builtin id) (v::us)) (EP X pI Y Q) X.xe s
theorem AW.one:∀{x:V}{us:Ac Aj},AW [x] us->∃ u,us=[u]/\Bs x u
 |_,_,.cons r .nil=>⟨_,rfl,r⟩
theorem AW.zero:∀{us:Ac Aj},AW [] us->us=[]
 |_,.nil=>rfl
theorem AW.eraseIdx:∀{xs:Ac V}{us:Ac Aj}(i:Af),AW xs us->AW (xs.eraseIdx i) (us.eraseIdx i)
 |_,_,_,.nil=>.nil
 |_,_,0,.cons _ t=>t
 |_,_,i+1,.cons r t=>.cons r (AW.eraseIdx i t)
theorem AW.reverse(h:AW xs us):AW xs.reverse us.reverse:=by
 induction h with
 |nil=>exact .nil
 |cons r t ih=>rw[VJ,VJ];exact AW.append ih (.cons r .nil)
section
variable{X:Cx}{pI:Pn}{Y:St}{H:Hp}{s:Ao}{l b:Ah}{xs ys zs:Ac V}
theorem Inv.lset{its':Ac Aj}{f:Bj Aj->Bj Aj}(I:Inv X pI Y H s)(hH:H l=Aa (.lst xs))(e:s.heap.get? l=Aa { cls:=.type "list",data:=.seq its.toArray n })(hf:f its.toArray=its'.toArray)(hv:AW ys its')(hz:ys.length<=sizeLine):Inv X pI Y (upd H l (.lst ys)) {s with heap:=s.heap.update l (WK f),toks:=t'}:=by
 have q:=PySem.IsL.update e f;rw[hf]at q;refine I.write (x:=l) (e:=l) (by rw[hH];exact trivial) (.inl rfl) (λb' u hb hu=>(BP s.heap (WK f) (Cn hb)).trans hu) ⟨_,q⟩ ?_
 exact⟨hz,its',_,hv,q⟩
theorem Inv.lnew(I:Inv X pI Y H s)(hv:AW ys its)(hz:ys.length<=sizeLine):
  Inv X pI Y (upd H s.heap.objs.size (.lst ys)) { s with heap:=s.heap.push { cls:=.type "list",data:=.seq its.toArray },toks:=t' }:=
 I.laid (λ_ _ q=>Ax _ q) (AN _) ⟨hz,its,0,hv,Be _ rfl⟩
theorem Inv.fresh(I:Inv X pI Y H s):H s.heap.objs.size=Ae:=I.hok.fresh (AN _)
theorem Inv.lstM(I:Inv X pI Y H s)(hH:H l=Aa (.lst xs)):xs.length<=sizeLine/\∃(its:Ac Aj)(n:Af),AW xs its/\xs.length=its.length/\s.heap.get? l=Aa { cls:=.type "list",data:=.seq its.toArray n }:=by
 obtain⟨z,its,n,r,e⟩:=I.hok l _ hH;exact⟨z,its,n,r,r.length,e⟩
end
section
variable{X:Cx}
def jB:V->Ac V->Hp->VK->Prop:=λx vs H Q=>∃ l xs,x=.ref l/\vs=[]/\H l=Aa (.lst xs)/\Q .non (upd H l (.lst []))
theorem Zu:MtM X "list.clear" jB:=by
 intro pI s Y H x vs v us Q I rx rv h;obtain⟨l,xs,rfl,rfl,hH,q⟩:=h;cases rx;have hus:=rv.zero;subst hus;obtain⟨z,its,n,r,hl,e⟩:=I.lstM hH;refine F1 F.slot_list_clear ⟨_,e,rfl⟩ F.entry_list_clear (F.args_list_clear_1 _) (AutoSeq1.list_clear_list_0 l its.toArray n (by rw[A6];omega)) ⟨e,?_⟩
 exact⟨.non,_,I.lset (its':=[]) (ys:=[]) hH e rfl .nil (Dh _),rfl,q⟩
end
section
variable{prog:AL}{w:Az}{A:AR}{E:Vq}{s:Ao}
set_option maxRecDepth 100000 in
end
section
variable{X:Cx}
end
end L2
namespace Att
open PySem PySem.W PySem.Calls PyProof.Rows
variable{P:KW}{h:AE}{l:FE}{n:Af}
theorem XJ:∀(ns:Ac Ai)(vs:Ac Aj),WellAll P h vs (ns.map W3)->HM vs ns:=by
 intro ns
 induction ns with
 |nil=>
  intro vs w;rw[IG]at w;cases w;exact .nil
 |cons n ns ih=>
  intro vs w;rw[B2]at w;cases w with
  |cons a b=>
   cases a;exact .cons _ _ (ih _ b)
theorem YH(hn:l.most=Aa n){args:Ac WData}{vals:Ac Aj}(hpre:l.row.toRowW.claim.pre args=Ab)(hwl:WellAll P h vals args):
  ∃ a vs ns,vals=[Bc a]/\args=[WData.list (ns.map W3)]/\h.get? a=Aa { cls:=.type "list",data:=.seq vs.toArray }/\HM vs ns/\ns.length<=n:=by
 have hsh:WShape.hasAll [] args [.list .int]=Ab:=(pre_splitW hpre).1;have hc:l.pre.holds [] {args:=args}=Ab:=(pre_splitW hpre).2;obtain⟨d,r,rfl,h1,h2⟩:=hasAllW_cons hsh;obtain rfl:=hasAllW_nil h2;obtain⟨xs,rfl,h3⟩:=hasW_list h1;obtain⟨ns,rfl⟩:=items_int h3;have hlen:ns.length<=n:=by
  unfold OpenLaw.pre at hc;have h4:(WTm.not (.lt (.lit (.int (n:Ai))) (.len (.arg 0)))).holds [] {args:=[.list (ns.map .int)]}=Ab:=by
   have h4:=(holds_andW hc).1;rw[hn]at h4;exact h4
  have h5:=condW_of h4 (w_not (w_lt w_lit (w_len_list (w_arg rfl))));rw[CA]at h5;refine Nat.le_of_not_lt λq=>?_
  have q':(n:Ai)<((ns.length:Af):Ai):=by omega
  first
   |(rw[Fp q']at h5;exact absurd h5 (by decide))
   |(simp at h5;omega)
 cases hwl with
 |cons w1 w2=>
  cases w2;cases w1 with
  |list ho hall=>exact⟨_,_,ns,rfl,rfl,ho,XJ ns _ hall,hlen⟩
theorem YK(l:FE)(args:Ac WData):l.row.toRowW.claim.post args (.bool Ab) args=Ab:=
 postW_of (r:=l.row.toRowW) (X:=(Ab==Ab))
  (show W4 [] (.bool Ab) .bool=Ab by first|rfl|decide|simp[W4,WShape.arms,WShape.armsAll])
  (show (WTm.eq .res (.lit (.bool Ab))).value [] {args:=args,res:=Aa (.bool Ab),after:=args}=Aa (.bool (Ab==Ab)) from w_eq_bool (w_res rfl) w_lit) rfl
theorem attach_call{q:AL}{loose:Ac Ag}{XP:(Ag->An Aj)->AE->Prop}{YP:Az->AE->Prop}{d:DefRec}(hn:l.most=Aa n)(hdf:d.params.defaults=[])(call:∀(w:Az)(s₀ s₁:Ao)(mg mb:Ag->An Aj)(fa:Ah)(o:C7)(pm cd doc:Aj)(a:Ah)(vs:Ac Aj)(ns:Ac Ai),
   Ground q loose [] XP w s₀ mg mb s₁.heap->YP w s₁.heap ->
   s₁.heap.get? fa=Aa o->o.data=.func (docDef d.name d.params d.body d.scope pm cd doc)->s₁.heap.CodeRec cd d.name->mg d.name=Aa (.ref fa) ->
   s₁.heap.get? a=Aa { cls:=.type "list",data:=.seq vs.toArray }->HM vs ns->ns.length<=n->s₁.gens=#[] ->
   Ep (model l.prog w) GQ (.call (.ref fa) ⟨[.ref a],[]⟩) (λr s'=>r=.ok (.ret (.bool Ab))/\OldK s₁.heap s'.heap/\s'.os=s₁.os/\Fn s'.gens) s₁):WalkO q loose XP YP l.row.toRowW d [] (λf vs=>JT f vs):=by
 intro w s₀ s₁ mg mb G Y_ fa o pm cd doc dV kV ho hd hcd hD hmg hg args vals as hpre hlay hrd hwl hlo;obtain rfl:dV=.none:=Dflts.none hD hdf;obtain rfl:kV=.none:=Dflts.noKw hD;obtain⟨a,vs,ns,rfl,rfl,hobj,hints,hlen⟩:=YH hn hpre hwl;refine enter_call (DA (call w s₀ s₁ mg mb fa o pm cd doc a vs ns G Y_ ho (fd_plain hd) hcd hmg hobj hints hlen hg) λr s' hq=>?_)
 obtain⟨rfl,h2,h3,h4⟩:=hq;exact⟨.inl ⟨.bool Ab,.bool Ab,[],rfl,λ_=>rfl,.bool Ab,YK l _,λ_=>⟨List.Pairwise.nil,λ_ hm=>(nomatch hm)⟩⟩,h2,h3,h4⟩
section
variable{prog:AL}{w:Az}{A:AR}{E:Vq}{s:Ao}{K:Frag}
end
end Att
namespace L2
open PySem PySem.Spec PyProof.Rows
variable{k:Af}{x:Ag}
theorem QP:∀{vs:Ac Aj}{ns:Ac Ai},HM vs ns->AW (ns.map V.int) vs
 |_,_,.nil=>.nil
 |_,_,.cons n t h=>.cons ⟨t,rfl⟩ (QP h)
def Qd(H:Hp):Prop:=∀ b,H b=Ae\/∃ o xs,H b=Aa (.frz o (.lst xs))
theorem Zw{P:AL}{w:Az}{K:Fg}{mg mb:Ag->An Aj}{CX:CXT}{fa a:Ah}{fd:Bv}{sp:Sp}{s₁:Ao}{vs:Ac Aj}{ns:Ac Ai}(KX:K.In s₁.heap)(hns:s₁.heap.Ns AT mg)(hb:s₁.heap.Ns HY mb)(hbb:∀ x:Ag,x≠"__name__"->mb x=CU x)(hlim:s₁.heap.NoLimit)(hg:s₁.gens=#[])(ha:s₁.heap.get? a=Aa { cls:=.type "list",data:=.seq vs.toArray })(hi:HM vs ns)(hl:ns.length<=sizeLine)(hr:Room k GQ)(F:∀ base:AE,K.In base->base.Ns AT mg->FnOk P w K mg base CX k fa fd [x] sp)(hbind:∀(s:Ao)(u:Aj),FR s fd ⟨[u],[]⟩ [(x,u)])(hsp:∀ H:Hp,Qd H->SqL K H a (ns.map V.int)->sp [.ref a] H (λv _=>v=.bl Ab) λ_ _ _=>AU)(hCX:∀ H e s',CX [] H s₁ (λ_ _ _=>AU) e s'->AU):Ep (model P w) GQ (.call (.ref fa) ⟨[.ref a],[]⟩) (λr s'=>r=.ok (.ret (.bool Ab))/\OldK s₁.heap s'.heap/\s'.os=s₁.os/\Fn s'.gens) s₁:=by
 have rv:=QP hi;have lenV:=hi.length
 -- from an abstract heap in which nothing but the script may be tracked
 have core:∀ H:Hp,Qd H->SqL K H a (ns.map V.int)->HOk P w H s₁.heap->(∀ b,H b≠Ae->b=a)->(H a≠Ae->K.lookup a=Ae) ->
   Ep (model P w) GQ (.call (.ref fa) ⟨[.ref a],[]⟩) (λr s'=>r=.ok (.ret (.bool Ab))/\OldK s₁.heap s'.heap/\s'.os=s₁.os/\Fn s'.gens) s₁:=by
  intro H hO hS hok hA hK;have base_of:∀{b:Ah}{o:C7},s₁.heap.get? b=Aa o->H b=Ae->(Iw s₁.heap H).get? b=Aa o:=λe n=>ZD e n
  have noA:∀{b:Ah}{o:C7}{es:Bj DictEntry}{ep:Af},s₁.heap.get? b=Aa o->o.data=.dict es ep->H b=Ae:=λ{b o es ep} e d=>by
   cases q:H b with
   |none=>rfl
   |some u=>
    have e':b=a:=hA b (by rw[q];simp)
    subst e';rw[ha]at e;cases e;have d':KS vs.toArray _=Data.dict es ep:=d;cases d'
  have nsK:∀{b:Ah}{m:Ag->An Aj},s₁.heap.Ns b m->(Iw s₁.heap H).Ns b m:=λ{b m} ⟨o,es,ep,e,d,r⟩=>⟨o,es,ep,base_of e (noA e d),d,r⟩
  have hKb:K.In (Iw s₁.heap H):=λb o e=>base_of (KX b o e) (by
   cases q:H b with
   |none=>rfl
   |some u=>
    have e':b=a:=hA b (by rw[q];simp)
    subst e';rw[hK (by rw[q];simp)]at e;cases e)
  have hM:Mod K mg (Iw s₁.heap H):=⟨hKb,nsK hns,⟨mb,nsK hb,hbb⟩,let ⟨mc,h1,h2⟩:=hlim;⟨mc,nsK h1,h2⟩⟩
  have e0:Env0 P w K mg (Iw s₁.heap H) GQ [] s₁ H:=⟨rfl,hM,λb o e=>cP e,VN (YF _ _),trivial,λb hb=>absurd (show b∈([]:Ac Ah) from hb) (by simp),hok,.of_eq hg⟩
  refine DA ((F _ hKb (nsK hns)).run GQ [] s₁ H ⟨[.ref a],[]⟩ [.ref a] [.ref a] _ _ hr e0 (hbind s₁ (.ref a)) (.cons rfl .nil) (hsp H hO hS)) λr s' h=>?_
  cases r with
  |error e=>exact(hCX H e s' h).elim
  |ok fl=>
   cases fl with
   |next=>exact AV h
   |brk=>exact AV h
   |cont=>exact AV h
   |ret u=>
    obtain⟨v,H',os,bare,un,hok',r',q⟩:=h;have q':v=.bl Ab:=q;subst q';obtain rfl:u=HV Ab:=r';refine⟨rfl,OldK.of_keep λb o e=>?_,os,bare⟩
    cases q:H b with
    |none=>exact un.keep b o e q (by intro z;exact absurd (show b∈([]:Ac Ah) from z) (by simp)) (by simp)
    |some u=>
     rcases hO b with z|⟨ob,xs,z⟩
     .rw[q]at z;cases z
     .have z2:=un.frzs b ob _ z;obtain⟨e1,_⟩:=hok b _ z;obtain⟨e2,_⟩:=hok' b _ z2;rw[e]at e1;cases e1;exact e2
 cases hk:K.lookup a with
 |some o=>
  -- the script is one of the module's own objects
  have e:=KX a o hk;rw[ha]at e;cases e;refine core (λ_=>Ae) (λ_=>.inl rfl) (.inr ⟨_,vs.toArray,_,hk,rfl,rfl,rfl,by rw[A6,lenV];exact hl,by simpa using rv⟩) (λb u z=>by have z':(Ae:An HO)=Aa u:=z;cases z') (λb z=>absurd rfl z) λz=>absurd rfl z
 |none=>
  refine core (λb=>if b=a then Aa (.frz { cls:=.type "list",data:=.seq vs.toArray } (.lst (ns.map V.int))) else Ae) (λb=>?_) (.inl (.inr ⟨{ cls:=.type "list",data:=.seq vs.toArray },AC rfl⟩)) (λb u z=>?_) (λb z=>?_) λ_=>hk
  .by_cases hb:b=a
   .exact .inr ⟨_,_,AC hb⟩
   .exact .inl (AJ hb)
  .by_cases hb:b=a
   .have z':=(AC hb).symm.trans z;cases z';subst hb;exact⟨ha,by rw[CA];exact hl,vs,_,rv,ha⟩
   .have z':=(AJ hb).symm.trans z;cases z'
  .by_cases hb:b=a
   .exact hb
   .exact absurd (AJ hb) z
noncomputable abbrev KOf{K:Fg}{h:AE}(_:K.In h):Fg:=K
theorem walk_of{l:FE}{n:Af}{q:AL}{loose:Ac Ag}{XP:(Ag->An Aj)->AE->Prop}{YP:Az->AE->Prop}{d:DefRec}{K:KW->Fg}{CX:Az->CXT}{sp:Az->Sp}(hn:l.most=Aa n)(hn2:n<=sizeLine)(hdf:d.params.defaults=[])(hr:Room k GQ)(hY:∀(w:Az)(h:AE),YP w h->(K w.params).In h)(F:∀(w:Az)(mg:Ag->An Aj)(fa:Ah)(h:AE),(K w.params).In h->h.Ns AT mg->mg d.name=Aa (.ref fa) ->
   ∃ fd:Bv,(∀(s:Ao)(u:Aj),FR s fd ⟨[u],[]⟩ [(x,u)]) /\
    ∀ base:AE,(K w.params).In base->base.Ns AT mg->FnOk l.prog w (K w.params) mg base (CX w) k fa fd [x] (sp w))(hsp:∀(w:Az)(H:Hp)(a:Ah)(ns:Ac Ai),ns.length<=n->Qd H->SqL (K w.params) H a (ns.map V.int)->sp w [.ref a] H (λv _=>v=.bl Ab) λ_ _ _=>AU)(hCX:∀(w:Az)(H:Hp)(s:Ao)(e:Aj)(s':Ao),CX w [] H s (λ_ _ _=>AU) e s'->AU):W5 q loose XP YP l.row.toRowW d [] (λf vs=>JT f vs):=by
 refine Att.attach_call hn hdf λw s₀ s₁ mg mb fa o pm cd doc a vs ns G Y_ ho hd hcd hmg hobj hints hlen hg=>?_
 have KX:=hY w _ Y_;obtain⟨fd,hb,hF⟩:=F w mg fa _ KX G.T.g hmg;exact Zw KX G.T.g G.T.b G.T.builtins G.T.nolimit hg hobj hints (Cp hlen hn2) hr hF hb (λH hO hS=>hsp w H a ns hlen hO hS) λH e s'=>hCX w H s₁ e s'
end L2
/- THE LAST THEOREM (shape;LID,My.* are yours):
   My.Adr:a structure of the addresses that your layer names (classes,functions);My.Txt K t:a structure (Prop) of the equations over K;
   My.txt_mk:{K} {implicit addresses ..} (e1:nsIn K AT "law" = Aa (Aa (.ref f))) (e2:K.lookup f=Aa ⟨oc,od,.func (fnOf "law" "law" params body scope dV kV doc pm an cdv ct),sl⟩) (e3:codeIn K cdv "law" = Ab) ..:∃ t,My.Txt K t
set_option maxRecDepth 100000 in
set_option maxHeartbeats 0 in
theorem PySem.Challenge.cw_LID_holds:PySem.Challenge.rw_LID.Holds:=by
 w_on;o_law;k_head;(case hw=>w_witness2)
 k_fill
 refine L2.walk_of (l:=PySem.Challenge.rw_LID) (n:=63) (k:=40) (x := "script") (CX:=λw=>..) (sp:=λ_=>My.sp_law) rfl (by decide) rfl ⟨rfl,by decide,by decide⟩ (λw h Y_=>Xa Y_) ?F ?S ?C
 case F=>
  intro w mg fa h KX G hmg;have T:∃ t,My.Txt (L2.KOf KX) t:=by
   dsimp only[L2.KOf]                          -- K must stand as «<heap const> w.params» for k_is
   refine' My.txt_mk ?e1 ?e2 ?e3 ..
   (case e1=>PySem.W.k_is)                    -- in the order: a name -> its address -> its object -> its parts
   (case e2=>PySem.W.k_is)
   ..
  obtain⟨t,T⟩:=T;have e0:=hmg.symm.trans (Bx KX G T.law);cases e0                                       -- fa is the law's own address
  exact⟨_,fun s u=>.of_eq rfl,fun base kb nb=>My.law_fn T kb nb⟩     -- if «.of_eq rfl» comes too early: refine' ⟨_,?b,fun base kb nb=>My.law_fn T kb nb⟩;exact fun s u=>.of_eq rfl
 case S=>exact λw H a ns hl hO hS=>..
 case C=>exact ..
(the tactic k_is has no namespace:write k_is) -/
namespace L2
open PySem PySem.Spec PyProof.Rows
noncomputable def F4(s:AG):Arguments:=match s with
  |.FunctionDef _ a _ _ _ _ _ _ _ _=>a
  |_=>{posonlyargs:=[],args:=[],vararg:=Ae,kwonlyargs:=[],kw_defaults:=[],kwarg:=Ae,defaults:=[]}
noncomputable def Ef(s:AG):Ac AG:=match s with
  |.FunctionDef _ _ b _ _ _ _ _ _ _=>b
  |_=>[]
noncomputable def BF(s:AG):BK:=match s with
  |.FunctionDef _ _ _ _ _ _ sc _ _ _=>sc
  |_=>{kind:=.function,names:=[],isGenerator:=Ad,isCoroutine:=Ad}
noncomputable abbrev CX0:CXT:=λ_ _ _ _ _ _=>AU
noncomputable abbrev E0:XK:=λ_ _ _=>AU
structure Fun (K:Fg) (x qual:Ag) (st:AG) (f:Ah) (fd:Bv):Prop where
 ex:∃(oc:Aj)(od:An Ah)(kV doc pm:Aj)(an:An Ah)(cdv ct:Aj)(osl:Bj (An Aj)),
  fd=BU x qual (F4 st) (Ef st) (BF st) .none kV doc pm an cdv ct/\K.lookup f=Aa ⟨oc,od,.func fd,osl⟩/\DY K cdv qual=Ab
 kp:Bf K (.ref f)=Ab
section
variable{P:AL}{w:Az}{K:Fg}{mg:Ag->An Aj}{base:AE}
theorem Fun.ok{x qual:Ag}{st:AG}{f:Ah}{fd:Bv}{N ps:Ac Ag}{k:Af}{sp:Sp}(F:Fun K x qual st f fd)(S:FnScope N ps (BF st))(len:∀ vs H Q E,sp vs H Q E->vs.length=ps.length)(hbody:∀(cdv:Aj)(A:AR)(outer:Ac Cc)(s:Ao)(H:Hp)(vs:Ac V)(Q:VK)(E:XK),Room k (A.deeper (D7 qual (BF st) s.heap.objs.size f cdv))->sp vs H Q E ->
   ∃ t,PSs (E2 CX0 P w K mg base N qual (BF st) f cdv A outer s H E).nox (Ef st) t/\t {nx:=λ_ H'=>Q .non H',rt:=Q} (start N vs) H):FnOk P w K mg base CX0 (k+1) f fd ps sp:=by
 obtain⟨oc,od,kV,doc,pm,an,cdv,ct,osl,rfl,lk,hcd⟩:=F.ex;refine PF lk hcd S len λA outer s H vs Q E hr hsp=>?_
 obtain⟨t,h,q⟩:=hbody cdv A outer s H vs Q E hr hsp;exact⟨t,h.nox,q⟩
theorem Fun.binds{x qual:Ag}{st:AG}{f:Ah}{fd:Bv}{ps:Ac Ag}(F:Fun K x qual st f fd)(h:∀(kV doc pm:Aj)(an:An Ah)(cdv ct:Aj)(us:Ac Aj),us.length=ps.length->FK (BU x qual (F4 st) (Ef st) (BF st) .none kV doc pm an cdv ct) ⟨us,[]⟩=pure (ps.zip us)):DB K fd ps []:=by
 obtain⟨oc,od,kV,doc,pm,an,cdv,ct,osl,rfl,lk,hcd⟩:=F.ex;exact .all (h kV doc pm an cdv ct)
theorem OO{x qual:Ag}{st:AG}{f:Ah}{oc:Aj}{od an:An Ah}{osl:Bj (An Aj)}{kV doc pm cdv ct:Aj}(l:K.lookup f=Aa ⟨oc,od,.func (BU x qual (F4 st) (Ef st) (BF st) .none kV doc pm an cdv ct),osl⟩)(c:DY K cdv qual=Ab)(k:Bf K (.ref f)=Ab):Fun K x qual st f (BU x qual (F4 st) (Ef st) (BF st) .none kV doc pm an cdv ct):=⟨⟨oc,od,kV,doc,pm,an,cdv,ct,osl,rfl,l,c⟩,k⟩
end
section
variable{X:Cx}
end
def Ay(H H':Hp):Prop:=∀ b o,H b=Aa o->H' b=Aa o
theorem Ay.refl(H:Hp):Ay H H:=λ_ _ h=>h
theorem Ay.trans{H H1 H2:Hp}(a:Ay H H1)(b:Ay H1 H2):Ay H H2:=λc o h=>b c o (a c o h)
theorem Ay.free{H H':Hp}(e:Ay H H'){l:Ah}(h:H' l=Ae):H l=Ae:=by
 cases q:H l with
 |none=>rfl
 |some o=>
  rw[e l o q]at h;cases h
end L2
section
namespace Ov
open PySem
variable{α β:Type}
inductive D where
 |non|bl (b:Ak)|int (i:Ai)|str (x:Ag)|tup (ds:Ac D)|lst (ds:Ac D)
 |obj (c:Af) (fs:Ac (Ag×D))|exc (c:Af) (fs:Ac (Ag×D))|dic (kvs:Ac (Ac Ai×D))
 deriving Inhabited
structure Ex where
 c:Af
 fs:Ac (Ag×D)
 deriving Inhabited
inductive R (α:Type) where
 |ok (a:α)|exn (x:Ex)|bad
 deriving Inhabited
noncomputable def R.bind{α β:Type}(r:R α)(f:α->R β):R β:=match r with
  |.ok a=>f a
  |.exn x=>.exn x
  |.bad=>.bad
@[simp]theorem R.bind_ok(a:α)(f:α->R β):(R.ok a).bind f=f a:=rfl
@[simp]theorem R.bind_exn(x:Ex)(f:α->R β):(R.exn x:R α).bind f=.exn x:=rfl
@[simp]theorem R.bind_bad(f:α->R β):(R.bad:R α).bind f=.bad:=rfl
theorem R.bind_assoc{γ:Type}(r:R α)(f:α->R β)(g:β->R γ):(r.bind f).bind g=r.bind λa=>(f a).bind g:=by cases r<;>rfl
noncomputable def Dl(n:Af):Ak:=CO n 1000000
noncomputable def DV(i j:Ai):Ak:=(decide (-(18446744073709551616:Ai)<i)&&decide (i<18446744073709551616))||(decide (-(18446744073709551616:Ai)<j)&&decide (j<18446744073709551616))
noncomputable def Im(i j:Ai):Ak:=decide (i.natAbs<2 ^ 2000)&&decide (j.natAbs<2 ^ 2000)
noncomputable def CM:Fb->D->D->R D
 |.Add,.int i,.int j=>.ok (.int (i+j))
 |.Sub,.int i,.int j=>.ok (.int (i-j))
 |.Mult,.int i,.int j=>if (DV i j||Im i j)=Ab then .ok (.int (i*j)) else .bad
 |.FloorDiv,.int i,.int j=>if 0<j/\j<1073741824 then .ok (.int (i/j)) else .bad
 |.Mod,.int i,.int j=>if 0<j then .ok (.int (i%j)) else .bad
 |.Pow,.int i,.int j=>if (0<=j/\j<=1000000)/\(-(18446744073709551616:Ai)<i/\i<18446744073709551616) then .ok (.int (i ^ j.toNat)) else .bad
 |.Add,.str x,.str y=>if Dl (x.length+y.length)=Ab then .ok (.str (x++y)) else .bad
 |.Add,.lst x,.lst y=>if Dl (x.length+y.length)=Ab then .ok (.lst (x++y)) else .bad
 |.Add,.tup x,.tup y=>if (!x.isEmpty&&Dl (x.length+y.length))=Ab then .ok (.tup (x++y)) else .bad
 |_,_,_=>.bad
noncomputable def unD:JX->D->R D
 |.USub,.int i=>.ok (.int (-i))
 |_,_=>.bad
noncomputable def b2i(b:Ak):Ai:=if b=Ab then 1 else 0
mutual
noncomputable def eqD:D->D->Ak
 |.non,.non=>Ab
 |.bl a,.bl b=>a==b
 |.bl a,.int j=>b2i a==j
 |.int i,.bl b=>i==b2i b
 |.int i,.int j=>i==j
 |.str x,.str y=>x==y
 |.tup xs,.tup ys=>eqDs xs ys
 |.lst xs,.lst ys=>eqDs xs ys
 |_,_=>Ad
noncomputable def eqDs:Ac D->Ac D->Ak
 |[],[]=>Ab
 |x::xs,y::ys=>eqD x y&&eqDs xs ys
 |_,_=>Ad
end
noncomputable def flD:Af->D->Ak
 |_,.non=>Ab
 |_,.bl _=>Ab
 |_,.int _=>Ab
 |_,.str _=>Ab
 |n+1,.tup xs=>xs.all (flD n)
 |n+1,.lst xs=>xs.all (flD n)
 |_,_=>Ad
noncomputable def Jl:D->An (Ac Ai)
 |.tup ds=>keyDs ds
 |_=>Ae
where keyDs:Ac D->An (Ac Ai)
 |[]=>Aa []
 |.int i::r=>(keyDs r).map (i :: ·)
 |_=>Ae
noncomputable def ltD:Af->D->D->Ak
 |0,.int i,.int j=>decide (i<j)
 |n+1,.tup xs,.tup ys=>ltDs (ltD n) xs ys
 |_,_,_=>Ad
where ltDs (lt:D->D->Ak):Ac D->Ac D->Ak
 |[],[]=>Ad
 |[],_::_=>Ab
 |_::_,[]=>Ad
 |x::xs,y::ys=>if eqD x y=Ab then ltDs lt xs ys else lt x y
noncomputable def rkD:Af->D->Ak
 |0,.int _=>Ab
 |n+1,.tup xs=>xs.all (rkD n)
 |_,_=>Ad
noncomputable def UV(lt:D->D->Ak)(x:D):Ac D->Ac D
 |[]=>[x]
 |y::ys=>if lt y x=Ab then y::UV lt x ys else x::y::ys
noncomputable def TX(lt:D->D->Ak):Ac D->Ac D
 |[]=>[]
 |x::xs=>UV lt x (TX lt xs)
noncomputable def UR:Ac D->Ak
 |[]=>Ab
 |x::xs=>xs.all (λy=>!eqD x y)&&UR xs
noncomputable def Vg:Ac D->Ak
 |[]=>Ab
 |[_]=>Ab
 |x::y::r=>ltD 1 x y&&Vg (y::r)
noncomputable def Rz(xs:Ac D):R (Ac D):=if (xs.all (λd=>rkD 1 d && !eqD d (.tup []))&&UR xs&&(decide (xs.length<64)||(Vg xs&&decide (xs.length<=1000))))=Ab then .ok (TX (ltD 1) xs) else .bad
noncomputable def BN:C4->D->D->R D
  |.Eq,x,y=>if (flD 5 x&&flD 5 y)=Ab then .ok (.bl (eqD x y)) else .bad
  |.NotEq,x,y=>if (flD 5 x&&flD 5 y)=Ab then .ok (.bl (!eqD x y)) else .bad
  |.Lt,.int i,.int j=>.ok (.bl (decide (i<j)))
  |.LtE,.int i,.int j=>.ok (.bl (decide (i<=j)))
  |.Gt,.int i,.int j=>.ok (.bl (decide (j<i)))
  |.GtE,.int i,.int j=>.ok (.bl (decide (j<=i)))
  |.In,x,.lst ys=>if (flD 5 x&&ys.all (flD 5))=Ab then .ok (.bl (ys.any λy=>eqD y x)) else .bad
  |.In,x,.dic kvs=>match Jl x with
    |some k=>.ok (.bl (kvs.any λp=>p.1==k))
    |none=>.bad
  |.In,x,.tup ys=>if (flD 5 x&&ys.all (flD 5))=Ab then .ok (.bl (ys.any λy=>eqD y x)) else .bad
  |.NotIn,x,.lst ys=>if (flD 5 x&&ys.all (flD 5))=Ab then .ok (.bl (!ys.any λy=>eqD y x)) else .bad
  |.NotIn,x,.tup ys=>if (flD 5 x&&ys.all (flD 5))=Ab then .ok (.bl (!ys.any λy=>eqD y x)) else .bad
  |.Is,.non,.non=>.ok (.bl Ab)
  |.Is,.bl _,.non=>.ok (.bl Ad)
  |.Is,.int _,.non=>.ok (.bl Ad)
  |.Is,.str _,.non=>.ok (.bl Ad)
  |.Is,.tup _,.non=>.ok (.bl Ad)
  |.Is,.lst _,.non=>.ok (.bl Ad)
  |.Is,.obj _ _,.non=>.ok (.bl Ad)
  |.Is,.bl a,.bl b=>.ok (.bl (a==b))
  |.IsNot,.bl a,.bl b=>.ok (.bl (!(a==b)))
  |.IsNot,.non,.non=>.ok (.bl Ad)
  |.IsNot,.bl _,.non=>.ok (.bl Ab)
  |.IsNot,.int _,.non=>.ok (.bl Ab)
  |.IsNot,.str _,.non=>.ok (.bl Ab)
  |.IsNot,.tup _,.non=>.ok (.bl Ab)
  |.IsNot,.lst _,.non=>.ok (.bl Ab)
  |.IsNot,.obj _ _,.non=>.ok (.bl Ab)
  |_,_,_=>.bad
noncomputable def BM:D->R Ak
 |.non=>.ok Ad
 |.bl b=>.ok b
 |.int i=>.ok (i != 0)
 |.str x=>if Dl x.length=Ab then .ok (x.length != 0) else .bad
 |.tup xs=>.ok (!xs.isEmpty)
 |.lst xs=>.ok (!xs.isEmpty)
 |_=>.bad
noncomputable def plD(n:Af)(i:Ai):An Af:=if 0<=i then (if i<n then Aa i.toNat else Ae) else if -(n:Ai)<=i then Aa (i+n).toNat else Ae
noncomputable def Dq(xs:Ac D)(i:Ai):R D:=match plD xs.length i with
  |some k=>match xs[k]? with
    |some d=>.ok d
    |none=>.bad
  |none=>.bad
noncomputable def O4(kvs:Ac (Ac Ai×D))(k:Ac Ai):An D:=(kvs.find? λp=>p.1==k).map (·.2)
noncomputable def SM(kvs:Ac (Ac Ai×D))(k:Ac Ai)(v:D):Ac (Ac Ai×D):=if (kvs.any λp=>p.1==k)=Ab then kvs.map (λp=>if (p.1==k)=Ab then (k,v) else p) else kvs++[(k,v)]
noncomputable def KI(x:Ag):Ac D:=x.cps.toList.map λc=>.str ⟨#[c]⟩
noncomputable def F6:D->D->R D
  |.str x,.int i=>if Dl x.length=Ab then Dq (KI x) i else .bad
  |.lst xs,.int i=>Dq xs i
  |.tup xs,.int i=>Dq xs i
  |.dic kvs,k=>match (Jl k).bind (O4 kvs) with
    |some d=>.ok d
    |none=>.bad
  |_,_=>.bad
noncomputable def Fh:D->R Ai
 |.int i=>.ok i
 |_=>.bad
noncomputable def DC:D->R Ak
 |.bl b=>.ok b
 |_=>.bad
noncomputable def Ff:D->R (Ac D)
 |.lst xs=>.ok xs
 |.tup xs=>.ok xs
 |_=>.bad
noncomputable def Px:D->R (Ac D)
 |.lst xs=>.ok xs
 |_=>.bad
inductive BI where
 |len|abs|max|min|int|list|tuple|all|any|sum|sorted|str|count|stp|lset|tmin|tmax|tlt|rvs|sjoin|ssplit|index
 deriving DecidableEq,Inhabited
inductive Ki where
 |int|bool|str|list|tuple|verr|cls (c:Af)
 deriving DecidableEq,Inhabited
mutual
inductive E where
 |non|bl (b:Ak)|int (i:Ai)|str (x:Ag)
 |var (i:Af)|glob (g:Af)
 |bin (op:Fb) (a b:E)|un (op:JX) (a:E)|no (a:E)
 |and (es:Es)|or (es:Es)
 |cmp (op:C4) (a b:E)|cmp2 (op op':C4) (a b c:E)
 |ite (c a b:E)
 |call (f:Af) (as:Es)|bi (b:BI) (as:Es)
 |isi (a:E) (ks:Ac Ki)
 |idx (a i:E)|sl (a lo hi:E)
 |tup (es:Es)|lst (es:Es)
 |comp (elt:E) (t:Af) (it:I) (c:E)|compT (elt:E) (ts:Ac Af) (it:I) (c:E)|tupI (it:I)|dnew
 |fld (o:E) (f:Ag)|mkx (c:Af) (as:Es)
 |ofl (o:E) (f:Ag)|iso (a:E) (k:Af)|meth (m:Ag) (ms:Ac (Af×Af)) (o:E)|mkob (c:Af) (e:E)|mkn (c:Af) (as:Es)
 |methA (m:Ag) (ms:Ac (Af×Af)) (o e:E)
inductive Es where
 |nil|cons (e:E) (es:Es)
inductive I where
 |e (a:E)|rng (a:E)|rng2 (a b:E)|zip (a b:E)|zip3 (a b c:E)|enm (a:E)
end
abbrev Sl:=An (D×Ak)
abbrev Rho:=Ac Sl
structure Gam where
 F:Af->Ac D->R D
 G:Af->D
 up:Af->Ac Af
 /-- the defs whose answer is a new list -/
 fr:Af->Ak
 /-- what is raised: the class,what it is made of -/
 xn:Af->Ac D->R Ex
noncomputable def Hg(lo:Ai)(n:Af):Ac D:=(Di n).map fun(k:Af)=>D.int (lo+(k:Ai))
noncomputable def EQ(lo hi:Ai):R (Ac D):=if (-(4611686018427387904:Ai)<=lo/\lo<4611686018427387904)/\(-(4611686018427387904:Ai)<=hi/\hi<4611686018427387904)/\hi-lo<1000000 then .ok (Hg lo (hi-lo).toNat) else .bad
noncomputable def kiD(up:Af->Ac Af):Ki->D->Ak
 |.int,.int _=>Ab
 |.int,.bl _=>Ab
 |.bool,.bl _=>Ab
 |.str,.str _=>Ab
 |.list,.lst _=>Ab
 |.tuple,.tup _=>Ab
 |.cls c,.obj k _=>(up k).contains c
 |.cls c,.exc k _=>(up k).contains c
 |.verr,.exc _ _=>Ab
 |_,_=>Ad
noncomputable def Dv:Ki->Ak
 |.cls _=>Ab
 |.verr=>Ab
 |_=>Ad
noncomputable def Ej(up:Af->Ac Af)(ks:Ac Ki)(x:D):R D:=match x with
  |.obj _ _=>.bad
  |.exc _ _=>if ks.all Dv=Ab then .ok (.bl (ks.any λk=>kiD up k x)) else .bad
  |.dic _=>.bad
  |_=>if ks.any Dv=Ab then .bad else .ok (.bl (ks.any λk=>kiD up k x))
noncomputable def F8:D->R Ak
 |.non=>.ok Ad
 |.bl b=>.ok b
 |.int i=>.ok (i != 0)
 |_=>.bad
noncomputable def GF:Ac D->R Ak
 |[]=>.ok Ab
 |x::r=>(F8 x).bind λb=>(GF r).bind λc=>.ok (b&&c)
noncomputable def Jd:Ac D->R Ak
 |[]=>.ok Ad
 |x::r=>(F8 x).bind λb=>(Jd r).bind λc=>.ok (b||c)
noncomputable def LD:Ai->Ac D->R Ai
 |a,[]=>.ok a
 |a,.int i::r=>LD (a+i) r
 |_,_=>.bad
noncomputable def PU:Ac D->Ac D->Ac D
 |x::xs,y::ys=>.tup [x,y]::PU xs ys
 |_,_=>[]
noncomputable def TZ:Ac D->Ac D->Ac D->Ac D
 |x::xs,y::ys,z::zs=>.tup [x,y,z]::TZ xs ys zs
 |_,_,_=>[]
noncomputable def TY(x y z:D):R (Ac D):=(Ff x).bind λxs=>(Ff y).bind λys=>(Ff z).bind λzs=>if 0<xs.length/\xs.length<=1000/\ys.length=xs.length/\zs.length=xs.length then .ok (TZ xs ys zs) else .bad
noncomputable def DM:Ai->Ac D->Ac D
 |_,[]=>[]
 |i,x::xs=>.tup [.int i,x]::DM (i+1) xs
noncomputable def nlD:Af->D->Ak
 |_,.non=>Ab
 |_,.bl _=>Ab
 |_,.int _=>Ab
 |_,.str _=>Ab
 |n+1,.tup xs=>xs.all (nlD n)
 |_,_=>Ad
noncomputable def FP(fr:Ak):D->Ak
 |.lst ds=>fr&&ds.all (nlD 5)
 |d=>nlD 5 d
noncomputable def Mz:Ac D->An (Ac Ai)
 |[]=>Aa []
 |.int i::r=>(Mz r).map (i :: ·)
 |_=>Ae
noncomputable def US(i:Ai):Ac Ai->Ai
 |[]=>i
 |j::r=>US (if j<i then j else i) r
noncomputable def pk2(k n:Af):Ac Af:=(Di ((n-min k n+1)/2)).map λj=>min k n+2*j
noncomputable def U_2(k:Af)(xs:Ac D):Ac D:=(pk2 k xs.length).filterMap λi=>xs[i]?
noncomputable def ddS(acc:Ac Ai)(x:Ai):Ac Ai:=if acc.any (· == x)=Ab then acc else acc++[x]
noncomputable def ddN(is:Ac Ai):Af:=(is.foldl ddS []).length
noncomputable def T9(xs:Ac D):R D:=match Mz xs with
  |some is=>if CO is.length 4000=Ab then .ok (.int (ddN is)) else .bad
  |none=>.bad
noncomputable def mmD(mx:Ak)(x y:D):R D:=if [x,y].all (λd=>rkD 1 d && !eqD d (.tup []))=Ab then .ok (if (if mx=Ab then ltD 1 x y else ltD 1 y x)=Ab then y else x) else .bad
noncomputable def UY(x y:D):R D:=if [x,y].all (λd=>rkD 1 d && !eqD d (.tup []))=Ab then .ok (.bl (ltD 1 x y)) else .bad
noncomputable def qJ(k:Ac Ai):Ai:=reduceHash (Builtin.Tuple.tupleHashOf (k.map hashInt))
noncomputable def Ua:Ac D->An (Ac (Ac Ai))
 |[]=>Aa []
 |.tup xs::r=>(Mz xs).bind λk=>(Ua r).map (k :: ·)
 |_=>Ae
noncomputable def UF:Ac Ai->Ak
 |[]=>Ab
 |h::r=>!r.contains h&&UF r
noncomputable def pG(xs:Ac D):R D:=match Ua xs with
  |some ks=>if (CO ks.length 3&&UF (ks.map qJ))=Ab then .ok (.int ks.length) else .bad
  |none=>.bad
noncomputable def Kt:Ac D->An (Ac Ag)
 |[]=>Aa []
 |.str x::r=>(Kt r).map (x :: ·)
 |_=>Ae
noncomputable def OK(s:Ag)(xs:Ac D):R D:=match Kt xs with
  |some ss=>if IK s ss=Ab then .ok (.str (Ed s ss)) else .bad
  |none=>.bad
noncomputable def LF(i:Ai):Ak:=decide (i.natAbs<1000)
noncomputable def JM(x y:Ag):Ak:=CO x.length 1000000&&CO (VZ x (D3 x y 0 x.length (x.length+1)) y.length).length 1000000
noncomputable def MY(x:Ag)(l h:An Ai):Ag:=if ((V0 l h 1 x.length).length==x.length)=Ab then x else ⟨((V0 l h 1 x.length).filterMap (x.cps[·]?)).toArray⟩
noncomputable def Lx(xs:Ac D)(x:D):R D:=if (flD 5 x&&xs.all (flD 5))=Ab then (match xs.findIdx? λy=>eqD y x with
  |some j=>.ok (.int (j:Af))
  | none=>.bad) else .bad
noncomputable def biD:BI->Ac D->R D
  |.len,[.lst xs]=>.ok (.int xs.length)
  |.len,[.tup xs]=>.ok (.int xs.length)
  |.len,[.str x]=>if Dl x.length=Ab then .ok (.int x.length) else .bad
  |.abs,[.int i]=>.ok (.int (if i<0 then -i else i))
  |.max,[.int i,.int j]=>.ok (.int (if i<j then j else i))
  |.min,[.int i,.int j]=>.ok (.int (if j<i then j else i))
  |.min,[.lst xs]=>match Mz xs with
    |some (i::is)=>.ok (.int (US i is))
    |_=>.bad
  |.int,[.int i]=>.ok (.int i)
  |.int,[.bl b]=>.ok (.int (b2i b))
  |.list,[.lst xs]=>.ok (.lst xs)
  |.list,[.tup xs]=>.ok (.lst xs)
  |.tuple,[.lst xs]=>.ok (.tup xs)
  |.tuple,[.tup xs]=>.ok (.tup xs)
  |.all,[.lst xs]=>(GF xs).bind λb=>.ok (.bl b)
  |.any,[.lst xs]=>(Jd xs).bind λb=>.ok (.bl b)
  |.any,[.tup xs]=>(Jd xs).bind λb=>.ok (.bl b)
  |.sum,[.lst xs]=>(LD 0 xs).bind λi=>.ok (.int i)
  |.sum,[.tup xs]=>(LD 0 xs).bind λi=>.ok (.int i)
  |.sorted,[.lst xs]=>(Rz xs).bind λys=>.ok (.lst ys)
  |.index,[.lst xs,x]=>Lx xs x
  |.count,[.lst xs,x]=>if (flD 5 x&&xs.all (flD 5))=Ab then .ok (.int ((xs.filter λy=>eqD y x).length:Af)) else .bad
  |.len,[.dic kvs]=>.ok (.int kvs.length)
  |.stp,[.lst xs,.int k]=>.ok (.lst (U_2 k.toNat xs))
  |.lset,[.lst xs]=>T9 xs
  |.lset,[.tup xs]=>pG xs
  |.sjoin,[.str s,.lst xs]=>OK s xs
  |.str,[.int i]=>if LF i=Ab then .ok (.str (Ap (toString i))) else .bad
  |.ssplit,[.str x,.str y]=>if (!(y.length==0)&&JM x y)=Ab then .ok (.lst ((Fc x y).map D.str)) else .bad
  |.tmin,[x,y]=>mmD Ad x y
  |.tmax,[x,y]=>mmD Ab x y
  |.tlt,[x,y]=>UY x y
  |.rvs,[.lst xs]=>.ok (.lst xs.reverse)
  |_,_=>.bad
noncomputable def slE(c:E)(d:D):R (An Ai):=match c with
  |.non=>.ok Ae
  |_=>(Fh d).bind λi=>.ok (Aa i)
noncomputable def JJ(n d:Af):An Ai->Af
 |none=>d
 |some i=>if i<0 then (i+n).toNat else min i.toNat n
noncomputable def MZ(xs:Ac D)(lo hi:An Ai):Ac D:=(xs.drop (JJ xs.length 0 lo)).take (JJ xs.length xs.length hi-JJ xs.length 0 lo)
noncomputable def slD:D->An Ai->An Ai->R D
 |.lst xs,l,h=>.ok (.lst (MZ xs l h))
 |.tup xs,l,h=>if (JJ xs.length 0 l==0&&JJ xs.length xs.length h==xs.length)=Ab then .bad else .ok (.tup (MZ xs l h))
 |.str x,l,h=>if (Dl x.length&&Dl (MY x l h).length)=Ab then .ok (.str (MY x l h)) else .bad
 |_,_,_=>.bad
noncomputable def oup:Af->Ac Af
 |0=>[0]
 |1=>[1,0]
 |2=>[2,0]
 |_=>[]
noncomputable def ofD:D->Ag->R D
  |.obj _ fs,f=>match fs.lookup f with
    |some d=>.ok d
    |none=>.bad
  |_,_=>.bad
noncomputable def Jm(k:Af):D->R D
 |.obj c _=>.ok (.bl ((oup c).contains k))
 |_=>.bad
noncomputable def Kz(F:Af->Ac D->R D)(m:Ag)(ms:Ac (Af×Af)):D->R D
  |.obj c fs=>match ms.lookup c with
    |some id=>if (fs.lookup m).isNone=Ab then F id [.obj c fs] else .bad
    |none=>.bad
  |_=>.bad
noncomputable def G9(m:Ag)(ms:Ac (Af×Af)):D->R Af
  |.obj c fs=>match ms.lookup c with
    |some id=>if (fs.lookup m).isNone=Ab then .ok id else .bad
    |none=>.bad
  |_=>.bad
noncomputable def Dk(c:Af):D->R D
 |.tup [a,b]=>if nlD 5 b=Ab then .ok (.obj c [("p",a),("triple",b)]) else .bad
 |_=>.bad
noncomputable def KH:D->Ag->R D
  |.exc _ fs,f=>match fs.lookup f with
    |some d=>.ok d
    |none=>.bad
  |_,_=>.bad
noncomputable def EF(U:Rho)(i:Af):R D:=match U[i]? with
  |some (Aa (d,Ad))=>.ok d
  |_=>.bad
noncomputable def qC:D->R D
 |.lst xs=>.ok (.lst xs)
 |_=>.bad
noncomputable def DW(U:Rho)(i:Af):R D:=match U[i]? with
  |some (Aa (d,Ad))=>.ok d
  |some (Aa (d,Ab))=>qC d
  |_=>.bad
noncomputable def shE(U:Rho):E->Ak
  | .var i=>(match U[i]? with
    |some (Aa (_,Ab))=>Ad
    | _=>Ab)
  |_=>Ab
noncomputable def Hd(U:Rho):Es->Ak
 |.nil=>Ab
 |.cons e es=>shE U e&&Hd U es
noncomputable def Er:Ac Af->Ac D->Rho->An Rho
 |[],[],U=>Aa U
 |t::ts,d::ds,U=>Er ts ds (U.set t (Aa (d,Ad)))
 |_,_,_=>Ae
noncomputable def ER(ts:Ac Af)(d:D)(U:Rho):R Rho:=match d with
  | .tup xs=>(match Er ts xs U with
    |some U'=>.ok U'
    | none=>.bad)
  |_=>.bad
noncomputable def MN(ts:Ac Af)(d:D)(U:Rho):R Rho:=match d with
  | .lst xs=>(match Er ts xs U with
    |some U'=>.ok U'
    | none=>.bad)
  |d=>ER ts d U
noncomputable def Bz(g:D->R Ak)(f:D->R D):Ac D->R (Ac D)
 |[]=>.ok []
 |x::xs=>(g x).bind λb=>if b=Ab then (f x).bind λy=>(Bz g f xs).bind λys=>.ok (y::ys) else Bz g f xs
noncomputable def noX{α:Type}:R α->R α
 |.ok a=>.ok a
 |_=>.bad
noncomputable def top(U:Rho)(e:E)(r:R D):R D:=match e with
  |.var i=>DW U i
  |_=>r
mutual
noncomputable def evE(Z:Gam)(U:Rho):E->R D
 |.non=>.ok .non
 |.bl b=>.ok (.bl b)
 |.int i=>.ok (.int i)
 |.str x=>.ok (.str x)
 |.var i=>EF U i
 |.glob g=>.ok (Z.G g)
 |.bin op a b=>(top U a (evE Z U a)).bind λx=>(top U b (evE Z U b)).bind λy=>CM op x y
 |.un op a=>(top U a (evE Z U a)).bind λx=>unD op x
 |.no a=>(top U a (evE Z U a)).bind λx=>(DC x).bind λb=>.ok (.bl (!b))
 |.and es=>evN Z U es
 |.or es=>evO Z U es
 |.cmp op a b=>(top U a (evE Z U a)).bind λx=>(top U b (evE Z U b)).bind λy=>BN op x y
 |.cmp2 op op' a b c=>(top U a (evE Z U a)).bind λx=>(top U b (evE Z U b)).bind λy=>(BN op x y).bind λz=>(DC z).bind λk=>if k=Ab then (top U c (evE Z U c)).bind λu=>BN op' y u else .ok (.bl Ad)
 |.ite c a b=>(top U c (evE Z U c)).bind λx=>(BM x).bind λk=>if k=Ab then evE Z U a else evE Z U b
 |.call f as=>(evB Z U as).bind λxs=>(Z.F f xs).bind λd=>if Hd U as=Ab then .ok d else if FP (Z.fr f) d=Ab then .ok d else .bad
 |.bi b as=>(evB Z U as).bind λxs=>biD b xs
 |.isi a ks=>(top U a (evE Z U a)).bind λx=>Ej Z.up ks x
 |.idx a i=>(top U a (evE Z U a)).bind λx=>(top U i (evE Z U i)).bind λy=>F6 x y
 |.sl a lo hi=>(top U a (evE Z U a)).bind λx=>(top U lo (evE Z U lo)).bind λl=>(slE lo l).bind λl'=>(top U hi (evE Z U hi)).bind λh=>(slE hi h).bind λh'=>slD x l' h'
 |.tup es=>(evA Z U es).bind λxs=>.ok (.tup xs)
 |.lst es=>(evA Z U es).bind λxs=>.ok (.lst xs)
 |.comp elt t it c=>(evI Z U it).bind λxs=>(noX (Bz (λx=>(top (U.set t (Aa (x,Ad))) c (evE Z (U.set t (Aa (x,Ad))) c)).bind BM) (λx=>evE Z (U.set t (Aa (x,Ad))) elt) xs)).bind λys=>.ok (.lst ys)
 |.compT elt ts it c=>(evI Z U it).bind λxs=>(noX (Bz (λx=>(ER ts x U).bind λU'=>(top U' c (evE Z U' c)).bind BM) (λx=>(ER ts x U).bind λU'=>evE Z U' elt) xs)).bind λys=>.ok (.lst ys)
 |.tupI it=>(evI Z U it).bind λxs=>.ok (.tup xs)
 |.dnew=>.ok (.dic [])
 |.fld o f=>(top U o (evE Z U o)).bind λx=>KH x f
 |.mkx c as=>(noX (evA Z U as)).bind λxs=>(Z.xn c xs).bind λx=>.ok (.exc x.c x.fs)
 |.ofl o f=>(top U o (evE Z U o)).bind λx=>ofD x f
 |.iso a k=>(top U a (evE Z U a)).bind λx=>Jm k x
 |.meth m ms o=>(top U o (evE Z U o)).bind λx=>Kz Z.F m ms x
 |.mkob c e=>(evE Z U e).bind λx=>Dk c x
 |.mkn c as=>(evA Z U as).bind λxs=>Z.F (900+c) xs
 |.methA m ms o e=>(noX (top U o (evE Z U o))).bind λx=>(G9 m ms x).bind λid=>(noX (evE Z U e)).bind λy=>Z.F id [x,y]
noncomputable def evN(Z:Gam)(U:Rho):Es->R D
 |.nil=>.bad
 |.cons e .nil=>evE Z U e
 |.cons e (.cons e' es)=>(evE Z U e).bind λx=>(DC x).bind λc=>if c=Ab then evN Z U (.cons e' es) else .ok (.bl Ad)
noncomputable def evO(Z:Gam)(U:Rho):Es->R D
 |.nil=>.bad
 |.cons e .nil=>evE Z U e
 |.cons e (.cons e' es)=>(evE Z U e).bind λx=>(DC x).bind λc=>if c=Ab then .ok (.bl Ab) else evO Z U (.cons e' es)
noncomputable def evA(Z:Gam)(U:Rho):Es->R (Ac D)
 |.nil=>.ok []
 |.cons e es=>(evE Z U e).bind λx=>(evA Z U es).bind λxs=>.ok (x::xs)
noncomputable def evB(Z:Gam)(U:Rho):Es->R (Ac D)
 |.nil=>.ok []
 |.cons e es=>(top U e (evE Z U e)).bind λx=>(evB Z U es).bind λxs=>.ok (x::xs)
noncomputable def evI(Z:Gam)(U:Rho):I->R (Ac D)
 |.e a=>(evE Z U a).bind Ff
 |.rng a=>(top U a (evE Z U a)).bind λx=>(Fh x).bind λj=>EQ 0 j
 |.rng2 a b=>(top U a (evE Z U a)).bind λx=>(top U b (evE Z U b)).bind λy=>(Fh x).bind λi=>(Fh y).bind λj=>EQ i j
 |.zip a b=>(evE Z U a).bind λx=>(evE Z U b).bind λy=>(Ff x).bind λxs=>(Ff y).bind λys=>.ok (PU xs ys)
 |.zip3 a b c=>(evE Z U a).bind λx=>(evE Z U b).bind λy=>(evE Z U c).bind λz=>TY x y z
 |.enm a=>(evE Z U a).bind λx=>(Ff x).bind λxs=>.ok (DM 0 xs)
end
noncomputable def Ew(Z:Gam):E->Ak
 |.lst _=>Ab
 |.comp _ _ _ _=>Ab
 |.compT _ _ _ _=>Ab
 |.dnew=>Ab
 |.bin .Add _ _=>Ab
 |.bi .list _=>Ab
 |.bi .sorted _=>Ab
 |.sl _ _ _=>Ab
 |.call f _=>Z.fr f
 |_=>Ad
mutual
inductive S where
 |pass
 /-- x=e;fresh: x alone holds the new list -/
 |asg (i:Af) (fresh:Ak) (e:E)
 /-- a,b,..=e -/
 |asgT (ts:Ac Af) (e:E)
 |expr (e:E)
 |ret (e:E)|retN
 /-- return [f(..) for .. in ..]: what f raises flies out -/
 |retc (ts:Ac Af) (it:I) (f:Af) (as:Es)
 |ife (c:E) (a b:Ss)
 |fors (t:Af) (it:I) (body:Ss)
 |forT (ts:Ac Af) (it:I) (body:Ss)
 /-- for t,u in enumerate(x): x is held alone -/
 |forO (i:Af) (ts:Ac Af) (body:Ss)
 |whl (c:E) (body:Ss)
 /-- raise C(e,..) -/
 |rais (c:Af) (as:Es)
 /-- try: body except C as x: h -/
 |tryx (body:Ss) (c:Af) (x:Af) (h:Ss)
 /-- .. except C as x: h,except C' as x: h',else: els -/
 |try2 (body:Ss) (c:Af) (x:Af) (h:Ss) (c':Af) (h' els:Ss)
 /-- x.append(e),x.extend(e),x.insert(k,e),x.reverse(),x.clear() -/
 |app (i:Af) (e:E)|ext (i:Af) (e:E)|ins (i:Af) (k e:E)|rev (i:Af)|clr (i:Af)
 /-- d[k]=e,d.setdefault(k,e) -/
 |dput (i:Af) (k e:E)|dsd (i:Af) (k e:E)
 /-- x[k]=e -/
 |put (i:Af) (k e:E)
 /-- x[k],x[l]=x[l],x[k] -/
 |swp (i k l:Af)
 /-- x.append(y.pop(e)) -/
 |apop (j i:Af) (e:E)
 |brk|cont
 /-- x=[list(..),..];y=e;z=e';if c: ..;for w in x: w.clear() -/
 |hand (i:Af) (es:Es) (p:Af) (e:E) (r:Af) (e':E) (c:E) (n:Af)
 /-- nothing: from here on x is no longer changed -/
 |rel (i:Af)
inductive Ss where
 |nil|cons (s:S) (ss:Ss)
end
inductive O where
 |next (U:Rho)|ret (d:D) (fr:Ak)|brk (U:Rho)|cont (U:Rho)|exn (x:Ex) (U:Rho)|bad
 deriving Inhabited
noncomputable def O.of{α:Type}(U:Rho)(r:R α)(f:α->O):O:=match r with
  |.ok a=>f a
  |.exn x=>.exn x U
  |.bad=>.bad
@[simp]theorem O.of_ok(U:Rho)(a:α)(f:α->O):O.of U (.ok a) f=f a:=rfl
@[simp]theorem O.of_exn(U:Rho)(x:Ex)(f:α->O):O.of U (.exn x:R α) f=.exn x U:=rfl
@[simp]theorem O.of_bad(U:Rho)(f:α->O):O.of U (.bad:R α) f=.bad:=rfl
noncomputable def JO:D->Ak
 |.lst (.int _::_)=>Ab
 |_=>Ad
noncomputable def MT:D->Ak
 |.obj _ fs=>fs.all λf=>nlD 5 f.2
 |_=>Ad
noncomputable def JN:D->Ak
 |.lst (d::ds)=>(d::ds).all MT
 |_=>Ad
noncomputable def JG(f1:Rho->R (Ac D))(f2 f3:Rho->R D)(fc:Rho->R Ak)(i p r n:Af)(U:Rho):O:=
 O.of U (noX (f1 U)) λds=>O.of U (noX (f2 (U.set i (Aa (.lst ds,Ad))))) λd2=>O.of U (noX (f3 ((U.set i (Aa (.lst ds,Ad))).set p (Aa (d2,Ad))))) λd3=>O.of U (noX (fc (((U.set i (Aa (.lst ds,Ad))).set p (Aa (d2,Ad))).set r (Aa (d3,Ad))))) λk=>
  if (!k&&(ds.all JO && !ds.isEmpty&&(JN d2&&JN d3)&&(decide (i<U.length)&&decide (n<U.length))))=Ab then .next ((((U.set i Ae).set p (Aa (d2,Ad))).set r (Aa (d3,Ad))).set n Ae) else .bad
noncomputable def He(Z:Gam)(U:Rho)(i:I):R (Ac D):=evI Z U i
noncomputable def Ev(U:Rho)(i:Af):R (Ac D):=match U[i]? with
  |some (Aa (.lst xs,Ab))=>.ok xs
  |_=>.bad
noncomputable def Va(U:Rho)(i:Af):R (Ac (Ac Ai×D)):=match U[i]? with
  |some (Aa (.dic xs,Ab))=>.ok xs
  |_=>.bad
noncomputable def Ux(d:D):R (Ac Ai):=match Jl d with
  |some k=>.ok k
  |none=>.bad
noncomputable def Uv:Af:=4096
noncomputable def O.seq(o:O)(f:Rho->O):O:=match o with
  |.next U=>f U
  |.ret d b=>.ret d b
  |.brk U=>.brk U
  |.cont U=>.cont U
  |.exn x U=>.exn x U
  |.bad=>.bad
noncomputable def O.turn(o:O)(f:Rho->O):O:=match o with
  |.next U=>f U
  |.cont U=>f U
  |.brk U=>.next U
  |.ret d b=>.ret d b
  |.exn x U=>.exn x U
  |.bad=>.bad
noncomputable def Du(body:D->Rho->O):Ac D->Rho->O
 |[],U=>.next U
 |x::xs,U=>(body x U).turn (Du body xs)
noncomputable def PQ(c:Rho->R Ak)(body:Rho->O):Af->Rho->O
 |0,_=>.bad
 |n+1,U=>O.of U (c U) λb=>if b=Ab then (body U).turn (PQ c body n) else .next U
noncomputable def Ur(U:Rho)(k:Af):R Ai:=(EF U k).bind Fh
noncomputable def qX(U:Rho)(d:D)(i k l:Af):O:=match d with
  |.tup [x,y]=>O.of U (Ev U i) λxs=>O.of U (Ur U k) λa=>O.of U (Ur U l) λb=>match plD xs.length a,plD xs.length b with
    |some m,Aa n=>.next (U.set i (Aa (.lst ((xs.set m x).set n y),Ab)))
    |_,_=>.bad
  |_=>.bad
noncomputable def apD(U:Rho)(j i:Af)(ys xs:Ac D)(n:Ai):O:=match plD xs.length n with
  | some m=>(match xs[m]? with
    |some d=>if (j != i&&(Dl xs.length&&Dl (ys.length+1)))=Ab then .next ((U.set i (Aa (.lst (xs.eraseIdx m),Ab))).set j (Aa (.lst (ys++[d]),Ab))) else .bad
    | none=>.bad)
  |none=>.bad
noncomputable def hdO(i:Af)(y:Ex)(U':Rho)(fh:Rho->O):O:=match fh (U'.set i (Aa (.exc y.c y.fs,Ad))) with
  |.next U''=>.next (U''.set i Ae)
  |.ret d f=>.ret d f
  |_=>.bad
noncomputable def P3(U:Rho)(i:Af):D->O
 |.lst xs=>.next (U.set i (Aa (.lst xs,Ad)))
 |_=>.bad
noncomputable def Gj(U:Rho)(i:Af):Ak:=match U[i]? with
  |some (Aa (.non,Ab))=>Ab
  |_=>Ad
noncomputable def JH(i:Af)(xs:Ac D):O->O
 |.next U=>if Gj U i=Ab then .next (U.set i (Aa (.lst xs,Ab))) else .bad
 |.ret d fr=>.ret d fr
 |_=>.bad
mutual
noncomputable def evS(Z:Gam)(U:Rho):S->O
  |.pass=>.next U
  | .asg i fresh e=>O.of U (evE Z U e) λd=>if fresh=Ab then (if Ew Z e=Ab then (match d with
      |.lst xs=>.next (U.set i (Aa (.lst xs,Ab)))
      |.dic xs=>.next (U.set i (Aa (.dic xs,Ab)))
      | _=>.bad) else .bad) else .next (U.set i (Aa (d,Ad)))
  |.asgT ts e=>O.of U (evE Z U e) λd=>O.of U (MN ts d U) λU'=>.next U'
  |.expr e=>O.of U (evE Z U e) λ_=>.next U
  |.ret e=>O.of U (top U e (evE Z U e)) λd=>.ret d (Ew Z e||(match e with | .var i=>(match U[i]? with|some (Aa (_,o))=>o|_=>Ad)|_=>Ad))
  |.retN=>.ret .non Ad
  |.retc ts it f as=>O.of U ((He Z U it).bind λxs=>(Bz (λx=>(ER ts x U).bind λ_=>.ok Ab) (λx=>(ER ts x U).bind λU'=>evE Z U' (.call f as)) xs).bind λys=>.ok (.lst ys)) λd=>.ret d Ab
  |.ife c a b=>O.of U ((top U c (evE Z U c)).bind BM) λk=>if k=Ab then evSs Z U a else evSs Z U b
  |.fors t it body=>O.of U (He Z U it) λxs=>Du (λx U'=>evSs Z (U'.set t (Aa (x,Ad))) body) xs U
  |.forT ts it body=>O.of U (He Z U it) λxs=>Du (λx U'=>O.of U' (ER ts x U') λU''=>evSs Z U'' body) xs U
  |.forO i ts body=>O.of U (Ev U i) λxs=>JH i xs (Du (λx U'=>if Gj U' i=Ab then O.of U' (ER ts x U') λU''=>evSs Z U'' body else .bad) (DM 0 xs) (U.set i (Aa (.non,Ab))))
  |.whl c body=>PQ (λU'=>(top U' c (evE Z U' c)).bind BM) (λU'=>evSs Z U' body) Uv U
  |.rais c as=>O.of U (noX (evA Z U as)) λxs=>O.of U (Z.xn c xs) λx=>.exn x U
  |.tryx body c x h=>match evSs Z U body with
      | .exn y U'=>if (Z.up y.c).contains c=Ab then (match evSs Z (U'.set x (Aa (.exc y.c y.fs,Ad))) h with
          |.next U''=>.next (U''.set x Ae)
          |.ret d f=>.ret d f
          | _=>.bad) else .bad
      |o=>o
  |.try2 body c x h c' h' els=>match evSs Z U body with
      |.exn y U'=>if (Z.up y.c).contains c=Ab then hdO x y U' (λr=>evSs Z r h) else if (Z.up y.c).contains c'=Ab then hdO x y U' (λr=>evSs Z r h') else .bad
      |.next U'=>evSs Z U' els
      |o=>o
  |.app i e=>O.of U (Ev U i) λxs=>O.of U (evE Z U e) λd=>if Dl (xs.length+1)=Ab then .next (U.set i (Aa (.lst (xs++[d]),Ab))) else .bad
  |.ext i e=>O.of U (Ev U i) λxs=>O.of U (evE Z U e) λd=>O.of U (Px d) λys=>if Dl (xs.length+ys.length)=Ab then .next (U.set i (Aa (.lst (xs++ys),Ab))) else .bad
  |.ins i k e=>O.of U (Ev U i) λxs=>O.of U ((top U k (evE Z U k)).bind Fh) λj=>O.of U (evE Z U e) λd=>if (Dl (xs.length+1)&&decide (0<=j)&&decide (j<=xs.length))=Ab then .next (U.set i (Aa (.lst (xs.take j.toNat++d::xs.drop j.toNat),Ab))) else .bad
  |.rev i=>O.of U (Ev U i) λxs=>.next (U.set i (Aa (.lst xs.reverse,Ab)))
  |.clr i=>O.of U (Ev U i) λ_=>.next (U.set i (Aa (.lst [],Ab)))
  |.dput i k e=>O.of U (evE Z U e) λd=>O.of U (Va U i) λxs=>O.of U ((evE Z U k).bind Ux) λj=>if Dl (xs.length+1)=Ab then .next (U.set i (Aa (.dic (SM xs j d),Ab))) else .bad
  |.dsd i k e=>O.of U (Va U i) λxs=>O.of U ((evE Z U k).bind Ux) λj=>O.of U (evE Z U e) λd=>if Dl (xs.length+1)=Ab then .next (U.set i (Aa (.dic (if (xs.any λp=>p.1==j)=Ab then xs else SM xs j d),Ab))) else .bad
  |.put i k e=>O.of U (evE Z U e) λd=>O.of U (Ev U i) λxs=>O.of U ((top U k (evE Z U k)).bind Fh) λj=>match plD xs.length j with
      |some n=>.next (U.set i (Aa (.lst (xs.set n d),Ab)))
      |none=>.bad
  |.swp i k l=>O.of U (evE Z U (.tup (.cons (.idx (.var i) (.var l)) (.cons (.idx (.var i) (.var k)) .nil)))) λd=>qX U d i k l
  |.apop j i e=>O.of U (Ev U j) λys=>O.of U (Ev U i) λxs=>O.of U (evE Z U e) λd=>O.of U (Fh d) λn=>apD U j i ys xs n
  |.brk=>.brk U
  |.cont=>.cont U
  |.hand i es p e r e' c n=>JG (λU=>evA Z U es) (λU=>evE Z U e) (λU=>evE Z U e') (λU=>(top U c (evE Z U c)).bind BM) i p r n U
  |.rel i=>match U[i]? with
      |some (Aa (d,Ab))=>P3 U i d
      |_=>.next U
noncomputable def evSs(Z:Gam)(U:Rho):Ss->O
 |.nil=>.next U
 |.cons s ss=>(evS Z U s).seq λU'=>evSs Z U' ss
end
structure Df where
 n:Af
 fr:Ak
 body:Ss
noncomputable def BV(n:Af)(ds:Ac D):Rho:=ds.map (λd=>Aa (d,Ad))++Gc (n-ds.length) Ae
noncomputable def isL:D->Ak
 |.lst _=>Ab
 |.dic _=>Ab
 |_=>Ad
noncomputable def O.ans(fr:Ak)(o:O):R D:=match o with
  |.ret d b=>if (fr&&(!b&&isL d))=Ab then .bad else .ok d
  |.next _=>if fr=Ab then .bad else .ok .non
  |.exn x _=>.exn x
  |_=>.bad
noncomputable def Df.run(Z:Gam)(f:Df)(ds:Ac D):R D:=(evSs Z (BV f.n ds) f.body).ans f.fr
structure Prg where
 xs:Ak
 defs:Af->Df
 G:Af->D
 up:Af->Ac Af
 xn:Af->Ac D->R Ex
noncomputable def EE(xs:Ak)(r:R D):R D:=match xs with
  |true=>r
  |false=>noX r
noncomputable def gam(P:Prg):Af->Gam
 |0=>⟨λ_ _=>.bad,P.G,P.up,λi=>(P.defs i).fr,P.xn⟩
 |n+1=>⟨λi ds=>EE P.xs ((P.defs i).run (gam P n) ds),P.G,P.up,λi=>(P.defs i).fr,P.xn⟩
end Ov
end
section
namespace Ov
open PySem
variable{α:Type}
section
variable(Z:Gam)(U:Rho)
@[simp]theorem Zxg:evE Z U .non=.ok .non:=rfl
@[simp]theorem Zza(b):evE Z U (.bl b)=.ok (.bl b):=rfl
@[simp]theorem Zxn(b):evE Z U (.int b)=.ok (.int b):=rfl
@[simp]theorem So(b):evE Z U (.str b)=.ok (.str b):=rfl
@[simp]theorem Zxd(i):evE Z U (.var i)=EF U i:=rfl
@[simp]theorem ZtA(i):evE Z U (.glob i)=.ok (Z.G i):=rfl
@[simp]theorem Zxq(op a b):evE Z U (.bin op a b)=(top U a (evE Z U a)).bind λx=>(top U b (evE Z U b)).bind λy=>CM op x y:=rfl
@[simp]theorem Zy6(op a):evE Z U (.un op a)=(top U a (evE Z U a)).bind λx=>unD op x:=rfl
@[simp]theorem Zy9(a):evE Z U (.no a)=(top U a (evE Z U a)).bind λx=>(DC x).bind λb=>.ok (.bl (!b)):=rfl
@[simp]theorem Zxr(es):evE Z U (.and es)=evN Z U es:=rfl
@[simp]theorem Zy8(es):evE Z U (.or es)=evO Z U es:=rfl
@[simp]theorem Zw9(e):evN Z U (.cons e .nil)=evE Z U e:=rfl
@[simp]theorem Ztr(e e' es):evN Z U (.cons e (.cons e' es))=(evE Z U e).bind λx=>(DC x).bind λc=>if c=Ab then evN Z U (.cons e' es) else .ok (.bl Ad):=rfl
@[simp]theorem Zw8(e):evO Z U (.cons e .nil)=evE Z U e:=rfl
@[simp]theorem Ztq(e e' es):evO Z U (.cons e (.cons e' es))=(evE Z U e).bind λx=>(DC x).bind λc=>if c=Ab then .ok (.bl Ab) else evO Z U (.cons e' es):=rfl
@[simp]theorem eW(op a b):evE Z U (.cmp op a b)=(top U a (evE Z U a)).bind λx=>(top U b (evE Z U b)).bind λy=>BN op x y:=rfl
@[simp]theorem ZtD(op op' a b c):evE Z U (.cmp2 op op' a b c)=(top U a (evE Z U a)).bind λx=>(top U b (evE Z U b)).bind λy=>(BN op x y).bind λz=>(DC z).bind λk=>if k=Ab then (top U c (evE Z U c)).bind λu=>BN op' y u else .ok (.bl Ad):=rfl
@[simp]theorem Zxk(c a b):evE Z U (.ite c a b)=(top U c (evE Z U c)).bind λx=>(BM x).bind λk=>if k=Ab then evE Z U a else evE Z U b:=rfl
@[simp]theorem ZtE(f as):evE Z U (.call f as)=(evB Z U as).bind λxs=>(Z.F f xs).bind λd=>if Hd U as=Ab then .ok d else if FP (Z.fr f) d=Ab then .ok d else .bad:=rfl
@[simp]theorem Mm(f as):evE Z U (.bi f as)=(evB Z U as).bind λxs=>biD f xs:=rfl
@[simp]theorem Zxm(a ks):evE Z U (.isi a ks)=(top U a (evE Z U a)).bind λx=>Ej Z.up ks x:=rfl
@[simp]theorem Zxo(a i):evE Z U (.idx a i)=(top U a (evE Z U a)).bind λx=>(top U i (evE Z U i)).bind λy=>F6 x y:=rfl
@[simp]theorem Zy7(a lo hi):evE Z U (.sl a lo hi)=(top U a (evE Z U a)).bind λx=>(top U lo (evE Z U lo)).bind λl=>(slE lo l).bind λl'=>(top U hi (evE Z U hi)).bind λh=>(slE hi h).bind λh'=>slD x l' h':=rfl
@[simp]theorem Zxe(es):evE Z U (.tup es)=(evA Z U es).bind λxs=>.ok (.tup xs):=rfl
@[simp]theorem Zxj(es):evE Z U (.lst es)=(evA Z U es).bind λxs=>.ok (.lst xs):=rfl
noncomputable def cG(Z:Gam)(U:Rho)(t:Af)(c:E):D->R Ak:=λx=>(top (U.set t (Aa (x,Ad))) c (evE Z (U.set t (Aa (x,Ad))) c)).bind BM
noncomputable def cF(Z:Gam)(U:Rho)(t:Af)(elt:E):D->R D:=λx=>evE Z (U.set t (Aa (x,Ad))) elt
noncomputable def mkL(r:R (Ac D)):R D:=(noX r).bind λys=>.ok (.lst ys)
@[simp]theorem ZyD(ys):mkL (.ok ys)=.ok (.lst ys):=rfl
@[simp]theorem ZtC(elt t it c):evE Z U (.comp elt t it c)=(evI Z U it).bind λxs=>mkL (Bz (cG Z U t c) (cF Z U t elt) xs):=rfl
noncomputable def cGT(Z:Gam)(U:Rho)(ts:Ac Af)(c:E):D->R Ak:=λx=>(ER ts x U).bind λU'=>(top U' c (evE Z U' c)).bind BM
noncomputable def cFT(Z:Gam)(U:Rho)(ts:Ac Af)(elt:E):D->R D:=λx=>(ER ts x U).bind λU'=>evE Z U' elt
@[simp]theorem ZrC(elt ts it c):evE Z U (.compT elt ts it c)=(evI Z U it).bind λxs=>mkL (Bz (cGT Z U ts c) (cFT Z U ts elt) xs):=rfl
@[simp]theorem Ztx(it):evE Z U (.tupI it)=(evI Z U it).bind λxs=>.ok (.tup xs):=rfl
@[simp]theorem ZtB:evE Z U .dnew=.ok (.dic []):=rfl
@[simp]theorem Zxf(o f):evE Z U (.ofl o f)=(top U o (evE Z U o)).bind λx=>ofD x f:=rfl
@[simp]theorem Zxl(a k):evE Z U (.iso a k)=(top U a (evE Z U a)).bind λx=>Jm k x:=rfl
@[simp]theorem Ztz(m ms o):evE Z U (.meth m ms o)=(top U o (evE Z U o)).bind λx=>Kz Z.F m ms x:=rfl
@[simp]theorem Zty(c e):evE Z U (.mkob c e)=(evE Z U e).bind λx=>Dk c x:=rfl
@[simp]theorem Zxi(c as):evE Z U (.mkn c as)=(evA Z U as).bind λxs=>Z.F (900+c) xs:=rfl
@[simp]theorem ZrB(m ms o e):evE Z U (.methA m ms o e)=(noX (top U o (evE Z U o))).bind λx=>(G9 m ms x).bind λid=>(noX (evE Z U e)).bind λy=>Z.F id [x,y]:=rfl
@[simp]theorem Zxh(c as):evE Z U (.mkx c as)=(noX (evA Z U as)).bind λxs=>(Z.xn c xs).bind λx=>.ok (.exc x.c x.fs):=rfl
@[simp]theorem Zxp(o f):evE Z U (.fld o f)=(top U o (evE Z U o)).bind λx=>KH x f:=rfl
@[simp]theorem Zxt:evA Z U .nil=.ok []:=rfl
@[simp]theorem Rh(e es):evA Z U (.cons e es)=(evE Z U e).bind λx=>(evA Z U es).bind λxs=>.ok (x::xs):=rfl
@[simp]theorem Zxs:evB Z U .nil=.ok []:=rfl
@[simp]theorem Oi(e es):evB Z U (.cons e es)=(top U e (evE Z U e)).bind λx=>(evB Z U es).bind λxs=>.ok (x::xs):=rfl
@[simp]theorem Zz2(a):evI Z U (.e a)=(evE Z U a).bind Ff:=rfl
@[simp]theorem Zxb(a):evI Z U (.rng a)=(top U a (evE Z U a)).bind λx=>(Fh x).bind λj=>EQ 0 j:=rfl
@[simp]theorem Ztw(a b):evI Z U (.rng2 a b)=(top U a (evE Z U a)).bind λx=>(top U b (evE Z U b)).bind λy=>(Fh x).bind λi=>(Fh y).bind λj=>EQ i j:=rfl
@[simp]theorem Zxa(a b):evI Z U (.zip a b)=(evE Z U a).bind λx=>(evE Z U b).bind λy=>(Ff x).bind λxs=>(Ff y).bind λys=>.ok (PU xs ys):=rfl
@[simp]theorem Ztv(a b c):evI Z U (.zip3 a b c)=(evE Z U a).bind λx=>(evE Z U b).bind λy=>(evE Z U c).bind λz=>TY x y z:=rfl
@[simp]theorem Zxc(a):evI Z U (.enm a)=(evE Z U a).bind λx=>(Ff x).bind λxs=>.ok (DM 0 xs):=rfl
@[simp]theorem Zts(a b):He Z U (.zip a b)=evI Z U (.zip a b):=rfl
@[simp]theorem Zrz(a b c):He Z U (.zip3 a b c)=evI Z U (.zip3 a b c):=rfl
@[simp]theorem Ztu(a):He Z U (.enm a)=evI Z U (.enm a):=rfl
@[simp]theorem Zy5(a):He Z U (.e a)=(evE Z U a).bind Ff:=rfl
@[simp]theorem Ztt(a):He Z U (.rng a)=evI Z U (.rng a):=rfl
@[simp]theorem ZrA(a b):He Z U (.rng2 a b)=evI Z U (.rng2 a b):=rfl
variable(r:R D)
@[simp]theorem RJ(i):top U (.var i) r=DW U i:=rfl
@[simp]theorem Zue:top U .non r=r:=rfl
@[simp]theorem Zx6(b):top U (.bl b) r=r:=rfl
@[simp]theorem Zul(b):top U (.int b) r=r:=rfl
@[simp]theorem RK(b):top U (.str b) r=r:=rfl
@[simp]theorem ZsE(b):top U (.glob b) r=r:=rfl
@[simp]theorem Zup(op a b):top U (.bin op a b) r=r:=rfl
@[simp]theorem Zx2(op a):top U (.un op a) r=r:=rfl
@[simp]theorem Zx5(a):top U (.no a) r=r:=rfl
@[simp]theorem Zuq(a):top U (.and a) r=r:=rfl
@[simp]theorem Zx4(a):top U (.or a) r=r:=rfl
@[simp]theorem Zuo(op a b):top U (.cmp op a b) r=r:=rfl
@[simp]theorem ZsH(op op' a b c):top U (.cmp2 op op' a b c) r=r:=rfl
@[simp]theorem Zui(a b c):top U (.ite a b c) r=r:=rfl
@[simp]theorem ZsI(a b):top U (.call a b) r=r:=rfl
@[simp]theorem Zx7(a b):top U (.bi a b) r=r:=rfl
@[simp]theorem Zuk(a b):top U (.isi a b) r=r:=rfl
@[simp]theorem Zum(a b):top U (.idx a b) r=r:=rfl
@[simp]theorem Zx3(a b c):top U (.sl a b c) r=r:=rfl
@[simp]theorem Zuc(a):top U (.tup a) r=r:=rfl
@[simp]theorem Zuh(a):top U (.lst a) r=r:=rfl
@[simp]theorem ZsG(a b c d):top U (.comp a b c d) r=r:=rfl
@[simp]theorem Zud(a b):top U (.ofl a b) r=r:=rfl
@[simp]theorem Zuj(a b):top U (.iso a b) r=r:=rfl
@[simp]theorem ZsD(a b c):top U (.meth a b c) r=r:=rfl
@[simp]theorem ZsC(a b):top U (.mkob a b) r=r:=rfl
@[simp]theorem Zug(a b):top U (.mkn a b) r=r:=rfl
@[simp]theorem Zps(a b c d):top U (.methA a b c d) r=r:=rfl
@[simp]theorem Zuf(a b):top U (.mkx a b) r=r:=rfl
@[simp]theorem Zun(a b):top U (.fld a b) r=r:=rfl
@[simp]theorem Zpt(a b c d):top U (.compT a b c d) r=r:=rfl
@[simp]theorem ZsB(a):top U (.tupI a) r=r:=rfl
@[simp]theorem ZsF:top U .dnew r=r:=rfl
end
@[simp]theorem Zpl(d:D)(U:Rho):DW (Aa (d,Ad)::U) 0=.ok d:=rfl
@[simp]theorem ZoV(xs:Ac D)(U:Rho):DW (Aa (.lst xs,Ab)::U) 0=.ok (.lst xs):=rfl
@[simp]theorem Zpn(x:D)(U:Rho):EF (Aa (x,Ad)::U) 0=.ok x:=rfl
@[simp]theorem ZoW(x:Sl)(U:Rho)(i:Af)[NeZero i]:DW (x::U) i=DW U (i-1):=by
 obtain⟨j,rfl⟩:∃ j,i=j+1:=⟨i-1,by have:=KN i;omega⟩
 rfl
@[simp]theorem ZoX(x:Sl)(U:Rho)(i:Af)[NeZero i]:EF (x::U) i=EF U (i-1):=by
 obtain⟨j,rfl⟩:∃ j,i=j+1:=⟨i-1,by have:=KN i;omega⟩
 rfl
noncomputable def shV(U:Rho)(i:Af):Ak:=match U[i]? with
    |some (Aa (_,Ab))=>Ad
    |_=>Ab
@[simp]theorem ZsM(x:D)(b:Ak)(U:Rho):shV (Aa (x,b)::U) 0=!b:=by cases b<;>rfl
@[simp]theorem ZpQ(U:Rho):shV (Ae::U) 0=Ab:=rfl
@[simp]theorem ZpR(x:Sl)(U:Rho)(i:Af)[NeZero i]:shV (x::U) i=shV U (i-1):=by
 obtain⟨j,rfl⟩:∃ j,i=j+1:=⟨i-1,by have:=KN i;omega⟩
 rfl
section
variable(U:Rho)
@[simp]theorem ZuR(i):shE U (.var i)=shV U i:=rfl
@[simp]theorem ZuV:shE U .non=Ab:=rfl
@[simp]theorem Zyn(b):shE U (.bl b)=Ab:=rfl
@[simp]theorem Zu2(b):shE U (.int b)=Ab:=rfl
@[simp]theorem ZuT(b):shE U (.str b)=Ab:=rfl
@[simp]theorem ZsR(b):shE U (.glob b)=Ab:=rfl
@[simp]theorem Zu6(op a b):shE U (.bin op a b)=Ab:=rfl
@[simp]theorem Zyj(op a):shE U (.un op a)=Ab:=rfl
@[simp]theorem Zym(a):shE U (.no a)=Ab:=rfl
@[simp]theorem Zu7(a):shE U (.and a)=Ab:=rfl
@[simp]theorem Zyl(a):shE U (.or a)=Ab:=rfl
@[simp]theorem Zu5(op a b):shE U (.cmp op a b)=Ab:=rfl
@[simp]theorem ZsU(op op' a b c):shE U (.cmp2 op op' a b c)=Ab:=rfl
@[simp]theorem ZuZ(a b c):shE U (.ite a b c)=Ab:=rfl
@[simp]theorem ZsV(a b):shE U (.call a b)=Ab:=rfl
@[simp]theorem Zyo(a b):shE U (.bi a b)=Ab:=rfl
@[simp]theorem Zu1(a b):shE U (.isi a b)=Ab:=rfl
@[simp]theorem Zu3(a b):shE U (.idx a b)=Ab:=rfl
@[simp]theorem Zyk(a b c):shE U (.sl a b c)=Ab:=rfl
@[simp]theorem ZuS(a):shE U (.tup a)=Ab:=rfl
@[simp]theorem ZuY(a):shE U (.lst a)=Ab:=rfl
@[simp]theorem ZsT(a b c d):shE U (.comp a b c d)=Ab:=rfl
@[simp]theorem ZpT(a b c d):shE U (.compT a b c d)=Ab:=rfl
@[simp]theorem ZsO(a):shE U (.tupI a)=Ab:=rfl
@[simp]theorem ZsS:shE U .dnew=Ab:=rfl
@[simp]theorem ZuU(a b):shE U (.ofl a b)=Ab:=rfl
@[simp]theorem Zu0(a b):shE U (.iso a b)=Ab:=rfl
@[simp]theorem ZsQ(a b c):shE U (.meth a b c)=Ab:=rfl
@[simp]theorem ZsP(a b):shE U (.mkob a b)=Ab:=rfl
@[simp]theorem ZuX(a b):shE U (.mkn a b)=Ab:=rfl
@[simp]theorem ZpS(a b c d):shE U (.methA a b c d)=Ab:=rfl
@[simp]theorem ZuW(a b):shE U (.mkx a b)=Ab:=rfl
@[simp]theorem Zu4(a b):shE U (.fld a b)=Ab:=rfl
@[simp]theorem ZsN:Hd U .nil=Ab:=rfl
@[simp]theorem X8(e es):Hd U (.cons e es)=(shE U e&&Hd U es):=rfl
end
@[simp]theorem ZoY(U:Rho):Er [] [] U=Aa U:=rfl
@[simp]theorem ZmV(t ts d ds)(U:Rho):Er (t::ts) (d::ds) U=Er ts ds (U.set t (Aa (d,Ad))):=rfl
@[simp]theorem Zr7(ts ds)(U:Rho):MN ts (.lst ds) U=match Er ts ds U with
  |some U'=>.ok U'
  |none=>.bad:=rfl
@[simp]theorem Zr6(ts ds)(U:Rho):MN ts (.tup ds) U=ER ts (.tup ds) U:=rfl
@[simp]theorem Qr(ts ds)(U:Rho):ER ts (.tup ds) U=match Er ts ds U with
  |some U'=>.ok U'
  |none=>.bad:=rfl
@[simp]theorem ZtO{β:Type}(c:Prop)[FQ c](a b:R α)(f:α->R β):(if c then a else b).bind f=if c then a.bind f else b.bind f:=by split<;>rfl
@[simp]theorem ZyB(U:Rho)(c:Prop)[FQ c](a b:R α)(f:α->O):O.of U (if c then a else b) f=if c then O.of U a f else O.of U b f:=by split<;>rfl
@[simp]theorem Zwd{β:Type}(U:Rho)(a:R α)(g:α->R β)(f:β->O):O.of U (a.bind g) f=O.of U a λx=>O.of U (g x) f:=by cases a<;>rfl
@[simp]theorem Zu9(c:Prop)[FQ c](a b:O)(f:Rho->O):O.seq (if c then a else b) f=if c then a.seq f else b.seq f:=by split<;>rfl
@[simp]theorem Zsr(c:Prop)[FQ c](a b:O)(f:Rho->O):O.turn (if c then a else b) f=if c then a.turn f else b.turn f:=by split<;>rfl
@[simp]theorem ZxM(fr:Ak)(c:Prop)[FQ c](a b:O):O.ans fr (if c then a else b)=if c then a.ans fr else b.ans fr:=by split<;>rfl
@[simp]theorem ZsW(U f):O.seq (.next U) f=f U:=rfl
@[simp]theorem Zu8(d b f):O.seq (.ret d b) f=.ret d b:=rfl
@[simp]theorem Zvb(U f):O.seq (.brk U) f=.brk U:=rfl
@[simp]theorem ZsX(U f):O.seq (.cont U) f=.cont U:=rfl
@[simp]theorem Zva(x U f):O.seq (.exn x U) f=.exn x U:=rfl
@[simp]theorem Zvc(f):O.seq .bad f=.bad:=rfl
@[simp]theorem Zpp(U f):O.turn (.next U) f=f U:=rfl
@[simp]theorem Zsq(d b f):O.turn (.ret d b) f=.ret d b:=rfl
@[simp]theorem Zst(U f):O.turn (.brk U) f=.next U:=rfl
@[simp]theorem Zpq(U f):O.turn (.cont U) f=f U:=rfl
@[simp]theorem Zss(x U f):O.turn (.exn x U) f=.exn x U:=rfl
@[simp]theorem Zsu(f):O.turn .bad f=.bad:=rfl
@[simp]theorem ZtS(U):O.ans Ad (.next U)=.ok .non:=rfl
@[simp]theorem ZxL(d b):O.ans Ad (.ret d b)=.ok d:=rfl
@[simp]theorem ZtR(d b):O.ans Ab (.ret d b)=if (!b&&isL d)=Ab then .bad else .ok d:=rfl
@[simp]theorem ZwD(d):isL (.lst d)=Ab:=rfl
@[simp]theorem ZwC(d):isL (.tup d)=Ad:=rfl
@[simp]theorem ZwE(d):isL (.int d)=Ad:=rfl
@[simp]theorem ZxN(fr x U):O.ans fr (.exn x U)=.exn x:=rfl
@[simp]theorem ZxO(fr):O.ans fr .bad=.bad:=rfl
@[simp]theorem Zzh(i j:Ai):CM .Add (.int i) (.int j)=.ok (.int (i+j)):=rfl
@[simp]theorem Zyd(i j:Ai):CM .Sub (.int i) (.int j)=.ok (.int (i-j)):=rfl
@[simp]theorem iN(i j:Ai):CM .Mult (.int i) (.int j)=if (DV i j||Im i j)=Ab then .ok (.int (i*j)) else .bad:=rfl
@[simp]theorem eU(i j:Ai):CM .FloorDiv (.int i) (.int j)=if 0<j/\j<1073741824 then .ok (.int (i/j)) else .bad:=rfl
@[simp]theorem iO(i j:Ai):CM .Mod (.int i) (.int j)=if 0<j then .ok (.int (i%j)) else .bad:=rfl
@[simp]theorem jG(i j:Ai):CM .Pow (.int i) (.int j)=if (0<=j/\j<=1000000)/\(-(18446744073709551616:Ai)<i/\i<18446744073709551616) then .ok (.int (i ^ j.toNat)) else .bad:=rfl
@[simp]theorem Il(x y:Ag):CM .Add (.str x) (.str y)=if Dl (x.length+y.length)=Ab then .ok (.str (x++y)) else .bad:=rfl
@[simp]theorem TL(x y:Ac D):CM .Add (.lst x) (.lst y)=if Dl (x.length+y.length)=Ab then .ok (.lst (x++y)) else .bad:=rfl
@[simp]theorem SX(x y:Ac D):CM .Add (.tup x) (.tup y)=if (!x.isEmpty&&Dl (x.length+y.length))=Ab then .ok (.tup (x++y)) else .bad:=rfl
@[simp]theorem ZzI(i:Ai):unD .USub (.int i)=.ok (.int (-i)):=rfl
@[simp]theorem pS(x y:D):BN .Eq x y=if (flD 5 x&&flD 5 y)=Ab then .ok (.bl (eqD x y)) else .bad:=rfl
@[simp]theorem pB(x y:D):BN .NotEq x y=if (flD 5 x&&flD 5 y)=Ab then .ok (.bl (!eqD x y)) else .bad:=rfl
@[simp]theorem ZzJ(i j:Ai):BN .Lt (.int i) (.int j)=.ok (.bl (decide (i<j))):=rfl
@[simp]theorem ZzM(i j:Ai):BN .LtE (.int i) (.int j)=.ok (.bl (decide (i<=j))):=rfl
@[simp]theorem ZzX(i j:Ai):BN .Gt (.int i) (.int j)=.ok (.bl (decide (j<i))):=rfl
@[simp]theorem ZzY(i j:Ai):BN .GtE (.int i) (.int j)=.ok (.bl (decide (j<=i))):=rfl
@[simp]theorem qH(x:D)(ys:Ac D):BN .In x (.lst ys)=if (flD 5 x&&ys.all (flD 5))=Ab then .ok (.bl (ys.any λy=>eqD y x)) else .bad:=rfl
@[simp]theorem qG(x:D)(ys:Ac D):BN .In x (.tup ys)=if (flD 5 x&&ys.all (flD 5))=Ab then .ok (.bl (ys.any λy=>eqD y x)) else .bad:=rfl
@[simp]theorem pA(x:D)(ys:Ac D):BN .NotIn x (.lst ys)=if (flD 5 x&&ys.all (flD 5))=Ab then .ok (.bl (!ys.any λy=>eqD y x)) else .bad:=rfl
@[simp]theorem oZ(x:D)(ys:Ac D):BN .NotIn x (.tup ys)=if (flD 5 x&&ys.all (flD 5))=Ab then .ok (.bl (!ys.any λy=>eqD y x)) else .bad:=rfl
@[simp]theorem ZyP:BN .Is .non .non=.ok (.bl Ab):=rfl
@[simp]theorem ZyR(i):BN .Is (.int i) .non=.ok (.bl Ad):=rfl
@[simp]theorem ZyO(i):BN .Is (.tup i) .non=.ok (.bl Ad):=rfl
@[simp]theorem ZyQ(i):BN .Is (.lst i) .non=.ok (.bl Ad):=rfl
@[simp]theorem ZzP(a b):BN .Is (.bl a) (.bl b)=.ok (.bl (a==b)):=rfl
@[simp]theorem ZyM(a b):BN .IsNot (.bl a) (.bl b)=.ok (.bl (!(a==b))):=rfl
@[simp]theorem Zws:BN .IsNot .non .non=.ok (.bl Ad):=rfl
@[simp]theorem Zwu(i):BN .IsNot (.int i) .non=.ok (.bl Ab):=rfl
@[simp]theorem Zwr(i):BN .IsNot (.tup i) .non=.ok (.bl Ab):=rfl
@[simp]theorem Zwt(i):BN .IsNot (.lst i) .non=.ok (.bl Ab):=rfl
@[simp]theorem Zxz(i j:Ai):eqD (.int i) (.int j)=(i==j):=rfl
@[simp]theorem Zzb(i j:Ak):eqD (.bl i) (.bl j)=(i==j):=rfl
@[simp]theorem Zxw(i j:Ag):eqD (.str i) (.str j)=(i==j):=rfl
@[simp]theorem Zxv(i j:Ac D):eqD (.tup i) (.tup j)=eqDs i j:=rfl
@[simp]theorem Zxy(i j:Ac D):eqD (.lst i) (.lst j)=eqDs i j:=rfl
@[simp]theorem Zxx:eqD .non .non=Ab:=rfl
@[simp]theorem Zop(i):eqD .non (.int i)=Ad:=rfl
@[simp]theorem Zoq(i):eqD (.int i) .non=Ad:=rfl
@[simp]theorem ZtF:eqDs [] []=Ab:=rfl
@[simp]theorem N2(x y:D)(xs ys:Ac D):eqDs (x::xs) (y::ys)=(eqD x y&&eqDs xs ys):=rfl
@[simp]theorem ZwZ(n)(i:Ai):flD n (.int i)=Ab:=by cases n<;>rfl
@[simp]theorem Zy4(n)(i:Ak):flD n (.bl i)=Ab:=by cases n<;>rfl
@[simp]theorem ZwX(n)(i:Ag):flD n (.str i)=Ab:=by cases n<;>rfl
@[simp]theorem ZwY(n):flD n .non=Ab:=by cases n<;>rfl
@[simp]theorem Zs6(i):flD 5 (.tup i)=i.all (flD 4):=rfl
@[simp]theorem Ztb(i):flD 5 (.lst i)=i.all (flD 4):=rfl
@[simp]theorem Zs7(i):flD 4 (.tup i)=i.all (flD 3):=rfl
@[simp]theorem Ztc(i):flD 4 (.lst i)=i.all (flD 3):=rfl
@[simp]theorem Zs8(i):flD 3 (.tup i)=i.all (flD 2):=rfl
@[simp]theorem Ztd(i):flD 3 (.lst i)=i.all (flD 2):=rfl
@[simp]theorem Zs9(i):flD 2 (.tup i)=i.all (flD 1):=rfl
@[simp]theorem Zte(i):flD 2 (.lst i)=i.all (flD 1):=rfl
@[simp]theorem Zta(i):flD 1 (.tup i)=i.all (flD 0):=rfl
@[simp]theorem Ztf(i):flD 1 (.lst i)=i.all (flD 0):=rfl
@[simp]theorem Zua(b):BM (.bl b)=.ok b:=rfl
@[simp]theorem Zsy(i):BM (.int i)=.ok (i != 0):=rfl
@[simp]theorem Zsx(i):BM (.lst i)=.ok (!i.isEmpty):=rfl
@[simp]theorem Zsv(i):BM (.tup i)=.ok (!i.isEmpty):=rfl
@[simp]theorem Zsw:BM .non=.ok Ad:=rfl
@[simp]theorem Zub(b):F8 (.bl b)=.ok b:=rfl
@[simp]theorem ZsA(i):F8 (.int i)=.ok (i != 0):=rfl
@[simp]theorem Zsz:F8 .non=.ok Ad:=rfl
@[simp]theorem Zse:GF []=.ok Ab:=rfl
@[simp]theorem N4(x r):GF (x::r)=(F8 x).bind λb=>(GF r).bind λc=>.ok (b&&c):=rfl
@[simp]theorem Zsd:Jd []=.ok Ad:=rfl
@[simp]theorem Zpa(x r):Jd (x::r)=(F8 x).bind λb=>(Jd r).bind λc=>.ok (b||c):=rfl
@[simp]theorem ZxA(b)(d):EE b (.ok d)=.ok d:=by cases b<;>rfl
@[simp]theorem ZtH(b):EE b .bad=.bad:=by cases b<;>rfl
@[simp]theorem ZtG(x):EE Ab (.exn x)=.exn x:=rfl
@[simp]theorem Zo7(r):EE Ad r=noX r:=rfl
@[simp]theorem RX(a:α):noX (.ok a)=.ok a:=rfl
@[simp]theorem Zwg:noX (.bad:R α)=.bad:=rfl
@[simp]theorem Zwf(x):noX (.exn x:R α)=.bad:=rfl
@[simp]theorem ZxI(b):DC (.bl b)=.ok b:=rfl
@[simp]theorem Zsc(b):Fh (.int b)=.ok b:=rfl
@[simp]theorem Zsa(b):Px (.lst b)=.ok b:=rfl
@[simp]theorem Zr9(b):Ff (.lst b)=.ok b:=rfl
@[simp]theorem Zr8(b):Ff (.tup b)=.ok b:=rfl
@[simp]theorem oK(xs i):F6 (.lst xs) (.int i)=Dq xs i:=rfl
@[simp]theorem oJ(xs i):F6 (.tup xs) (.int i)=Dq xs i:=rfl
@[simp]theorem ZzL(xs):biD .len [.lst xs]=.ok (.int xs.length):=rfl
@[simp]theorem ZzK(xs):biD .len [.tup xs]=.ok (.int xs.length):=rfl
@[simp]theorem Zz9(i):biD .abs [.int i]=.ok (.int (if i<0 then -i else i)):=rfl
@[simp]theorem ZyG(i j):biD .max [.int i,.int j]=.ok (.int (if i<j then j else i)):=rfl
@[simp]theorem ZyE(i j):biD .min [.int i,.int j]=.ok (.int (if j<i then j else i)):=rfl
@[simp]theorem ZzR(i):biD .int [.int i]=.ok (.int i):=rfl
@[simp]theorem ZzS(i):biD .int [.bl i]=.ok (.int (b2i i)):=rfl
@[simp]theorem ZyL(i):biD .list [.lst i]=.ok (.lst i):=rfl
@[simp]theorem ZyK(i):biD .list [.tup i]=.ok (.lst i):=rfl
@[simp]theorem Zt9(i):biD .tuple [.lst i]=.ok (.tup i):=rfl
@[simp]theorem Zt8(i):biD .tuple [.tup i]=.ok (.tup i):=rfl
@[simp]theorem pQ(i):biD .all [.lst i]=(GF i).bind λb=>.ok (.bl b):=rfl
@[simp]theorem Zz7(i):biD .any [.lst i]=(Jd i).bind λb=>.ok (.bl b):=rfl
@[simp]theorem Zz6(i):biD .any [.tup i]=(Jd i).bind λb=>.ok (.bl b):=rfl
@[simp]theorem ZzB(i):biD .sum [.lst i]=(LD 0 i).bind λb=>.ok (.int b):=rfl
@[simp]theorem ZzA(i):biD .sum [.tup i]=(LD 0 i).bind λb=>.ok (.int b):=rfl
@[simp]theorem ZsK(i):biD .sorted [.lst i]=(Rz i).bind λb=>.ok (.lst b):=rfl
@[simp]theorem ZzC(xs k):biD .stp [.lst xs,.int k]=.ok (.lst (U_2 k.toNat xs)):=rfl
@[simp]theorem ZzF(xs):biD .rvs [.lst xs]=.ok (.lst xs.reverse):=rfl
@[simp]theorem ZyI(xs):biD .lset [.lst xs]=T9 xs:=rfl
@[simp]theorem Zx8(x y):biD .tmin [x,y]=mmD Ad x y:=rfl
@[simp]theorem Zzm(x y):biD .tlt [x,y]=UY x y:=rfl
@[simp]theorem Zx9(x y):biD .tmax [x,y]=mmD Ab x y:=rfl
@[simp]theorem ZxB(xs x):biD .count [.lst xs,x]=if (flD 5 x&&xs.all (flD 5))=Ab then .ok (.int ((xs.filter λy=>eqD y x).length:Af)) else .bad:=rfl
@[simp]theorem ZAh(xs lo hi):slD (.tup xs) lo hi=if (JJ xs.length 0 lo==0&&JJ xs.length xs.length hi==xs.length)=Ab then .bad else .ok (.tup (MZ xs lo hi)):=rfl
@[simp]theorem ZAi(xs lo hi):slD (.lst xs) lo hi=.ok (.lst (MZ xs lo hi)):=rfl
@[simp]theorem ZuM(d):slE .non d=.ok Ae:=rfl
@[simp]theorem ZuN(k i):slE (.int k) (.int i)=.ok (Aa i):=rfl
@[simp]theorem ZuL(k i):slE (.var k) (.int i)=.ok (Aa i):=rfl
@[simp]theorem ZuO(op a b i):slE (.bin op a b) (.int i)=.ok (Aa i):=rfl
@[simp]theorem Zyg(op a i):slE (.un op a) (.int i)=.ok (Aa i):=rfl
@[simp]theorem Zyh(b as i):slE (.bi b as) (.int i)=.ok (Aa i):=rfl
@[simp]theorem Zwx(up ks):Ej up ks .non=if ks.any Dv=Ab then .bad else .ok (.bl (ks.any λk=>kiD up k .non)):=rfl
@[simp]theorem ZyN(up ks b):Ej up ks (.bl b)=if ks.any Dv=Ab then .bad else .ok (.bl (ks.any λk=>kiD up k (.bl b))):=rfl
@[simp]theorem Zwz(up ks b):Ej up ks (.int b)=if ks.any Dv=Ab then .bad else .ok (.bl (ks.any λk=>kiD up k (.int b))):=rfl
@[simp]theorem Zww(up ks b):Ej up ks (.str b)=if ks.any Dv=Ab then .bad else .ok (.bl (ks.any λk=>kiD up k (.str b))):=rfl
@[simp]theorem Zwv(up ks b):Ej up ks (.tup b)=if ks.any Dv=Ab then .bad else .ok (.bl (ks.any λk=>kiD up k (.tup b))):=rfl
@[simp]theorem Zwy(up ks b):Ej up ks (.lst b)=if ks.any Dv=Ab then .bad else .ok (.bl (ks.any λk=>kiD up k (.lst b))):=rfl
@[simp]theorem ZwA(up ks c f):Ej up ks (.exc c f)=if ks.all Dv=Ab then .ok (.bl (ks.any λk=>kiD up k (.exc c f))) else .bad:=rfl
@[simp]theorem ZtM(c):Dv (.cls c)=Ab:=rfl
@[simp]theorem ZrL:Dv .verr=Ab:=rfl
@[simp]theorem ZtL:Dv .int=Ad:=rfl
@[simp]theorem ZrN:Dv .bool=Ad:=rfl
@[simp]theorem ZtK:Dv .str=Ad:=rfl
@[simp]theorem ZrM:Dv .list=Ad:=rfl
@[simp]theorem Zo8:Dv .tuple=Ad:=rfl
@[simp]theorem Zo3(up i):kiD up .int (.int i)=Ab:=rfl
@[simp]theorem Zo2(up):kiD up .int .non=Ad:=rfl
@[simp]theorem Zn1(up i):kiD up .bool (.int i)=Ad:=rfl
@[simp]theorem Zo1(up i):kiD up .int (.tup i)=Ad:=rfl
@[simp]theorem Zo5(up i):kiD up .bool (.bl i)=Ab:=rfl
@[simp]theorem Zn0(up):kiD up .bool .non=Ad:=rfl
@[simp]theorem ZnZ(up i):kiD up .list (.lst i)=Ab:=rfl
@[simp]theorem ZlO(up i):kiD up .tuple (.tup i)=Ab:=rfl
@[simp]theorem ZlP(up):kiD up .tuple .non=Ad:=rfl
@[simp]theorem Zo4(up c k f):kiD up (.cls c) (.exc k f)=(up k).contains c:=rfl
@[simp]theorem ZnY(up k f):kiD up .verr (.exc k f)=Ab:=rfl
theorem Og{xs:Ac D}{i:Ai}{d:D}(h0:0<=i)(h:xs[i.toNat]?=Aa d):Dq xs i=.ok d:=by
 unfold Dq plD;obtain⟨h1,_⟩:=A9.mp h;rw[AC h0,AC (by omega)]
 dsimp only;rw[h]
section
variable(Z:Gam)(U:Rho)
@[simp]theorem Ztg:evSs Z U .nil=.next U:=rfl
noncomputable def Gm(Z:Gam)(ss:Ss)(o:O):O:=o.seq λU'=>evSs Z U' ss
@[simp]theorem Yx(s ss):evSs Z U (.cons s ss)=Gm Z ss (evS Z U s):=rfl
@[simp]theorem ZwP(ss):Gm Z ss (.next U)=evSs Z U ss:=rfl
@[simp]theorem ZyV(ss d b):Gm Z ss (.ret d b)=.ret d b:=rfl
@[simp]theorem ZyZ(ss):Gm Z ss (.brk U)=.brk U:=rfl
@[simp]theorem ZwQ(ss):Gm Z ss (.cont U)=.cont U:=rfl
@[simp]theorem ZyY(ss x):Gm Z ss (.exn x U)=.exn x U:=rfl
@[simp]theorem Zy0(ss):Gm Z ss .bad=.bad:=rfl
@[simp]theorem ZyX(ss)(c:Prop)[FQ c](a b:O):Gm Z ss (if c then a else b)=if c then Gm Z ss a else Gm Z ss b:=by split<;>rfl
@[simp]theorem ZyW(o:O):Gm Z .nil o=o:=by cases o<;>rfl
noncomputable def Ek(Z:Gam)(t:Af)(body:Ss):D->Rho->O:=λx U'=>evSs Z (U'.set t (Aa (x,Ad))) body
noncomputable def whC(Z:Gam)(c:E):Rho->R Ak:=λU'=>(top U' c (evE Z U' c)).bind BM
noncomputable def whB(Z:Gam)(body:Ss):Rho->O:=λU'=>evSs Z U' body
noncomputable def UP(Z:Gam)(t:Af)(body:Ss)(U:Rho)(r:R (Ac D)):O:=O.of U r λxs=>Du (Ek Z t body) xs U
@[simp]theorem ZwS(t body xs):UP Z t body U (.ok xs)=Du (Ek Z t body) xs U:=rfl
@[simp]theorem Ztk:evS Z U .pass=.next U:=rfl
@[simp]theorem Zw6(i e):evS Z U (.asg i Ad e)=O.of U (evE Z U e) λd=>.next (U.set i (Aa (d,Ad))):=rfl
@[simp]theorem Ztn(e):evS Z U (.expr e)=O.of U (evE Z U e) λ_=>.next U:=rfl
@[simp]theorem RU(e):evS Z U (.ret e)=O.of U (top U e (evE Z U e)) λd=>.ret d (Ew Z e||(match e with | .var i=>(match U[i]? with|some (Aa (_,o))=>o|_=>Ad)|_=>Ad)):=rfl
@[simp]theorem Zti:evS Z U .retN=.ret .non Ad:=rfl
@[simp]theorem Zw2(c a b):evS Z U (.ife c a b)=O.of U ((top U c (evE Z U c)).bind BM) λk=>if k=Ab then evSs Z U a else evSs Z U b:=rfl
@[simp]theorem Ztl(t it body):evS Z U (.fors t it body)=UP Z t body U (He Z U it):=rfl
noncomputable def MC(Z:Gam)(ts:Ac Af)(body:Ss):D->Rho->O:=λx U'=>O.of U' (ER ts x U') λU''=>evSs Z U'' body
noncomputable def Uw(Z:Gam)(ts:Ac Af)(body:Ss)(U:Rho)(r:R (Ac D)):O:=O.of U r λxs=>Du (MC Z ts body) xs U
@[simp]theorem Zs5(t body xs):Uw Z t body U (.ok xs)=Du (MC Z t body) xs U:=rfl
@[simp]theorem Ztm(t it body):evS Z U (.forT t it body)=Uw Z t body U (He Z U it):=rfl
@[simp]theorem Ztp(ts e):evS Z U (.asgT ts e)=O.of U (evE Z U e) λd=>O.of U (MN ts d U) λU'=>.next U':=rfl
theorem ZL(i e):evS Z U (.asg i Ab e)=O.of U (evE Z U e) λd=>if Ew Z e=Ab then (match d with
      |.lst xs=>.next (U.set i (Aa (.lst xs,Ab)))
      |.dic xs=>.next (U.set i (Aa (.dic xs,Ab)))
      | _=>.bad) else .bad:=rfl
noncomputable def setF(U:Rho)(i:Af):D->O
 |.lst xs=>.next (U.set i (Aa (.lst xs,Ab)))
 |.dic xs=>.next (U.set i (Aa (.dic xs,Ab)))
 |_=>.bad
@[simp]theorem Zyp(i xs):setF U i (.lst xs)=.next (U.set i (Aa (.lst xs,Ab))):=rfl
@[simp]theorem Zyq(i xs):setF U i (.dic xs)=.next (U.set i (Aa (.dic xs,Ab))):=rfl
@[simp]theorem Yy(i e):evS Z U (.asg i Ab e)=O.of U (evE Z U e) λd=>if Ew Z e=Ab then setF U i d else .bad:=by
 rw[ZL]
 congr 1
@[simp]theorem Zw7(i e):evS Z U (.app i e)=O.of U (Ev U i) λxs=>O.of U (evE Z U e) λd=>if Dl (xs.length+1)=Ab then .next (U.set i (Aa (.lst (xs++[d]),Ab))) else .bad:=rfl
@[simp]theorem Zw3(i e):evS Z U (.ext i e)=O.of U (Ev U i) λxs=>O.of U (evE Z U e) λd=>O.of U (Px d) λys=>if Dl (xs.length+ys.length)=Ab then .next (U.set i (Aa (.lst (xs++ys),Ab))) else .bad:=rfl
@[simp]theorem Zw1(i):evS Z U (.rev i)=O.of U (Ev U i) λxs=>.next (U.set i (Aa (.lst xs.reverse,Ab))):=rfl
@[simp]theorem Zw4(i):evS Z U (.clr i)=O.of U (Ev U i) λ_=>.next (U.set i (Aa (.lst [],Ab))):=rfl
@[simp]theorem ZsY(U:Rho)(i)(xs):P3 U i (.lst xs)=.next (U.set i (Aa (.lst xs,Ad))):=rfl
@[simp]theorem ZJ(body c x h):evS Z U (.tryx body c x h)=match evSs Z U body with
      | .exn y U'=>if (Z.up y.c).contains c=Ab then (match evSs Z (U'.set x (Aa (.exc y.c y.fs,Ad))) h with
          |.next U''=>.next (U''.set x Ae)
          |.ret d f=>.ret d f
          | _=>.bad) else .bad
      |o=>o:=rfl
@[simp]theorem Zth(body c x h c' h' els):evS Z U (.try2 body c x h c' h' els)=match evSs Z U body with
      |.exn y U'=>if (Z.up y.c).contains c=Ab then hdO x y U' (λr=>evSs Z r h) else if (Z.up y.c).contains c'=Ab then hdO x y U' (λr=>evSs Z r h') else .bad
      |.next U'=>evSs Z U' els
      |o=>o:=rfl
@[simp]theorem Zw0(c body):evS Z U (.whl c body)=PQ (whC Z c) (whB Z body) Uv U:=rfl
theorem ZK(i es p e r e' c n):evS Z U (.hand i es p e r e' c n)=JG (λU=>evA Z U es) (λU=>evE Z U e) (λU=>evE Z U e') (λU=>(top U c (evE Z U c)).bind BM) i p r n U:=rfl
@[simp]theorem Ztj(c as):evS Z U (.rais c as)=O.of U (noX (evA Z U as)) λxs=>O.of U (Z.xn c xs) λx=>.exn x U:=rfl
@[simp]theorem Zw5:evS Z U .brk=.brk U:=rfl
@[simp]theorem Zto:evS Z U .cont=.cont U:=rfl
end
end Ov
namespace Ov
open PySem
theorem Qz{body:D->Rho->O}(P:Af->Rho->Prop):∀(xs:Ac D)(n:Af)(U:Rho),P n U->(∀ i x,xs[i]?=Aa x->∀ U,P (n+i) U->∃ U',body x U=.next U'/\P (n+i+1) U')->∃ U',Du body xs U=.next U'/\P (n+xs.length) U'
 |[],n,U,h,_=>⟨U,rfl,h⟩
 |x::xs,n,U,h,k=>by
  obtain⟨U1,e1,h1⟩:=k 0 x rfl U h;obtain⟨U2,e2,h2⟩:=Qz P xs (n+1) U1 h1 λi y hy U hρ=>by
   have:=k (i+1) y (by simpa using hy) U (by rw[show n+(i+1)=n+1+i by omega];exact hρ)
   rw[show n+(i+1)=n+1+i by omega]at this
   exact this
  exact⟨U2,by show (body x U).turn _=_;rw[e1];exact e2,by rw[show n+(x::xs).length=n+1+xs.length by simp;omega];exact h2⟩
theorem NM(lo:Ai)(n:Af):(Hg lo n).length=n:=by simp[Hg]
theorem Rg{lo:Ai}{n i:Af}{x:D}(h:(Hg lo n)[i]?=Aa x):i<n/\x=.int (lo+(i:Ai)):=by
 have hl:=(A9.mp h).1;rw[NM]at hl;unfold Hg at h;rw[Em,List.getElem?_range hl]at h;cases h;exact⟨hl,rfl⟩
noncomputable def Ss.take:Af->Ss->Ss
 |0,_=>.nil
 |_,.nil=>.nil
 |n+1,.cons s ss=>.cons s (ss.take n)
noncomputable def Ss.drop:Af->Ss->Ss
 |0,ss=>ss
 |_,.nil=>.nil
 |n+1,.cons _ ss=>ss.drop n
noncomputable def mkC(c:Af):Df:=⟨2,Ad,.cons (.ret (.mkob c (.call 910 (.cons (.var 0) (.cons (.var 1) .nil))))) .nil⟩
noncomputable def inC:Df:=⟨2,Ad,.cons (.ret (.tup (.cons (.var 0) (.cons (.call 17 (.cons (.var 0) (.cons (.var 1) .nil))) .nil)))) .nil⟩
end Ov
end
section
namespace Ov
noncomputable def xfD:Af->D->Ak
 |0,.int i=>decide (0<=i)&&decide (i<100)
 |n+1,.tup ds=>CO ds.length 8&&ds.all (xfD n)
 |_,_=>Ad
noncomputable def mkX(c:Af)(f:Ag):Ac D->R Ex
 |[d]=>if (xfD 1 d||xfD 2 d)=Ab then .ok ⟨c,[(f,d)]⟩ else .bad
 |_=>.bad
noncomputable def mkA(c:Af)(f:Ag):Ac D->R Ex
 |[d]=>if (xfD 0 d||(xfD 1 d||xfD 2 d))=Ab then .ok ⟨c,[(f,d)]⟩ else .bad
 |_=>.bad
end Ov
end
section
namespace OvC
open PySem Ov PyProof.Rows
variable{j:Ai}
noncomputable abbrev scr(ns:Ac Ai):D:=.lst (ns.map .int)
noncomputable abbrev sh(d:D):Sl:=Aa (d,Ad)
noncomputable abbrev si(i:Ai):Sl:=Aa (.int i,Ad)
noncomputable def KA(ns:Ac Ai)(k:Ai):Ai:=if ns=[] then 0 else ns.getD (k%ns.length).toNat 0
noncomputable def EZ(ns:Ac Ai)(k:Ai):Ai:=(KA ns k%1000003+7919*k+11)*48271%1000033
theorem gY(ns k):0<=EZ ns k:=by unfold EZ;omega
theorem UO{P:Af->Prop}(h0:P 0)(h1:P 1)(h2:P 2)(h3:P 3):P (j%4).toNat:=by
 have:(j%4).toNat=0\/(j%4).toNat=1\/(j%4).toNat=2\/(j%4).toNat=3:=by omega
 rcases this with e|e|e|e<;>rw[e]<;>assumption
def P4(p:Ai):Prop:=p=3\/p=5\/p=7\/p=11
noncomputable def pr4(j:Ai):Ai:=[3,5,7,11].getD (j%4).toNat 0
theorem jF(j):P4 (pr4 j):=by
 unfold pr4;exact UO (P:=λj=>P4 ([3,5,7,11].getD j 0)) (.inl rfl) (.inr (.inl rfl)) (.inr (.inr (.inl rfl))) (.inr (.inr (.inr rfl)))
theorem P4.pos{p}(h:P4 p):0<p:=by rcases h with rfl|rfl|rfl|rfl<;>decide
theorem P4.lo{p}(h:P4 p):3<=p:=by rcases h with rfl|rfl|rfl|rfl<;>decide
theorem P4.hi{p}(h:P4 p):p<=11:=by rcases h with rfl|rfl|rfl|rfl<;>decide
theorem ZF(j:Ai):Dq [.int 3,.int 5,.int 7,.int 11] (j%4)=.ok (.int (pr4 j)):=by
 have h:=UO (P:=λj=>[D.int 3,D.int 5,D.int 7,D.int 11][j]?=Aa (D.int ([3,5,7,11].getD j 0))) (j:=j) rfl rfl rfl rfl
 exact Og (by omega) h
theorem J9{i:Ai}(h0:-18446744073709551616<i)(h1:i<18446744073709551616):DV i j=Ab:=by simp[DV];left;exact⟨h0,h1⟩
theorem RZ{i:Ai}(h0:-18446744073709551616<j)(h1:j<18446744073709551616):DV i j=Ab:=by simp[DV];right;exact⟨h0,h1⟩
noncomputable def O5:Df:=⟨2,Ad,(.cons (.ret (.bin .Mod (.var 1) (.var 0))) .nil)⟩
def Lr(Z:Gam):Prop:=∀ p n:Ai,0<p->Z.F 1 [.int p,.int n]=.ok (.int (n%p))
theorem iT(Z:Gam)(p n:Ai)(h:0<p):O5.run Z [.int p,.int n]=.ok (.int (n%p)):=by simp[O5,Df.run,BV,h]
noncomputable def Ny:Df:=⟨2,Ad,(.cons (.ife (.cmp .Eq (.bi .len (.cons (.var 0) .nil)) (.int 0)) (.cons (.ret (.int 0)) .nil) .nil) (.cons (.ret (.idx (.var 0) (.bin .Mod (.var 1) (.bi .len (.cons (.var 0) .nil))))) .nil))⟩
def O9(Z:Gam):Prop:=∀(ns:Ac Ai)(k:Ai),Z.F 2 [scr ns,.int k]=.ok (.int (KA ns k))
theorem iY(Z:Gam)(ns:Ac Ai)(k:Ai):Ny.run Z [scr ns,.int k]=.ok (.int (KA ns k)):=by
 simp[Ny,Df.run,BV,KA];by_cases h:ns=[]
 .simp[h]
 .have hn:=VF.mpr h;have hl:0<(ns.length:Ai):=by omega
  have h1:=Cz k (Int.ne_of_gt hl);have h2:=Ck k hl;have h3:(k%ns.length).toNat<ns.length:=by omega
  simp[h,hn,Og (xs:=ns.map .int) (d:=.int (ns.getD (k%ns.length).toNat 0)) h1 (by simp[h3])]
noncomputable def NP:Df:=⟨2,Ad,(.cons (.ret (.bin .Mod (.bin .Mult (.bin .Add (.bin .Add (.bin .Mod (.call 2 (.cons (.var 0) (.cons (.var 1) .nil))) (.int 1000003)) (.bin .Mult (.int 7919) (.var 1))) (.int 11)) (.int 48271)) (.int 1000033))) .nil)⟩
def SH(Z:Gam):Prop:=∀(ns:Ac Ai)(k:Ai),Z.F 3 [scr ns,.int k]=.ok (.int (EZ ns k))
theorem dA{Z:Gam}(h2:O9 Z)(ns:Ac Ai)(k:Ai):NP.run Z [scr ns,.int k]=.ok (.int (EZ ns k)):=by
 simp[NP,Df.run,BV,h2 ns k,DV,EZ]
noncomputable def X6:Df:=⟨2,Ad,(.cons (.ret (.idx (.lst (.cons (.int 3) (.cons (.int 5) (.cons (.int 7) (.cons (.int 11) .nil))))) (.bin .Mod (.bin .FloorDiv (.call 3 (.cons (.var 0) (.cons (.var 1) .nil))) (.int 16)) (.int 4)))) .nil)⟩
noncomputable def X5:Df:=⟨3,Ad,(.cons (.ret (.and (.cons (.isi (.var 0) [.int]) (.cons (.no (.isi (.var 0) [.bool])) (.cons (.cmp2 .LtE .LtE (.var 1) (.var 0) (.var 2)) .nil))))) .nil)⟩
end OvC
end
namespace Ov
open PySem PySem.Spec PyProof.Rows L2
variable{K:Fg}{mg:Ag->An Aj}{x:Ag}{A B:Ah->Prop}{H H' H1 H0:Hp}{a b l q:Ah}{xs:Ac V}{v:V}{d:D}{Rp Rq:Hp->V->D->Prop}{r:R D}{Q:VK}{X:Cx}{e c tg iter elt:Am}{U:Rho}{i n j k:Af}{Y:L2.St}{g:D->D->R D}{op:C4}{pI:Pn}{s:Ao}{its its2 ys:Ac Aj}{items2:Bj Aj}{h h':AE}{u:Aj}{es ifs:Ac Am}{fs fi:Rho->R (Ac D)}{Q':An Ai->Hp->Prop}{p pos' pos pos2:AA}{T:CK}{α:Type}{D':Ends}{fc:Rho->R Ak}{as:D->Rho->R Rho}{up:Af->Ac Af}{prog:AL}{w:Az}{scope:BK}{env:Cc}{cl:Ac (Ag×Ah)}{N':Ac Ag}{ts:Ac Af}{fp:Ac Ah}{tt:TT}{te:TE}{J:It}{wi:TI}{t:Ak}
noncomputable def MQ:Af->Ag
 |0 => "Triple"
 |1 => "Point"
 |2 => "Line"
 |_ => ""
noncomputable def OC(K:Fg)(c:Af):An Ah:=if c<3 then (match Bl K AT (MQ c) with
  |some (Aa (.ref C))=>Aa C
  | _=>Ae) else Ae
noncomputable def Fj:Ac (Ag×Af×Ag):=[("0.told",0, "told"),("1.told",1, "told"),("2.told",2, "told"),("0.shown",0, "shown"),("1.shown",1, "shown"),("2.shown",2, "shown"),("1.across",1, "across"),("2.across",2, "across"),("1.meets",1, "meets"),("2.meets",2, "meets")]
noncomputable def Ha(K:Fg)(mg:Ag->An Aj)(x:Ag):An Aj:=match Fj.lookup x with
  |some (c,m)=>(OC K c).bind λC=>(Aq K (.ref C) m).join
  |none=>mg x
theorem L3{v:An Aj}(h:Ha K mg x=v)(e:Fj.lookup x=Ae):mg x=v:=by
 unfold Ha at h;rw[e]at h;exact h
theorem Ra{m:Ag}{c:Af}{C:Ah}{v:Aj}(h:Ha K mg x=Aa v)(e:Fj.lookup x=Aa (c,m))(hC:OC K c=Aa C):Aq K (.ref C) m=Aa (Aa v):=by
 unfold Ha at h;rw[e]at h;dsimp only at h;rw[hC]at h;have h':(Aq K (.ref C) m).join=Aa v:=h;cases q:Aq K (.ref C) m with
 |none=>rw[q]at h';cases h'
 |some u=>rw[q]at h';have:u=Aa v:=h';rw[this]
abbrev ClA:=Af->An Ah
variable{CL:ClA}
def KL(K:Fg)(a:Ah)(xs:Ac V):Prop:=∃(o:C7)(its:Bj Aj)(n:Af),K.lookup a=Aa o/\o.cls=.type "list"/\o.dict=Ae/\o.data=.seq its n/\its.size<=sizeLine/\AW xs its.toList
def KT(K:Fg)(a:Ah)(xs:Ac V):Prop:=∃(o:C7)(its:Bj Aj)(n:Af),K.lookup a=Aa o/\o.cls=.type "tuple"/\o.data=.seq its n/\its.size<=sizeLine/\AW xs its.toList
section
variable(K:Fg)(CL:ClA)(H:Hp)(A:Ah->Prop)
mutual
def Rep:V->D->Prop
 |v,.non=>v=.non
 |v,.bl b=>v=.bl b
 |v,.int i=>v=.int i
 |v,.str x=>v=.str x
 |v,.tup ds=>∃ a xs,v=.ref a/\(¬ A a\/KT K a xs)/\SqT K H a xs/\Reps xs ds
 |v,.lst ds=>∃ a xs,v=.ref a/\(¬ A a\/KL K a xs)/\SqL K H a xs/\Reps xs ds
 |v,.obj c fs=>∃ a C dx vs,v=.ref a/\¬ A a/\OC K c=Aa C/\H a=Aa (.ins C dx vs)/\Repf vs fs
 |_,.dic _=>AU
 |v,.exc c fs=>∃ a C φ,v=.ref a/\¬ A a/\CL c=Aa C/\H a=Aa (.ext φ)/\(∀ h,φ h->∃ o,h.get? a=Aa o/\o.cls=.ref C)/\(fs=[]\/∃ dx vs,¬ A dx/\H dx=Aa (.xd vs)/\Repf vs fs/\∀ h,φ h->∃ o,h.get? a=Aa o/\o.dict=Aa dx/\∃ us,o.data=.fields us)
def Reps:Ac V->Ac D->Prop
 |[],[]=>G4
 |v::vs,d::ds=>Rep v d/\Reps vs ds
 |_,_=>AU
def Repf:Ac (Ag×V)->Ac (Ag×D)->Prop
 |[],[]=>G4
 |v::vs,d::ds=>Repp v d/\Repf vs ds
 |_,_=>AU
def Repp:Ag×V->Ag×D->Prop
 |v,(n,d)=>v.1=n/\Rep v.2 d
end
def Cr(v:V)(d:D):Prop:=Rep K CL H A v d\/∃ a xs ds,v=.ref a/\d=.lst ds/\H a=Aa (.lst xs)/\Reps K CL H A xs ds
end
def Kp(A:Ah->Prop)(H H':Hp):Prop:=∀ b o,H b=Aa o->¬ A b->H' b=Aa o
def AOk(H:Hp)(A:Ah->Prop):Prop:=∀ a,A a->∃ xs,H a=Aa (.lst xs)
theorem Kp.of(h:Ay H H'):Kp A H H':=λb o e _=>h b o e
theorem AOk.same(h:AOk H A)(s:Ay H H'):AOk H' A:=λa ha=>let ⟨xs,e⟩:=h a ha;⟨xs,s _ _ e⟩
theorem AOk.new{p:Ah}(h:AOk H A)(e:H p=Ae):¬ A p:=λha=>by
 obtain⟨xs,q⟩:=h p ha;rw[e]at q;cases q
section
variable{K:Fg}{CL:ClA}{H H':Hp}{A B:Ah->Prop}
theorem Ui{u:HO}(k:Kp A H H')(na:¬ A a)(h:Rd H a u):Rd H' a u:=by
 rcases h with h|⟨o,h⟩
 .exact .inl (k _ _ h na)
 .exact .inr ⟨o,k _ _ h na⟩
theorem OH(k:Kp A H H')(na:¬ A a\/KL K a xs)(h:SqL K H a xs):SqL K H' a xs:=na.elim (λna=>h.imp (Ui k na) id) .inr
theorem OG(k:Kp A H H')(na:¬ A a\/KT K a xs)(h:SqT K H a xs):SqT K H' a xs:=na.elim (λna=>h.imp (Ui k na) id) .inr
mutual
theorem Rep.kp(k:Kp A H H'):∀{v:V}(d:D),Rep K CL H A v d->Rep K CL H' A v d
 |_,.non,h=>h
 |_,.bl _,h=>h
 |_,.int _,h=>h
 |_,.str _,h=>h
 |_,.dic _,h=>h.elim
 |_,.tup ds,h=>by
  obtain⟨a,xs,e,na,s,r⟩:=h;exact⟨a,xs,e,na,by first|exact OG k na s|exact OH k na s,Reps.kp k ds r⟩
 |_,.lst ds,h=>by
  obtain⟨a,xs,e,na,s,r⟩:=h;exact⟨a,xs,e,na,by first|exact OG k na s|exact OH k na s,Reps.kp k ds r⟩
 |_,.obj c fs,h=>by
  obtain⟨a,C,dx,vs,e,na,c,s,r⟩:=h;exact⟨a,C,dx,vs,e,na,c,k _ _ s na,Repf.kp k fs r⟩
 |_,.exc c fs,h=>by
  obtain⟨a,C,φ,e,na,c,s,p,q⟩:=h;refine⟨a,C,φ,e,na,c,k _ _ s na,p,q.imp id ?_⟩;rintro⟨dx,vs,nx,s2,r,z⟩;exact⟨dx,vs,nx,k _ _ s2 nx,Repf.kp k fs r,z⟩
theorem Reps.kp(k:Kp A H H'):∀{vs:Ac V}(ds:Ac D),Reps K CL H A vs ds->Reps K CL H' A vs ds
 |[],[],h=>h
 |_::_,d::ds,h=>⟨Rep.kp k d h.1,Reps.kp k ds h.2⟩
 |[],_::_,h=>h.elim
 |_::_,[],h=>h.elim
theorem Repf.kp(k:Kp A H H'):∀{vs:Ac (Ag×V)}(ds:Ac (Ag×D)),Repf K CL H A vs ds->Repf K CL H' A vs ds
 |[],[],h=>h
 |_::_,d::ds,h=>⟨Repp.kp k d h.1,Repf.kp k ds h.2⟩
 |[],_::_,h=>h.elim
 |_::_,[],h=>h.elim
theorem Repp.kp(k:Kp A H H'):∀{v:Ag×V}(d:Ag×D),Repp K CL H A v d->Repp K CL H' A v d
 |_,(_,d),h=>⟨h.1,Rep.kp k d h.2⟩
end
mutual
theorem Rep.sub(k:∀ a,B a->A a):∀{v:V}(d:D),Rep K CL H A v d->Rep K CL H B v d
 |_,.non,h=>h
 |_,.bl _,h=>h
 |_,.int _,h=>h
 |_,.str _,h=>h
 |_,.dic _,h=>h.elim
 |_,.tup ds,h=>by
  obtain⟨a,xs,e,na,s,r⟩:=h;exact⟨a,xs,e,na.imp (λna z=>na (k _ z)) id,s,Reps.sub k ds r⟩
 |_,.lst ds,h=>by
  obtain⟨a,xs,e,na,s,r⟩:=h;exact⟨a,xs,e,na.imp (λna z=>na (k _ z)) id,s,Reps.sub k ds r⟩
 |_,.obj c fs,h=>by
  obtain⟨a,C,dx,vs,e,na,c,s,r⟩:=h;exact⟨a,C,dx,vs,e,λz=>na (k _ z),c,s,Repf.sub k fs r⟩
 |_,.exc c fs,h=>by
  obtain⟨a,C,φ,e,na,c,s,p,q⟩:=h;refine⟨a,C,φ,e,λz=>na (k _ z),c,s,p,q.imp id ?_⟩
  rintro⟨dx,vs,nx,s2,r,z⟩;exact⟨dx,vs,λz=>nx (k _ z),s2,Repf.sub k fs r,z⟩
theorem Reps.sub(k:∀ a,B a->A a):∀{vs:Ac V}(ds:Ac D),Reps K CL H A vs ds->Reps K CL H B vs ds
 |[],[],h=>h
 |_::_,d::ds,h=>⟨Rep.sub k d h.1,Reps.sub k ds h.2⟩
 |[],_::_,h=>h.elim
 |_::_,[],h=>h.elim
theorem Repf.sub(k:∀ a,B a->A a):∀{vs:Ac (Ag×V)}(ds:Ac (Ag×D)),Repf K CL H A vs ds->Repf K CL H B vs ds
 |[],[],h=>h
 |_::_,d::ds,h=>⟨Repp.sub k d h.1,Repf.sub k ds h.2⟩
 |[],_::_,h=>h.elim
 |_::_,[],h=>h.elim
theorem Repp.sub(k:∀ a,B a->A a):∀{v:Ag×V}(d:Ag×D),Repp K CL H A v d->Repp K CL H B v d
 |_,(_,d),h=>⟨h.1,Rep.sub k d h.2⟩
end
mutual
theorem Rep.wide(hp:∀ a,B a->A a\/H a=Ae):∀{v:V}(d:D),Rep K CL H A v d->Rep K CL H B v d
 |_,.non,h=>h
 |_,.bl _,h=>h
 |_,.int _,h=>h
 |_,.str _,h=>h
 |_,.dic _,h=>h.elim
 |_,.tup ds,h=>by
  obtain⟨a,xs,e,na,s,r⟩:=h;refine⟨a,xs,e,?_,s,Reps.wide hp ds r⟩;rcases s with s|s
  .refine na.imp (λna z=>(hp _ z).elim na λe=>?_) id
   rcases s with s|⟨o,s⟩<;>rw[e]at s<;>cases s
  .exact .inr s
 |_,.lst ds,h=>by
  obtain⟨a,xs,e,na,s,r⟩:=h;refine⟨a,xs,e,?_,s,Reps.wide hp ds r⟩;rcases s with s|s
  .refine na.imp (λna z=>(hp _ z).elim na λe=>?_) id
   rcases s with s|⟨o,s⟩<;>rw[e]at s<;>cases s
  .exact .inr s
 |_,.obj c fs,h=>by
  obtain⟨a,C,dx,vs,e,na,c,s,r⟩:=h;exact⟨a,C,dx,vs,e,(λz=>(hp _ z).elim na λe=>by rw[e]at s;cases s),c,s,Repf.wide hp fs r⟩
 |_,.exc c fs,h=>by
  obtain⟨a,C,φ,e,na,c,s,p,q⟩:=h;refine⟨a,C,φ,e,(λz=>(hp _ z).elim na λe=>by rw[e]at s;cases s),c,s,p,q.imp id ?_⟩
  rintro⟨dx,vs,nx,s2,r,z⟩;exact⟨dx,vs,(λz=>(hp _ z).elim nx λe=>by rw[e]at s2;cases s2),s2,Repf.wide hp fs r,z⟩
theorem Reps.wide(hp:∀ a,B a->A a\/H a=Ae):∀{vs:Ac V}(ds:Ac D),Reps K CL H A vs ds->Reps K CL H B vs ds
 |[],[],h=>h
 |_::_,d::ds,h=>⟨Rep.wide hp d h.1,Reps.wide hp ds h.2⟩
 |[],_::_,h=>h.elim
 |_::_,[],h=>h.elim
theorem Repf.wide(hp:∀ a,B a->A a\/H a=Ae):∀{vs:Ac (Ag×V)}(ds:Ac (Ag×D)),Repf K CL H A vs ds->Repf K CL H B vs ds
 |[],[],h=>h
 |_::_,d::ds,h=>⟨Repp.wide hp d h.1,Repf.wide hp ds h.2⟩
 |[],_::_,h=>h.elim
 |_::_,[],h=>h.elim
theorem Repp.wide(hp:∀ a,B a->A a\/H a=Ae):∀{v:Ag×V}(d:Ag×D),Repp K CL H A v d->Repp K CL H B v d
 |_,(_,d),h=>⟨h.1,Rep.wide hp d h.2⟩
end
theorem Rep.same(s:Ay H H')(h:Rep K CL H A v d):Rep K CL H' A v d:=Rep.kp (Kp.of s) d h
theorem Reps.same{v:Ac V}{d:Ac D}(s:Ay H H')(h:Reps K CL H A v d):Reps K CL H' A v d:=Reps.kp (Kp.of s) d h
theorem Cr.same{v:V}{d:D}(s:Ay H H')(h:Cr K CL H A v d):Cr K CL H' A v d:=by
 rcases h with h|⟨a,xs,ds,e,e2,q,r⟩
 .exact .inl (h.same s)
 .exact .inr ⟨a,xs,ds,e,e2,s _ _ q,r.same s⟩
theorem Reps.length:∀{vs:Ac V}{ds:Ac D},Reps K CL H A vs ds->vs.length=ds.length
 |[],[],_=>rfl
 |_::_,_::_,h=>congrArg (· + 1) (Reps.length h.2)
 |[],_::_,h=>h.elim
 |_::_,[],h=>h.elim
theorem Reps.append:∀{vs ws:Ac V}{ds es:Ac D},Reps K CL H A vs ds->Reps K CL H A ws es->Reps K CL H A (vs++ws) (ds++es)
 |[],_,[],_,_,h=>h
 |_::_,_,_::_,_,h,g=>⟨h.1,Reps.append h.2 g⟩
 |[],_,_::_,_,h,_=>h.elim
 |_::_,_,[],_,h,_=>h.elim
theorem Reps.get:∀{vs:Ac V}{ds:Ac D}{i:Af}{d:D},Reps K CL H A vs ds->ds[i]?=Aa d->∃ v,vs[i]?=Aa v/\Rep K CL H A v d
 |[],[],_,_,_,e=>by simp at e
 |v::_,_::_,0,_,h,e=>by simp at e;subst e;exact⟨v,rfl,h.1⟩
 |_::_,_::_,i+1,_,h,e=>by
  obtain⟨v,q,r⟩:=Reps.get (i:=i) h.2 (by simpa using e)
  exact⟨v,by simpa using q,r⟩
 |[],_::_,_,_,h,_=>h.elim
 |_::_,[],_,_,h,_=>h.elim
theorem Reps.take:∀{vs:Ac V}{ds:Ac D}(n:Af),Reps K CL H A vs ds->Reps K CL H A (vs.take n) (ds.take n)
 |_,_,0,_=>trivial
 |[],[],_+1,_=>trivial
 |_::_,_::_,n+1,h=>⟨h.1,Reps.take n h.2⟩
 |[],_::_,_+1,h=>h.elim
 |_::_,[],_+1,h=>h.elim
theorem Reps.drop:∀{vs:Ac V}{ds:Ac D}(n:Af),Reps K CL H A vs ds->Reps K CL H A (vs.drop n) (ds.drop n)
 |_,_,0,h=>h
 |[],[],_+1,_=>trivial
 |_::_,_::_,n+1,h=>Reps.drop n h.2
 |[],_::_,_+1,h=>h.elim
 |_::_,[],_+1,h=>h.elim
theorem Reps.set{x:V}{e:D}(r:Rep K CL H A x e):∀{vs:Ac V}{ds:Ac D}(n:Af),Reps K CL H A vs ds->Reps K CL H A (vs.set n x) (ds.set n e)
 |[],[],_,_=>trivial
 |_::_,_::_,0,h=>⟨r,h.2⟩
 |_::_,_::_,n+1,h=>⟨h.1,Reps.set r n h.2⟩
 |[],_::_,_,h=>h.elim
 |_::_,[],_,h=>h.elim
end
structure Good (K:Fg) (CL:ClA) (A:Ah->Prop) (U:Rho) (Y:L2.St) (H:Hp):Prop where
 sh:∀(i:Af)(d:D),U[i]?=Aa (Aa (d,Ad))->∃ v,Y[i]?=Aa (Aa v)/\Rep K CL H A v d
 ow:∀(i:Af)(d:D),U[i]?=Aa (Aa (d,Ab))->d≠.non->∃ a xs ds,Y[i]?=Aa (Aa (.ref a))/\d=.lst ds/\A a/\H a=Aa (.lst xs)/\Reps K CL H A xs ds
 len:U.length=Y.length
theorem Good.same{K:Fg}{CL:ClA}{A:Ah->Prop}{U:Rho}{Y:L2.St}{H H':Hp}(g:Good K CL A U Y H)(s:Ay H H'):Good K CL A U Y H':=
 ⟨λi d e=>let ⟨v,q,r⟩:=g.sh i d e;⟨v,q,r.same s⟩,λi d e hn=>let ⟨a,xs,ds,q,z,na,h,r⟩:=g.ow i d e hn;⟨a,xs,ds,q,z,na,s _ _ h,r.same s⟩,g.len⟩
abbrev XW:=Ex->Hp->Prop
variable{W:XW}
def AS(Rp:Hp->V->D->Prop)(W:XW)(H:Hp)(r:R D)(Q:VK):Prop:=match r with
  |.ok d=>∀ v H',Ay H H'->Rp H' v d->Q v H'
  |.exn x=>∀ H',Ay H H'->W x H'
  |.bad=>AU
def GH(Rp:Hp->Ac V->Ac D->Prop)(W:XW)(H:Hp)(r:R (Ac D))(Q:Ac V->Hp->Prop):Prop:=match r with
  |.ok d=>∀ v H',Ay H H'->Rp H' v d->Q v H'
  |.exn x=>∀ H',Ay H H'->W x H'
  |.bad=>AU
def CJ(W:XW)(H:Hp)(r:R Ak)(Q:Ak->Hp->Prop):Prop:=match r with
  |.ok b=>∀ H',Ay H H'->Q b H'
  |.exn x=>∀ H',Ay H H'->W x H'
  |.bad=>AU
theorem AS.same(s:Ay H H')(h:AS Rp W H r Q):AS Rp W H' r Q:=by
 cases r with
 |ok d=>exact λv H2 s2 q=>h v H2 (s.trans s2) q
 |exn x=>exact λH2 s2=>h H2 (s.trans s2)
 |bad=>exact h
theorem CJ.same{r:R Ak}{Q:Ak->Hp->Prop}(s:Ay H H')(h:CJ W H r Q):CJ W H' r Q:=by
 cases r with
 |ok d=>exact λH2 s2=>h H2 (s.trans s2)
 |exn x=>exact λH2 s2=>h H2 (s.trans s2)
 |bad=>exact h
theorem AS.bind{f:D->R D}{Q':VK}(h:AS Rq W H (r.bind f) Q)(k:∀ d v H',r=.ok d->Ay H H'->Rp H' v d->AS Rq W H' (f d) Q->Q' v H'):AS Rp W H r Q':=by
 cases r with
 |ok d=>exact λv H2 s2 q=>k d v H2 rfl s2 q (AS.same s2 h)
 |exn x=>exact h
 |bad=>exact h
section
variable(X:Cx)(CL:ClA)(W:XW)
def SE(e:Am)(f:Rho->R D):Prop:=∀ A,PE X e (λY H Q=>AOk H A/\∃ U,Good X.K CL A U Y H/\AS (λH=>Rep X.K CL H A) W H (f U) Q)
def ST(e:Am)(f:Rho->R D):Prop:=∀ A,PE X e (λY H Q=>AOk H A/\∃ U,Good X.K CL A U Y H/\AS (λH=>Cr X.K CL H A) W H (f U) Q)
def SB(e:Am)(f:Rho->R Ak):Prop:=∀ A,PT X e (λY H Q=>AOk H A/\∃ U,Good X.K CL A U Y H/\CJ W H (f U) Q)
def SA(es:Ac Am)(f:Rho->R (Ac D)):Prop:=∀ A,PA X es (λY H Q=>AOk H A/\∃ U,Good X.K CL A U Y H/\GH (λH=>Reps X.K CL H A) W H (f U) Q)
end
theorem PE.weak{t t':TE}(h:PE X e t)(k:∀ Y H Q,t' Y H Q->t Y H Q):PE X e t':=λpI s Y H Q I q=>h pI s Y H Q I (k _ _ _ q)
theorem PT.weak{t t':TT}(h:PT X e t)(k:∀ Y H Q,t' Y H Q->t Y H Q):PT X e t':=λpI s Y H Q I q=>h pI s Y H Q I (k _ _ _ q)
theorem PA.weak{e:Ac Am}{t t':TA}(h:PA X e t)(k:∀ Y H Q,t' Y H Q->t Y H Q):PA X e t':=λpos pI s Y H Q I q=>h pos pI s Y H Q I (k _ _ _ q)
noncomputable def OpD(X:Cx)(CL:ClA)(W:XW)(f:Aj->Aj->F0 Aj)(g:D->D->R D):Prop:=
 ∀ A,OpR X f (λx y H Q=>AOk H A/\∃ dx dy,Cr X.K CL H A x dx/\Cr X.K CL H A y dy/\AS (λH=>Rep X.K CL H A) W H (g dx dy) Q)
section
variable{X:Cx}{CL:ClA}{W:XW}{a b c:Am}{fa fb fc:Rho->R D}{pos:AA}
theorem SE.st(h:SE X CL W a fa):ST X CL W a fa:=λA=>PE.weak (h A) λY H Q ⟨hA,U,g,p⟩=>⟨hA,U,g,by
 cases e:fa U with
 |ok d=>rw[e]at p;exact λv H' s r=>p v H' s (.inl r)
 |exn x=>rw[e]at p;exact p
 | bad=>rw[e]at p;exact p⟩
theorem SE.congr{f g:Rho->R D}(h:SE X CL W a f)(e:∀ U,g U=f U):SE X CL W a g:=λA=>PE.weak (h A) λY H Q ⟨hA,U,q,p⟩=>⟨hA,U,q,by rw[<-e];exact p⟩
theorem Mv(h:PE X a (tC v))(r:∀ H A,AOk H A->Rep X.K CL H A v d):SE X CL W a (λ_=>.ok d):=λA=>PE.weak h λY H Q ⟨hA,U,g,p⟩=>p v H (Ay.refl H) (r H A hA)
theorem fF{i j}:SE X CL W (.Constant (.int i) j pos) (λ_=>.ok (.int i)):=Mv hZ λ_ _ _=>rfl
theorem TU{b j}:SE X CL W (.Constant (.bool b) j pos) (λ_=>.ok (.bl b)):=Mv lW λ_ _ _=>rfl
theorem TB{j}:SE X CL W (.Constant .none j pos) (λ_=>.ok .non):=Mv hV λ_ _ _=>rfl
theorem Mr{x j}:SE X CL W (.Constant (.str x) j pos) (λ_=>.ok (.str x)):=Mv Mt λ_ _ _=>rfl
theorem bO(h:EF U i=.ok d):U[i]?=Aa (Aa (d,Ad)):=by
 unfold EF at h;split at h
 .rename_i e;cases h;exact e
 .cases h
theorem RH(h:DW U i=.ok d):∃ o,U[i]?=Aa (Aa (d,o))/\(o=Ab->d≠.non):=by
 unfold DW at h;split at h
 .rename_i e;cases h;exact⟨_,e,λz=>nomatch z⟩
 .rename_i x e;cases x with
  |lst xs=>cases h;exact⟨_,e,λ_ z=>nomatch z⟩
  |_=>cases h
 .cases h
theorem Y_2{x:Ex}(h:EF U i=.exn x):AU:=by
 unfold EF at h;split at h<;>cases h
theorem Lh{x:Ex}(h:DW U i=.exn x):AU:=by
 unfold DW at h;split at h
 .cases h
 .rename_i y _;cases y<;>cases h
 .cases h
theorem fZ(h:PE X a (Eu i)):SE X CL W a (λU=>EF U i):=λA=>PE.weak h λY H Q ⟨hA,U,g,p⟩=>by
 dsimp only at p;cases e:EF U i with
 |ok d=>
  rw[e]at p;obtain⟨v,q,r⟩:=g.sh i d (bO e);exact⟨v,q,p v H (Ay.refl H) r⟩
 |exn x=>exact(Y_2 e).elim
 |bad=>rw[e]at p;exact p.elim
theorem Ih(h:PE X a (Eu i)):ST X CL W a (λU=>DW U i):=λA=>PE.weak h λY H Q ⟨hA,U,g,p⟩=>by
 dsimp only at p;cases e:DW U i with
 |ok d=>
  rw[e]at p;obtain⟨o,e,hn⟩:=RH e;cases o with
  |false=>
   obtain⟨v,q,r⟩:=g.sh i d e;exact⟨v,q,p v H (Ay.refl H) (.inl r)⟩
  |true=>
   obtain⟨x,xs,ds,q,rfl,ha,hh,r⟩:=g.ow i d e (hn rfl);exact⟨_,q,p _ H (Ay.refl H) (.inr ⟨x,xs,ds,rfl,rfl,hh,r⟩)⟩
 |exn x=>exact(Lh e).elim
 |bad=>rw[e]at p;exact p.elim
theorem op2(h:AOk H A/\∃ U,Good X.K CL A U Y H/\AS Rq W H ((fa U).bind λx=>(fb U).bind λy=>g x y) Q):AOk H A/\∃ U,Good X.K CL A U Y H/\AS (λH=>Cr X.K CL H A) W H (fa U) (λx H1=>AOk H1 A/\∃ U,Good X.K CL A U Y H1/\AS (λH=>Cr X.K CL H A) W H1 (fb U) (λy H2=>AOk H2 A/\∃ dx dy,Cr X.K CL H2 A x dx/\Cr X.K CL H2 A y dy/\AS Rq W H2 (g dx dy) Q)):=by
 obtain⟨hA,U,gd,p⟩:=h;refine⟨hA,U,gd,AS.bind p λdx x H1 _ s1 r1 p1=>⟨hA.same s1,U,gd.same s1,AS.bind p1 λdy y H2 _ s2 r2 p2=>⟨(hA.same s1).same s2,dx,dy,r1.same s2,r2,p2⟩⟩⟩
theorem OU{op:Fb}(ho:OpD X CL W (B1 op) g)(ha:ST X CL W a fa)(hb:ST X CL W b fb):SE X CL W (.BinOp a op b pos) (λU=>(fa U).bind λx=>(fb U).bind λy=>g x y):=
 λA=>PE.weak (Ul (ho A) (ha A) (hb A)) λY H Q h=>op2 h
theorem fH(ho:OpD X CL W (Cu op) g)(ha:ST X CL W a fa)(hb:ST X CL W b fb)(hm:Gx op b=Ad):SE X CL W (.Compare a [op] [b] pos) (λU=>(fa U).bind λx=>(fb U).bind λy=>g x y):=
 λA=>PE.weak (dO (ho A) (ha A) (hb A) hm) λY H Q h=>op2 h
theorem Cr.int_of{i:Ai}(h:Cr K CL H A v (.int i)):v=.int i:=by
 rcases h with h|⟨_,_,_,_,e,_⟩
 .exact h
 .cases e
theorem Cr.str_of{i:Ag}(h:Cr K CL H A v (.str i)):v=.str i:=by
 rcases h with h|⟨_,_,_,_,e,_⟩
 .exact h
 .cases e
theorem Cr.bl_of{i:Ak}(h:Cr K CL H A v (.bl i)):v=.bl i:=by
 rcases h with h|⟨_,_,_,_,e,_⟩
 .exact h
 .cases e
theorem Cr.non_of(h:Cr K CL H A v .non):v=.non:=by
 rcases h with h|⟨_,_,_,_,e,_⟩
 .exact h
 .cases e
theorem Cr.lst_of{ds:Ac D}(h:Cr K CL H A v (.lst ds)):∃ a xs,v=.ref a/\SqL K H a xs/\Reps K CL H A xs ds:=by
 rcases h with ⟨a,xs,e,_,s,r⟩|⟨a,xs,es,rfl,e,s,r⟩
 .exact⟨a,xs,e,s,r⟩
 .cases e;exact⟨a,xs,rfl,SqL.of s,r⟩
theorem Cr.tup_of{ds:Ac D}(h:Cr K CL H A v (.tup ds)):∃ a xs,v=.ref a/\(¬ A a\/KT K a xs)/\SqT K H a xs/\Reps K CL H A xs ds:=by
 rcases h with ⟨a,xs,e,n,s,r⟩|⟨_,_,_,_,e,_⟩
 .exact⟨a,xs,e,n,s,r⟩
 .cases e
theorem cT{i j:Ai}(h:DV i j=Ab):M7 i j:=by
 unfold DV at h;simp only[BS,Al,AD]at h;unfold M7;omega
theorem Sw{a:Ai}(h:a.natAbs<2 ^ 2000):VW a<=2 ^ 20:=by
 unfold VW;split
 .omega
 .rename_i hz;have h0:a.natAbs≠0:=by intro z;exact hz (by rw[Int.natAbs_eq_zero.mp z];rfl)
  have:=(Nat.log2_lt h0).mpr h;omega
theorem cS{i j:Ai}(h:(DV i j||Im i j)=Ab):KU i j:=by
 rcases Bool.or_eq_true_iff.mp h with h|h
 .exact(cT h).ok
 .unfold Im at h;rw[Al,AD,AD]at h;exact .of_bits (Sw h.1) (Sw h.2)
theorem cA:OpR X (B1 .Mult) (rI KU λi j=>.int (i*j)):=opI λ_ _ _ _ _ _ _ hc q=>mul_int q hc
theorem J4(h:Dl n=Ab):n<=sizeLine:=by
 unfold Dl at h;rw[BZ];have:=BG h;omega
theorem Oq{p:Ah}{ds:Ac D}(hA:AOk H A)(hp:H p=Ae)(r:Reps K CL H A xs ds):Rep K CL (upd H p (.lst xs)) A (.ref p) (.lst ds):=
 ⟨p,xs,rfl,.inl (hA.new hp),SqL.of C8,r.same λb o e=>by rw[Bb (FA e hp)];exact e⟩
theorem Me{p:Ah}{ds:Ac D}(hA:AOk H A)(hp:H p=Ae)(r:Reps K CL H A xs ds):Rep K CL (upd H p (.tup xs)) A (.ref p) (.tup ds):=
 ⟨p,xs,rfl,.inl (hA.new hp),SqT.of C8,r.same λb o e=>by rw[Bb (FA e hp)];exact e⟩
theorem ET{p:Ah}(h:H p=Ae)(o:HO):Ay H (upd H p o):=λb u q=>by rw[Bb (FA q h)];exact q
def nE(K:Fg):R2:=λx y H Q=>∃ l b xs zs,x=.ref l/\y=.ref b/\SqL K H l xs/\SqL K H b zs/\xs.length+zs.length<=sizeLine/\∀ p,H p=Ae->Q (.ref p) (upd H p (.lst (xs++zs)))
end
section
variable{X:Cx}{CL:ClA}{W:XW}
theorem Sk:OpR X (B1 .Add) (nE X.K):=by
 intro pI s Y H x y v u Q I rx ry h;obtain⟨l,b,xs,zs,rfl,rfl,hH,hB,hz,q⟩:=h;cases rx;cases ry;obtain⟨its,r,⟨o,n,e,c,dd,dt⟩,z⟩:=I.list hH;obtain⟨its2,r2,⟨o2,n2,e2,c2,dd2,dt2⟩,z2⟩:=I.list hB;have hl:=r.length;have hl2:=r2.length;obtain⟨cls,dd0,data,sl⟩:=o;obtain⟨cls2,dd02,data2,sl2⟩:=o2;simp only at c dd dt c2 dd2 dt2;subst c dd dt c2 dd2 dt2;have ea:its.toArray++its2.toArray=(its++its2).toArray:=by simp
 refine IR ⟨_,e,rfl⟩ ⟨_,e2,rfl⟩ noFill_list_add seq_list_add PySem.F.slot_list_add PySem.F.entry_list_add (PySem.F.args_list_add_2 _ _) (list_addW l b its.toArray its2.toArray n n2 Ae Ae sl sl2 (by simp;omega)) ⟨e,e2,?_⟩
 rw[ea];exact⟨.ref _,_,I.lnew (t':=s.toks) (r.append r2) (by rw[Db];omega),rfl,q _ I.fresh⟩
theorem Sj:OpD X CL W (B1 .Add) (CM .Add):=by
 intro A pI s Y H x y v u Q I rx ry ⟨hA,dx,dy,hx,hy,p⟩;cases dx with
 |int i=>
  cases dy with
  |int j=>
   have ex:=hx.int_of;have ey:=hy.int_of
   subst ex ey;exact iG pI s Y H _ _ v u Q I rx ry ⟨i,j,rfl,rfl,p _ H (Ay.refl H) rfl⟩
  |_=>exact p.elim
 |str i=>
  cases dy with
  |str j=>
   have ex:=hx.str_of;have ey:=hy.str_of
   subst ex ey;simp only[Il]at p;split at p
   .rename_i h;exact Yj pI s Y H _ _ v u Q I rx ry ⟨i,j,rfl,rfl,J4 h,p _ H (Ay.refl H) rfl⟩
   .exact p.elim
  |_=>exact p.elim
 |lst ds=>
  cases dy with
  |lst es=>
   obtain⟨a,xs,rfl,s1,r1⟩:=hx.lst_of;obtain⟨b,ys,rfl,s2,r2⟩:=hy.lst_of;simp only[TL]at p;split at p
   .rename_i h;refine Sk pI s Y H _ _ v u Q I rx ry ⟨a,b,xs,ys,rfl,rfl,s1,s2,by rw[r1.length,r2.length];exact J4 h,λq hq=>?_⟩
    exact p _ _ (ET hq _) (Oq hA hq (r1.append r2))
   .exact p.elim
  |_=>exact p.elim
 |tup ds=>
  cases dy with
  |tup es=>
   obtain⟨a,xs,rfl,na1,s1,r1⟩:=hx.tup_of;obtain⟨b,ys,rfl,_,s2,r2⟩:=hy.tup_of;simp only[SX]at p;split at p
   .rename_i h;simp only[Al]at h;refine cE pI s Y H _ _ v u Q I rx ry ⟨a,b,xs,ys,rfl,rfl,s1,s2,?_,by rw[r1.length,r2.length];exact J4 h.2,λhy0=>?_,λ_ q hq=>?_⟩
    .rintro rfl;cases ds with
     |nil=>cases h.1
     |cons _ _=>exact r1.elim
    .subst hy0;cases es with
     |nil=>rw[BA]at p;exact p _ H (Ay.refl H) ⟨a,xs,rfl,na1,s1,r1⟩
     |cons _ _=>exact r2.elim
    .exact p _ _ (ET hq _) (Me hA hq (r1.append r2))
   .exact p.elim
  |_=>exact p.elim
 |_=>exact p.elim
theorem Md{op:Fb}{C:Ai->Ai->Prop}{g:Ai->Ai->Ai}(ho:OpR X (B1 op) (rI C λi j=>.int (g i j)))(hg:∀ dx dy,(∃ i j,dx=.int i/\dy=.int j/\((C i j/\CM op dx dy=.ok (.int (g i j)))\/CM op dx dy=.bad))\/CM op dx dy=.bad):OpD X CL W (B1 op) (CM op):=by
 intro A pI s Y H x y v u Q I rx ry ⟨hA,dx,dy,hx,hy,p⟩;rcases hg dx dy with ⟨i,j,rfl,rfl,⟨c,e⟩|e⟩|e
 .have ex:=hx.int_of;have ey:=hy.int_of
  subst ex ey;rw[e]at p;exact ho pI s Y H _ _ v u Q I rx ry ⟨i,j,rfl,rfl,c,p _ H (Ay.refl H) rfl⟩
 .rw[e]at p;exact p.elim
 .rw[e]at p;exact p.elim
theorem dR:OpD X CL W (B1 .Sub) (CM .Sub):=by
 intro A pI s Y H x y v u Q I rx ry ⟨hA,dx,dy,hx,hy,p⟩;cases dx with
 |int i=>
  cases dy with
  |int j=>
   have ex:=hx.int_of;have ey:=hy.int_of
   subst ex ey;exact iC pI s Y H _ _ v u Q I rx ry ⟨i,j,rfl,rfl,p _ H (Ay.refl H) rfl⟩
  |_=>exact p.elim
 |_=>exact p.elim
theorem dU:OpD X CL W (B1 .Mult) (CM .Mult):=Md cA λdx dy=>by
 cases dx with
 |int i=>
  cases dy with
  |int j=>
   refine .inl ⟨i,j,rfl,rfl,?_⟩;rw[iN];split
   .rename_i h;exact .inl ⟨cS h,rfl⟩
   .exact .inr rfl
  |_=>exact .inr rfl
 |_=>exact .inr rfl
theorem ZR:OpD X CL W (B1 .FloorDiv) (CM .FloorDiv):=Md cB λdx dy=>by
 cases dx with
 |int i=>
  cases dy with
  |int j=>
   refine .inl ⟨i,j,rfl,rfl,?_⟩;rw[eU];split
   .rename_i h;exact .inl ⟨h,rfl⟩
   .exact .inr rfl
  |_=>exact .inr rfl
 |_=>exact .inr rfl
theorem dW:OpD X CL W (B1 .Mod) (CM .Mod):=Md iE λdx dy=>by
 cases dx with
 |int i=>
  cases dy with
  |int j=>
   refine .inl ⟨i,j,rfl,rfl,?_⟩;rw[iO];split
   .rename_i h;exact .inl ⟨h,rfl⟩
   .exact .inr rfl
  |_=>exact .inr rfl
 |_=>exact .inr rfl
theorem dS:OpD X CL W (B1 .Pow) (CM .Pow):=Md iD λdx dy=>by
 cases dx with
 |int i=>
  cases dy with
  |int j=>
   refine .inl ⟨i,j,rfl,rfl,?_⟩;rw[jG];split
   .rename_i h;exact .inl ⟨⟨h.1.1,h.1.2,by omega⟩,rfl⟩
   .exact .inr rfl
  |_=>exact .inr rfl
 |_=>exact .inr rfl
theorem On(op:Fb):OpD X CL W (B1 op) (CM op):=by
 cases op with
 |Add=>exact Sj
 |Sub=>exact dR
 |Mult=>exact dU
 |FloorDiv=>exact ZR
 |Mod=>exact dW
 |Pow=>exact dS
 |_=>
  intro A pI s Y H x y v u Q I rx ry ⟨hA,dx,dy,hx,hy,p⟩;exact p.elim
noncomputable abbrev A0:Ah->Prop:=λ_=>AU
theorem Cr.plain(h:Cr K CL H A v d):Rep K CL H A0 v d:=by
 rcases h with h|⟨a,xs,ds,rfl,rfl,e,r⟩
 .exact Rep.sub (λ_ z=>z.elim) d h
 .exact⟨a,xs,rfl,.inl λz=>z.elim,SqL.of e,Reps.sub (λ_ z=>z.elim) ds r⟩
mutual
theorem Oj:∀(n:Af)(d:D),flD n d=Ab->eqD d d=Ab
 |_,.non,_=>rfl
 |_,.bl b,_=>by simp
 |_,.int i,_=>by simp
 |_,.str x,_=>by simp
 |n+1,.tup ds,h=>by
  show eqDs ds ds=Ab;exact eqDs_refl n ds h
 |n+1,.lst ds,h=>by
  show eqDs ds ds=Ab;exact eqDs_refl n ds h
 |0,.tup ds,h=>by cases h
 |0,.lst ds,h=>by cases h
 |n,.obj _ _,h=>by cases n<;>cases h
 |n,.exc _ _,h=>by cases n<;>cases h
 |n,.dic _,h=>by cases n<;>cases h
theorem eqDs_refl:∀(n:Af)(ds:Ac D),ds.all (flD n)=Ab->eqDs ds ds=Ab
 |_,[],_=>rfl
 |n,d::ds,h=>by
  simp only[CZ,Al]at h;simp only[N2,Al];exact⟨Oj n d h.1,eqDs_refl n ds h.2⟩
end
theorem Qs{ys:Ac V}(I:Inv X pI Y H s)(h:SqL X.K H a xs)(h':SqT X.K H a ys):AU:=by
 obtain⟨its,r,⟨o,n,e,c,_,_⟩,_⟩:=I.list h;obtain⟨its',r',⟨o',e',c',_⟩,_⟩:=I.tuple h';rw[e]at e';cases e';rw[c]at c'
 injection c' with z
 exact absurd z (by decide)
mutual
theorem Lj{pI:Pn}{Y:L2.St}{H:Hp}{s:Ao}(I:Inv X pI Y H s):∀(n:Af)(d e:D){v:V},flD n d=Ab->flD n e=Ab->Rep X.K CL H A0 v d->Rep X.K CL H A0 v e->d=e
 |n,.tup ds,e,v,hd,he,r,q=>by
  obtain⟨a,xs,rfl,_,s1,r1⟩:=r;cases e with
  |tup es=>
   obtain⟨b,ys,e,_,s2,r2⟩:=q;cases e;have z:=I.tuple_inj s1 s2;subst z;cases n with
   |zero=>cases hd
   |succ n=>rw[reps_inj I n ds es hd he r1 r2]
  |lst es=>
   obtain⟨b,ys,e,_,s2,r2⟩:=q;cases e;exact(Qs I s2 s1).elim
  |obj=>cases n<;>cases he
  |exc=>cases n<;>cases he
  |dic=>cases n<;>cases he
  |_=>cases q
 |n,.lst ds,e,v,hd,he,r,q=>by
  obtain⟨a,xs,rfl,_,s1,r1⟩:=r;cases e with
  |lst es=>
   obtain⟨b,ys,e,_,s2,r2⟩:=q;cases e;have z:=I.list_inj s1 s2;subst z;cases n with
   |zero=>cases hd
   |succ n=>rw[reps_inj I n ds es hd he r1 r2]
  |tup es=>
   obtain⟨b,ys,e,_,s2,r2⟩:=q;cases e;exact(Qs I s1 s2).elim
  |obj=>cases n<;>cases he
  |exc=>cases n<;>cases he
  |dic=>cases n<;>cases he
  |_=>cases q
 |n,.obj _ _,e,v,hd,he,r,q=>by cases n<;>cases hd
 |n,.exc _ _,e,v,hd,he,r,q=>by cases n<;>cases hd
 |n,.dic _,e,v,hd,he,r,q=>by cases n<;>cases hd
 |n,.non,e,v,hd,he,r,q=>by
  cases r;cases e with
  |tup=>obtain⟨_,_,z,_⟩:=q;cases z
  |lst=>obtain⟨_,_,z,_⟩:=q;cases z
  |obj=>cases n<;>cases he
  |exc=>cases n<;>cases he
  |dic=>cases n<;>cases he
  |_=>cases q<;>rfl
 |n,.bl b,e,v,hd,he,r,q=>by
  cases r;cases e with
  |tup=>obtain⟨_,_,z,_⟩:=q;cases z
  |lst=>obtain⟨_,_,z,_⟩:=q;cases z
  |obj=>cases n<;>cases he
  |exc=>cases n<;>cases he
  |dic=>cases n<;>cases he
  |_=>cases q<;>rfl
 |n,.int b,e,v,hd,he,r,q=>by
  cases r;cases e with
  |tup=>obtain⟨_,_,z,_⟩:=q;cases z
  |lst=>obtain⟨_,_,z,_⟩:=q;cases z
  |obj=>cases n<;>cases he
  |exc=>cases n<;>cases he
  |dic=>cases n<;>cases he
  |_=>cases q<;>rfl
 |n,.str b,e,v,hd,he,r,q=>by
  cases r;cases e with
  |tup=>obtain⟨_,_,z,_⟩:=q;cases z
  |lst=>obtain⟨_,_,z,_⟩:=q;cases z
  |obj=>cases n<;>cases he
  |exc=>cases n<;>cases he
  |dic=>cases n<;>cases he
  |_=>cases q<;>rfl
theorem reps_inj{pI:Pn}{Y:L2.St}{H:Hp}{s:Ao}(I:Inv X pI Y H s):∀(n:Af)(ds es:Ac D){xs:Ac V},ds.all (flD n)=Ab->es.all (flD n)=Ab->Reps X.K CL H A0 xs ds->Reps X.K CL H A0 xs es->ds=es
 |_,[],[],_,_,_,_,_=>rfl
 |n,d::ds,e::es,x::xs,hd,he,r,q=>by
  simp only[CZ,Al]at hd he;rw[Lj I n d e hd.1 he.1 r.1 q.1,reps_inj I n ds es hd.2 he.2 r.2 q.2]
 |_,[],_::_,[],_,_,_,q=>q.elim
 |_,[],_::_,_::_,_,_,r,_=>r.elim
 |_,_::_,[],[],_,_,r,_=>r.elim
 |_,_::_,[],_::_,_,_,_,q=>q.elim
 |_,_::_,_::_,[],_,_,r,_=>r.elim
end
theorem Lf:∀{ds es:Ac D},ds.length≠es.length->eqDs ds es=Ad
 |[],[],h=>absurd rfl h
 |[],_::_,_=>rfl
 |_::_,[],_=>rfl
 |d::ds,e::es,h=>by
  simp only[N2,Lf (ds:=ds) (es:=es) (by simpa using h),HL]
theorem Qg(n:Af)(f:Af->Ak):(Di (n+1)).all f=(f 0&&(Di n).all λj=>f (j+1)):=by
 rw[List.range_succ_eq_map,CZ,Vw];rfl
theorem Lg:∀{ds es:Ac D},ds.length=es.length->eqDs ds es=(Di ds.length).all λj=>eqD (ds.getD j .non) (es.getD j .non)
 |[],[],_=>rfl
 |d::ds,e::es,h=>by
  rw[N2,Lg (ds:=ds) (es:=es) (by simpa using h),Ba,Qg]
  rfl
 |[],_::_,h=>by cases h
 |_::_,[],h=>by cases h
theorem Ik{ds:Ac D}(r:Reps K CL H A0 xs ds)(rv:AW xs its)(h:j<its.length):∃ x,Rep K CL H A0 x (ds.getD j .non)/\Bs x its[j]:=by
 have e1:=rv.length;have e2:=r.length;have hd:ds[j]?=Aa (ds.getD j .non):=by
  rw[C3,Bo (by omega)];rfl
 obtain⟨x,hx,q⟩:=r.get hd;obtain⟨u,hu,ru⟩:=rv.get hx;refine⟨x,q,?_⟩;rw[Bo h]at hu;cases hu;exact ru
theorem HE{ds:Ac D}(h:ds.all (flD n)=Ab)(j:Af):flD n (ds.getD j .non)=Ab:=by
 rw[C3];cases e:ds[j]? with
 |none=>cases n<;>rfl
 |some d=>exact Ca.mp h d (FV e)
def Cy(B:AR)(s:Ao)(u t:Aj)(k:Ak):Prop:=JQ B s u t k/\D8 B s u t k/\IL B s u t (!k)
section
variable{B:AR}{s:Ao}
open SeqAt
theorem nW:Cy B s .none .none Ab:=⟨RcAt.none_none,EqAt.same _,RcNeAt.none_none⟩
theorem mQ(a b:Ak):Cy B s (.bool a) (.bool b) (a==b):=⟨RcAt.bool_bool _ _,EqAt.bool_bool _ _,RcNeAt.bool_bool _ _⟩
theorem nZ(b:Ak):Cy B s .none (.bool b) Ad:=⟨RcAt.none_bool _,EqAt.none_bool _,RcNeAt.none_bool _⟩
theorem mM(b:Ak):Cy B s (.bool b) .none Ad:=⟨RcAt.bool_none _,EqAt.bool_none _,RcNeAt.bool_none _⟩
theorem mI(a:Ai)(t:CI)(b:Ai)(u:CI):Cy B s (.int a t) (.int b u) (a==b):=⟨RcAt.int_int _ _ _ _,EqAt.int_int _ _ _ _,RcNeAt.int_int _ _ _ _⟩
theorem nO(a:Ag)(t:CI)(b:Ag)(u:CI):Cy B s (.str a t) (.str b u) (a==b):=⟨RcAt.str_str _ _ _ _,EqAt.str_str _ _ _ _,RcNeAt.str_str _ _ _ _⟩
theorem mF(a:Ai)(t:CI)(b:Ag)(u:CI):Cy B s (.int a t) (.str b u) Ad:=⟨RcAt.int_str _ _ _ _,EqAt.int_str _ _ _ _,RcNeAt.int_str _ _ _ _⟩
theorem nR(a:Ag)(t:CI)(b:Ai)(u:CI):Cy B s (.str a t) (.int b u) Ad:=⟨RcAt.str_int _ _ _ _,EqAt.str_int _ _ _ _,RcNeAt.str_int _ _ _ _⟩
theorem nY(b:Ai)(u:CI):Cy B s .none (.int b u) Ad:=⟨RcAt.none_int _ _,EqAt.none_int _ _,RcNeAt.none_int _ _⟩
theorem mG(b:Ai)(u:CI):Cy B s (.int b u) .none Ad:=⟨RcAt.int_none _ _,EqAt.int_none _ _,RcNeAt.int_none _ _⟩
theorem nV(b:Ag)(u:CI):Cy B s .none (.str b u) Ad:=⟨RcAt.none_str _ _,EqAt.none_str _ _,RcNeAt.none_str _ _⟩
theorem nP(b:Ag)(u:CI):Cy B s (.str b u) .none Ad:=⟨RcAt.str_none _ _,EqAt.str_none _ _,RcNeAt.str_none _ _⟩
theorem mP(a:Ak)(b:Ai)(u:CI):Cy B s (.bool a) (.int b u) (b2i a==b):=⟨RcAt.bool_int _ _ _,EqAt.bool_int _ _ _,RcNeAt.bool_int _ _ _⟩
theorem mJ(a:Ak)(b:Ai)(u:CI):Cy B s (.int b u) (.bool a) (b==b2i a):=⟨RcAt.int_bool _ _ _,EqAt.int_bool _ _ _,RcNeAt.int_bool _ _ _⟩
theorem mL(a:Ak)(b:Ag)(u:CI):Cy B s (.bool a) (.str b u) Ad:=⟨RcAt.bool_str _ _ _,EqAt.bool_str _ _ _,RcNeAt.bool_str _ _ _⟩
theorem nS(a:Ak)(b:Ag)(u:CI):Cy B s (.str b u) (.bool a) Ad:=⟨RcAt.str_bool _ _ _,EqAt.str_bool _ _ _,RcNeAt.str_bool _ _ _⟩
variable{l:Ah}{items:Bj Aj}
theorem oC(h:s.heap.IsList l items)(hu:B.units<BE):Cy B s (.ref l) .none Ad:=⟨RcAt.list_none h hu,EqAt.list_none h hu,RcNeAt.list_none h hu⟩
theorem nX(h:s.heap.IsList l items)(hu:B.units<BE):Cy B s .none (.ref l) Ad:=⟨RcAt.none_list h hu,EqAt.none_list h hu,RcNeAt.none_list h hu⟩
theorem mD(b:Ak)(h:s.heap.IsList l items)(hu:B.units<BE):Cy B s (.ref l) (.bool b) Ad:=⟨RcAt.list_bool b h hu,EqAt.list_bool b h hu,RcNeAt.list_bool b h hu⟩
theorem mO(b:Ak)(h:s.heap.IsList l items)(hu:B.units<BE):Cy B s (.bool b) (.ref l) Ad:=⟨RcAt.bool_list b h hu,EqAt.bool_list b h hu,RcNeAt.bool_list b h hu⟩
theorem oE(b:Ai)(u:CI)(h:s.heap.IsList l items)(hu:B.units<BE):Cy B s (.ref l) (.int b u) Ad:=⟨RcAt.list_int b u h hu,EqAt.list_int b u h hu,RcNeAt.list_int b u h hu⟩
theorem mH(b:Ai)(u:CI)(h:s.heap.IsList l items)(hu:B.units<BE):Cy B s (.int b u) (.ref l) Ad:=⟨RcAt.int_list b u h hu,EqAt.int_list b u h hu,RcNeAt.int_list b u h hu⟩
theorem oB(b:Ag)(u:CI)(h:s.heap.IsList l items)(hu:B.units<BE):Cy B s (.ref l) (.str b u) Ad:=⟨RcAt.list_str b u h hu,EqAt.list_str b u h hu,RcNeAt.list_str b u h hu⟩
theorem nQ(b:Ag)(u:CI)(h:s.heap.IsList l items)(hu:B.units<BE):Cy B s (.str b u) (.ref l) Ad:=⟨RcAt.str_list b u h hu,EqAt.str_list b u h hu,RcNeAt.str_list b u h hu⟩
theorem nJ(h:s.heap.IsTuple l items)(hu:B.units<BE):Cy B s (.ref l) .none Ad:=⟨RcAt.tuple_none h hu,EqAt.tuple_none h hu,RcNeAt.tuple_none h hu⟩
theorem nU(h:s.heap.IsTuple l items)(hu:B.units<BE):Cy B s .none (.ref l) Ad:=⟨RcAt.none_tuple h hu,EqAt.none_tuple h hu,RcNeAt.none_tuple h hu⟩
theorem nM(b:Ak)(h:s.heap.IsTuple l items)(hu:B.units<BE):Cy B s (.ref l) (.bool b) Ad:=⟨RcAt.tuple_bool b h hu,EqAt.tuple_bool b h hu,RcNeAt.tuple_bool b h hu⟩
theorem mK(b:Ak)(h:s.heap.IsTuple l items)(hu:B.units<BE):Cy B s (.bool b) (.ref l) Ad:=⟨RcAt.bool_tuple b h hu,EqAt.bool_tuple b h hu,RcNeAt.bool_tuple b h hu⟩
theorem nL(b:Ai)(u:CI)(h:s.heap.IsTuple l items)(hu:B.units<BE):Cy B s (.ref l) (.int b u) Ad:=⟨RcAt.tuple_int b u h hu,EqAt.tuple_int b u h hu,RcNeAt.tuple_int b u h hu⟩
theorem mE(b:Ai)(u:CI)(h:s.heap.IsTuple l items)(hu:B.units<BE):Cy B s (.int b u) (.ref l) Ad:=⟨RcAt.int_tuple b u h hu,EqAt.int_tuple b u h hu,RcNeAt.int_tuple b u h hu⟩
theorem nI(b:Ag)(u:CI)(h:s.heap.IsTuple l items)(hu:B.units<BE):Cy B s (.ref l) (.str b u) Ad:=⟨RcAt.tuple_str b u h hu,EqAt.tuple_str b u h hu,RcNeAt.tuple_str b u h hu⟩
theorem nN(b:Ag)(u:CI)(h:s.heap.IsTuple l items)(hu:B.units<BE):Cy B s (.str b u) (.ref l) Ad:=⟨RcAt.str_tuple b u h hu,EqAt.str_tuple b u h hu,RcNeAt.str_tuple b u h hu⟩
theorem oA(h:s.heap.IsList l items)(h2:s.heap.IsTuple b items2)(hu:B.units<BE):Cy B s (.ref l) (.ref b) Ad:=⟨RcAt.list_tuple h h2 hu,EqAt.list_tuple h h2 hu,RcNeAt.list_tuple h h2 hu⟩
theorem nK(h:s.heap.IsTuple l items)(h2:s.heap.IsList b items2)(hu:B.units<BE):Cy B s (.ref l) (.ref b) Ad:=⟨RcAt.tuple_list h h2 hu,EqAt.tuple_list h h2 hu,RcNeAt.tuple_list h h2 hu⟩
end
end
section
variable{X:Cx}{CL:ClA}{W:XW}
theorem Kq{its:Bj Aj}(x:PlainL h a its):h.IsList a its:=let ⟨o,n,e,c,_,d⟩:=x;⟨o,e,c,n,d⟩
def XF(X:Cx)(CL:ClA)(H:Hp)(s:Ao)(d:D)(u:Aj):Prop:=match d with
  |.non=>u=.none
  |.bl b=>u=.bool b
  |.int i=>∃ t,u=.int i t
  |.str x=>∃ t,u=.str x t
  |.tup ds=>∃ a xs its,u=.ref a/\Reps X.K CL H A0 xs ds/\AW xs its/\s.heap.IsTuple a its.toArray
  |.lst ds=>∃ a xs its,u=.ref a/\Reps X.K CL H A0 xs ds/\AW xs its/\s.heap.IsList a its.toArray
  |_=>AU
theorem RB(I:Inv X pI Y H s)(hd:flD n d=Ab)(r:Rep X.K CL H A0 v d)(q:Bs v u):XF X CL H s d u:=by
 cases d with
 |non=>cases r;exact q
 |bl b=>cases r;exact q
 |int b=>cases r;exact q
 |str b=>cases r;exact q
 |tup ds=>
  obtain⟨a,xs,rfl,_,sq,r⟩:=r;obtain⟨its,rv,p,_⟩:=I.tuple sq;cases q;exact⟨a,xs,its,rfl,r,rv,p⟩
 |lst ds=>
  obtain⟨a,xs,rfl,_,sq,r⟩:=r;obtain⟨its,rv,p,_⟩:=I.list sq;cases q;exact⟨a,xs,its,rfl,r,rv,Kq p⟩
 |obj=>cases n<;>cases hd
 |exc=>cases n<;>cases hd
 |dic=>cases n<;>cases hd
theorem aF{B:AR}{ds es:Ac D}(hl:s.heap.IsList l its.toArray)(hb:s.heap.IsList b its2.toArray)(e1:its.length=ds.length)(e2:its2.length=es.length)(hu:B.units<BE)(hs:l=b->eqDs ds es=Ab)(he:∀ j (h1:j<its.length) (h2:j<its2.length),D8 B.in1 s its[j] its2[j] (eqD (ds.getD j .non) (es.getD j .non))):Cy B s (.ref l) (.ref b) (eqDs ds es):=by
 have rc:JQ B s (.ref l) (.ref b) (eqDs ds es):=by
  by_cases hz:its.length=its2.length
  .have q:=SeqAt.RcAt.lists (e:=λj=>eqD (ds.getD j .non) (es.getD j .non)) hl hb (by simpa using hz) hu (λj h1 h2=>by simpa using he j (by simpa using h1) (by simpa using h2))
   rw[Lg (by omega)]
   have e:its.toArray.size=ds.length:=by simpa using e1
   rw[e]at q;exact q
  .rw[Lf (by omega)]
   exact SeqAt.RcAt.lists_lengths hl hb (by simpa using hz) hu
 have ne:IL B s (.ref l) (.ref b) (!eqDs ds es):=by
  by_cases hz:its.length=its2.length
  .have q:=SeqAt.RcNeAt.lists (e:=λj=>eqD (ds.getD j .non) (es.getD j .non)) hl hb (by simpa using hz) hu (λj h1 h2=>by simpa using he j (by simpa using h1) (by simpa using h2))
   rw[Lg (by omega)]
   have e:its.toArray.size=ds.length:=by simpa using e1
   rw[e]at q;exact q
  .rw[Lf (by omega)]
   exact SeqAt.RcNeAt.lists_lengths hl hb (by simpa using hz) hu
 refine⟨rc,?_,ne⟩;by_cases hlb:l=b
 .rw[hs hlb,hlb];exact WP _
 .exact WO hlb rc
theorem aE{B:AR}{ds es:Ac D}(hl:s.heap.IsTuple l its.toArray)(hb:s.heap.IsTuple b its2.toArray)(e1:its.length=ds.length)(e2:its2.length=es.length)(hu:B.units<BE)(hs:l=b->eqDs ds es=Ab)(he:∀ j (h1:j<its.length) (h2:j<its2.length),D8 B.in1 s its[j] its2[j] (eqD (ds.getD j .non) (es.getD j .non))):Cy B s (.ref l) (.ref b) (eqDs ds es):=by
 have rc:JQ B s (.ref l) (.ref b) (eqDs ds es):=by
  have q:=SeqAt.RcAt.tuples (e:=λj=>eqD (ds.getD j .non) (es.getD j .non)) hl hb hu (λj h1 h2=>by simpa using he j (by simpa using h1) (by simpa using h2))
  have e:its.toArray.size=ds.length:=by simpa using e1
  have e':its2.toArray.size=es.length:=by simpa using e2
  rw[e,e']at q;by_cases hz:ds.length=es.length
  .rw[Lg hz];rw[hz,VO,Dx,Vp]at q;rw[hz];exact q
  .rw[Lf hz];rw[CP.mpr hz,HL]at q;exact q
 have ne:IL B s (.ref l) (.ref b) (!eqDs ds es):=by
  have q:=SeqAt.RcNeAt.tuples (e:=λj=>eqD (ds.getD j .non) (es.getD j .non)) hl hb hu (λj h1 h2=>by simpa using he j (by simpa using h1) (by simpa using h2))
  have e:its.toArray.size=ds.length:=by simpa using e1
  have e':its2.toArray.size=es.length:=by simpa using e2
  rw[e,e']at q;by_cases hz:ds.length=es.length
  .rw[Lg hz];rw[hz,VO,Dx,Vp]at q;rw[hz];exact q
  .rw[Lf hz];rw[CP.mpr hz,HL]at q;exact q
 refine⟨rc,?_,ne⟩;by_cases hlb:l=b
 .rw[hs hlb,hlb];exact WP _
 .exact WO hlb rc
theorem Kg{pI:Pn}{Y:L2.St}{H:Hp}{s:Ao}(I:Inv X pI Y H s):∀(n:Af)(d e:D)(v w':V)(u t:Aj)(B:AR),flD n d=Ab->flD n e=Ab->Rep X.K CL H A0 v d->Rep X.K CL H A0 w' e->Bs v u->Bs w' t->B.units+n<BE->Cy B s u t (eqD d e)
  |n,d,e,v,w',u,t,B,hd,he,r,q,rv,rw',hu=>by
    have hu0:B.units<BE:=by omega
    have sd:=RB I hd r rv;have se:=RB I he q rw'
    match d,e,sd,se with
    |.non,.non,s1,s2=>cases s1;cases s2;exact nW
    |.non,.bl b,s1,s2=>cases s1;cases s2;exact nZ b
    |.non,.int b,s1,s2=>cases s1;obtain⟨_,rfl⟩:=s2;exact nY b _
    |.non,.str b,s1,s2=>cases s1;obtain⟨_,rfl⟩:=s2;exact nV b _
    |.non,.tup es,s1,s2=>cases s1;obtain⟨_,_,_,rfl,_,_,p⟩:=s2;exact nU p hu0
    |.non,.lst es,s1,s2=>cases s1;obtain⟨_,_,_,rfl,_,_,p⟩:=s2;exact nX p hu0
    |.bl a,.non,s1,s2=>cases s1;cases s2;exact mM a
    |.bl a,.bl b,s1,s2=>cases s1;cases s2;exact mQ a b
    |.bl a,.int b,s1,s2=>cases s1;obtain⟨_,rfl⟩:=s2;exact mP a b _
    |.bl a,.str b,s1,s2=>cases s1;obtain⟨_,rfl⟩:=s2;exact mL a b _
    |.bl a,.tup es,s1,s2=>cases s1;obtain⟨_,_,_,rfl,_,_,p⟩:=s2;exact mK a p hu0
    |.bl a,.lst es,s1,s2=>cases s1;obtain⟨_,_,_,rfl,_,_,p⟩:=s2;exact mO a p hu0
    |.int a,.non,s1,s2=>obtain⟨_,rfl⟩:=s1;cases s2;exact mG a _
    |.int a,.bl b,s1,s2=>obtain⟨_,rfl⟩:=s1;cases s2;exact mJ b a _
    |.int a,.int b,s1,s2=>obtain⟨_,rfl⟩:=s1;obtain⟨_,rfl⟩:=s2;exact mI a _ b _
    |.int a,.str b,s1,s2=>obtain⟨_,rfl⟩:=s1;obtain⟨_,rfl⟩:=s2;exact mF a _ b _
    |.int a,.tup es,s1,s2=>obtain⟨_,rfl⟩:=s1;obtain⟨_,_,_,rfl,_,_,p⟩:=s2;exact mE a _ p hu0
    |.int a,.lst es,s1,s2=>obtain⟨_,rfl⟩:=s1;obtain⟨_,_,_,rfl,_,_,p⟩:=s2;exact mH a _ p hu0
    |.str a,.non,s1,s2=>obtain⟨_,rfl⟩:=s1;cases s2;exact nP a _
    |.str a,.bl b,s1,s2=>obtain⟨_,rfl⟩:=s1;cases s2;exact nS b a _
    |.str a,.int b,s1,s2=>obtain⟨_,rfl⟩:=s1;obtain⟨_,rfl⟩:=s2;exact nR a _ b _
    |.str a,.str b,s1,s2=>obtain⟨_,rfl⟩:=s1;obtain⟨_,rfl⟩:=s2;exact nO a _ b _
    |.str a,.tup es,s1,s2=>obtain⟨_,rfl⟩:=s1;obtain⟨_,_,_,rfl,_,_,p⟩:=s2;exact nN a _ p hu0
    |.str a,.lst es,s1,s2=>obtain⟨_,rfl⟩:=s1;obtain⟨_,_,_,rfl,_,_,p⟩:=s2;exact nQ a _ p hu0
    |.tup ds,.non,s1,s2=>cases s2;obtain⟨_,_,_,rfl,_,_,p⟩:=s1;exact nJ p hu0
    |.tup ds,.bl b,s1,s2=>cases s2;obtain⟨_,_,_,rfl,_,_,p⟩:=s1;exact nM b p hu0
    |.tup ds,.int b,s1,s2=>obtain⟨_,rfl⟩:=s2;obtain⟨_,_,_,rfl,_,_,p⟩:=s1;exact nL b _ p hu0
    |.tup ds,.str b,s1,s2=>obtain⟨_,rfl⟩:=s2;obtain⟨_,_,_,rfl,_,_,p⟩:=s1;exact nI b _ p hu0
    |.tup ds,.lst es,s1,s2=>obtain⟨_,_,_,rfl,_,_,p⟩:=s1;obtain⟨_,_,_,rfl,_,_,p2⟩:=s2;exact nK p p2 hu0
    |.lst ds,.non,s1,s2=>cases s2;obtain⟨_,_,_,rfl,_,_,p⟩:=s1;exact oC p hu0
    |.lst ds,.bl b,s1,s2=>cases s2;obtain⟨_,_,_,rfl,_,_,p⟩:=s1;exact mD b p hu0
    |.lst ds,.int b,s1,s2=>obtain⟨_,rfl⟩:=s2;obtain⟨_,_,_,rfl,_,_,p⟩:=s1;exact oE b _ p hu0
    |.lst ds,.str b,s1,s2=>obtain⟨_,rfl⟩:=s2;obtain⟨_,_,_,rfl,_,_,p⟩:=s1;exact oB b _ p hu0
    |.lst ds,.tup es,s1,s2=>obtain⟨_,_,_,rfl,_,_,p⟩:=s1;obtain⟨_,_,_,rfl,_,_,p2⟩:=s2;exact oA p p2 hu0
    |.tup ds,.tup es,s1,s2=>
      match n,hd,he,hu with
      |n+1,hd,he,hu=>
        obtain⟨a,xs,its,rfl,r1,v1,p1⟩:=s1;obtain⟨b,ys,its2,rfl,r2,v2,p2⟩:=s2;have l1:=v1.length;have l2:=r1.length;have l3:=v2.length;have l4:=r2.length
        refine aE p1 p2 (by omega) (by omega) hu0 (λhab=>?_) λj h1 h2=>?_
        · have e1:v=.ref a:=Bs.inj rv rfl;have e2:w'=.ref b:=Bs.inj rw' rfl;subst e1 e2 hab;have z:=Lj I (n+1) _ _ hd he r q
          injection z with z
          rw[z];exact eqDs_refl n es he
        · obtain⟨x,rx,qx⟩:=Ik r1 v1 h1;obtain⟨y,ry,qy⟩:=Ik r2 v2 h2;exact(Kg I n _ _ x y _ _ B.in1 (HE hd j) (HE he j) rx ry qx qy (by show B.units+1+n<BE;omega)).2.1
    |.lst ds,.lst es,s1,s2=>
      match n,hd,he,hu with
      |n+1,hd,he,hu=>
        obtain⟨a,xs,its,rfl,r1,v1,p1⟩:=s1;obtain⟨b,ys,its2,rfl,r2,v2,p2⟩:=s2;have l1:=v1.length;have l2:=r1.length;have l3:=v2.length;have l4:=r2.length
        refine aF p1 p2 (by omega) (by omega) hu0 (λhab=>?_) λj h1 h2=>?_
        · have e1:v=.ref a:=Bs.inj rv rfl;have e2:w'=.ref b:=Bs.inj rw' rfl;subst e1 e2 hab;have z:=Lj I (n+1) _ _ hd he r q
          injection z with z
          rw[z];exact eqDs_refl n es he
        · obtain⟨x,rx,qx⟩:=Ik r1 v1 h1;obtain⟨y,ry,qy⟩:=Ik r2 v2 h2;exact(Kg I n _ _ x y _ _ B.in1 (HE hd j) (HE he j) rx ry qx qy (by show B.units+1+n<BE;omega)).2.1
    |.obj _ _,_,s1,_=>exact s1.elim
    |.exc _ _,_,s1,_=>exact s1.elim
    |.dic _,_,s1,_=>exact s1.elim
    |_,.obj _ _,_,s2=>exact s2.elim
    |_,.exc _ _,_,s2=>exact s2.elim
    |_,.dic _,_,s2=>exact s2.elim
end
section
variable{X:Cx}{CL:ClA}{W:XW}
theorem Ml(I:Inv X pI Y H s){ds:Ac D}(B:AR)(hd:flD n d=Ab)(hs:ds.all (flD n)=Ab)(r:Reps X.K CL H A0 xs ds)(rv:AW xs its)(q:Rep X.K CL H A0 v d)(qv:Bs v u)(hu:B.units+n<BE):∃ e:Aj->Ak,(∀ y,y∈its.toArray->D8 B s y u (e y))/\its.toArray.any e=ds.any λy=>eqD y d:=by
 have l1:=rv.length;have l2:=r.length
 have key:∀ y,y∈its->∃ k:Ak,D8 B s y u k/\∀ j (h:j<its.length),its[j]=y->eqD (ds.getD j .non) d=k:=λy hy=>by
  obtain⟨j,hj,rfl⟩:=EM hy;obtain⟨x,rx,qx⟩:=Ik r rv hj;refine⟨eqD (ds.getD j .non) d,(Kg I n _ _ x v _ _ B (HE hs j) hd rx q qx qv hu).2.1,λj' hj' e=>?_⟩
  obtain⟨x',rx',qx'⟩:=Ik r rv hj';rw[e]at qx';have z:=Bs.inj qx qx';subst z;rw[Lj I n _ _ (HE hs j') (HE hs j) rx' rx]
 have key2:∀ y,∃ k:Ak,y∈its->D8 B s y u k/\∀ j (h:j<its.length),its[j]=y->eqD (ds.getD j .non) d=k:=λy=>by
  by_cases hy:y∈its
  .obtain⟨k,hk⟩:=key y hy;exact⟨k,λ_=>hk⟩
  .exact⟨Ab,λh=>absurd h hy⟩
 refine⟨λy=>Vr (key2 y),λy hy=>(DE (key2 y) (by simpa using hy)).1,?_⟩
 rw[DD];simp only[List.any_toArray,Dr];constructor
 .rintro⟨y,hy,hk⟩;obtain⟨j,hj,rfl⟩:=EM hy;have z:=(DE (key2 its[j]) hy).2 j hj rfl;rw[hk]at z;refine⟨ds.getD j .non,?_,z⟩;rw[C3,Bo (by omega)]
  exact FH _
 .rintro⟨y,hy,hk⟩;obtain⟨j,hj,rfl⟩:=EM hy;have hj':j<its.length:=by omega
  refine⟨its[j],FH _,?_⟩;have z:=(DE (key2 its[j]) (FH _)).2 j hj' rfl;rw[<-z,C3,Bo hj];exact hk
theorem L6{g:Ai->Ai->Ak}(ho:OpR X (Cu op) (rI0 λi j=>.bl (g i j)))(hg:∀ dx dy,(∃ i j,dx=.int i/\dy=.int j/\BN op dx dy=.ok (.bl (g i j)))\/BN op dx dy=.bad):OpD X CL W (Cu op) (BN op):=by
 intro A pI s Y H x y v u Q I rx ry ⟨hA,dx,dy,hx,hy,p⟩;rcases hg dx dy with ⟨i,j,rfl,rfl,e⟩|e
 .have ex:=hx.int_of;have ey:=hy.int_of
  subst ex ey;rw[e]at p;exact ho pI s Y H _ _ v u Q I rx ry ⟨i,j,rfl,rfl,p _ H (Ay.refl H) rfl⟩
 .rw[e]at p;exact p.elim
theorem Tg{x:V}(h:Cr X.K CL H A x d)(hd:d≠.non):x≠.non:=by
 rintro rfl;have h:=h.plain;cases d with
 |non=>exact hd rfl
 |tup=>obtain⟨_,_,e,_⟩:=h;cases e
 |lst=>obtain⟨_,_,e,_⟩:=h;cases e
 |obj=>obtain⟨_,_,_,_,e,_⟩:=h;cases e
 |exc=>obtain⟨_,_,_,e,_⟩:=h;cases e
 |dic=>exact h.elim
 |_=>cases h
theorem J8(hu:X.A.units+64<BE)(op:C4):OpD X CL W (Cu op) (BN op):=by
 cases op with
 |Eq=>
  intro A pI s Y H x y v u Q I rx ry ⟨hA,dx,dy,hx,hy,p⟩;rw[pS]at p;split at p
  .rename_i h;simp only[Al]at h;exact(Kg I 5 dx dy x y v u X.A h.1 h.2 hx.plain hy.plain rx ry (by omega)).1 X.prog X.w X.xe _ ⟨.bl _,H,I,rfl,p _ H (Ay.refl H) rfl⟩
  .exact p.elim
 |NotEq=>
  intro A pI s Y H x y v u Q I rx ry ⟨hA,dx,dy,hx,hy,p⟩;rw[pB]at p;split at p
  .rename_i h;simp only[Al]at h;exact(Kg I 5 dx dy x y v u X.A h.1 h.2 hx.plain hy.plain rx ry (by omega)).2.2 X.prog X.w X.xe _ ⟨.bl _,H,I,rfl,p _ H (Ay.refl H) rfl⟩
  .exact p.elim
 |Lt=>
  refine L6 lY λdx dy=>?_
  cases dx with
  |int i=>
   cases dy with
   |int j=>exact .inl ⟨i,j,rfl,rfl,rfl⟩
   |_=>exact .inr rfl
  |_=>exact .inr rfl
 |LtE=>
  refine L6 lZ λdx dy=>?_
  cases dx with
  |int i=>
   cases dy with
   |int j=>exact .inl ⟨i,j,rfl,rfl,rfl⟩
   |_=>exact .inr rfl
  |_=>exact .inr rfl
 |Gt=>
  refine L6 mB λdx dy=>?_
  cases dx with
  |int i=>
   cases dy with
   |int j=>exact .inl ⟨i,j,rfl,rfl,rfl⟩
   |_=>exact .inr rfl
  |_=>exact .inr rfl
 |GtE=>
  refine L6 mC λdx dy=>?_
  cases dx with
  |int i=>
   cases dy with
   |int j=>exact .inl ⟨i,j,rfl,rfl,rfl⟩
   |_=>exact .inr rfl
  |_=>exact .inr rfl
 |In=>
  intro A pI s Y H x y v u Q I rx ry ⟨hA,dx,dy,hx,hy,p⟩;cases dy with
  |lst es=>
   rw[qH]at p;split at p
   .rename_i h;simp only[Al]at h;obtain⟨a,xs,e,_,sq,r⟩:=hy.plain;subst e;cases ry;obtain⟨its,rv,pl,_⟩:=I.list sq;obtain⟨e,he,ha⟩:=Ml I (n:=5) X.A.in1 h.1 h.2 r rv hx.plain rx (by show X.A.units+1+5<BE;omega)
    refine SeqAt.in_listAt e (Kq pl) he ?_;rw[ha];exact⟨.bl _,H,I,rfl,p _ H (Ay.refl H) rfl⟩
   .exact p.elim
  |tup es=>
   rw[qG]at p;split at p
   .rename_i h;simp only[Al]at h;obtain⟨a,xs,e,_,sq,r⟩:=hy.plain;subst e;cases ry;obtain⟨its,rv,pl,_⟩:=I.tuple sq;obtain⟨e,he,ha⟩:=Ml I (n:=5) X.A.in1 h.1 h.2 r rv hx.plain rx (by show X.A.units+1+5<BE;omega)
    refine SeqAt.in_tupleAt e pl he ?_;rw[ha];exact⟨.bl _,H,I,rfl,p _ H (Ay.refl H) rfl⟩
   .exact p.elim
  |dic kvs=>exact hy.plain.elim
  |_=>exact p.elim
 |NotIn=>
  intro A pI s Y H x y v u Q I rx ry ⟨hA,dx,dy,hx,hy,p⟩;cases dy with
  |lst es=>
   rw[pA]at p;split at p
   .rename_i h;simp only[Al]at h;obtain⟨a,xs,e,_,sq,r⟩:=hy.plain;subst e;cases ry;obtain⟨its,rv,pl,_⟩:=I.list sq;obtain⟨e,he,ha⟩:=Ml I (n:=5) X.A.in1 h.1 h.2 r rv hx.plain rx (by show X.A.units+1+5<BE;omega)
    refine SeqAt.notIn_listAt e (Kq pl) he ?_;rw[ha];exact⟨.bl _,H,I,rfl,p _ H (Ay.refl H) rfl⟩
   .exact p.elim
  |tup es=>
   rw[oZ]at p;split at p
   .rename_i h;simp only[Al]at h;obtain⟨a,xs,e,_,sq,r⟩:=hy.plain;subst e;cases ry;obtain⟨its,rv,pl,_⟩:=I.tuple sq;obtain⟨e,he,ha⟩:=Ml I (n:=5) X.A.in1 h.1 h.2 r rv hx.plain rx (by show X.A.units+1+5<BE;omega)
    refine SeqAt.notIn_tupleAt e pl he ?_;rw[ha];exact⟨.bl _,H,I,rfl,p _ H (Ay.refl H) rfl⟩
   .exact p.elim
  |_=>exact p.elim
 |Is=>
  intro A pI s Y H x y v u Q I rx ry ⟨hA,dx,dy,hx,hy,p⟩;cases dy with
  |non=>
   have ey:=hy.non_of;subst ey;refine iF pI s Y H _ _ v u Q I rx ry ⟨rfl,?_⟩;cases dx with
   |non=>
    have ex:=hx.non_of;subst ex;exact p _ H (Ay.refl H) rfl
   |exc=>exact p.elim
   |dic=>exact p.elim
   |_=>rw[Cj (Tg hx (by simp))];exact p _ H (Ay.refl H) rfl
  |bl b=>
   cases dx with
   |bl a=>
    have ey:=hy.bl_of;have ex:=hx.bl_of;subst ex ey;cases rx;cases ry;refine wpAny_is_plain rfl ⟨.bl (a==b),H,I,?_,p _ H (Ay.refl H) rfl⟩;cases a<;>cases b<;>rfl
   |_=>exact p.elim
  |_=>cases dx<;>exact p.elim
 |IsNot=>
  intro A pI s Y H x y v u Q I rx ry ⟨hA,dx,dy,hx,hy,p⟩;cases dy with
  |non=>
   have ey:=hy.non_of;subst ey;refine dX pI s Y H _ _ v u Q I rx ry ⟨rfl,?_⟩;cases dx with
   |non=>
    have ex:=hx.non_of;subst ex;exact p _ H (Ay.refl H) rfl
   |exc=>exact p.elim
   |dic=>exact p.elim
   |_=>rw[Cj (Tg hx (by simp))];exact p _ H (Ay.refl H) rfl
  |bl b=>
   cases dx with
   |bl a=>
    have ey:=hy.bl_of;have ex:=hx.bl_of;subst ex ey;cases rx;cases ry;refine wpAny_isNot_plain rfl ⟨.bl (!(a==b)),H,I,?_,p _ H (Ay.refl H) rfl⟩;cases a<;>cases b<;>rfl
   |_=>exact p.elim
  |_=>cases dx<;>exact p.elim
end
section
variable{X:Cx}{CL:ClA}{W:XW}{a b c:Am}{fa fb fc:Rho->R D}{pos:AA}
theorem CJ.bind{f:D->R Ak}{Q:Ak->Hp->Prop}{Q':VK}(h:CJ W H (r.bind f) Q)(k:∀ d v H',r=.ok d->Ay H H'->Rp H' v d->CJ W H' (f d) Q->Q' v H'):AS Rp W H r Q':=by
 cases r with
 |ok d=>exact λv H2 s2 q=>k d v H2 rfl s2 q (CJ.same s2 h)
 |exn x=>exact h
 |bad=>exact h
theorem CJ.bindB{r:R Ak}{f:Ak->R Ak}{Q:Ak->Hp->Prop}{Q':Ak->Hp->Prop}(h:CJ W H (r.bind f) Q)(k:∀ b H',r=.ok b->Ay H H'->CJ W H' (f b) Q->Q' b H'):CJ W H r Q':=by
 cases r with
 |ok d=>exact λH2 s2=>k d H2 rfl s2 (CJ.same s2 h)
 |exn x=>exact h
 |bad=>exact h
theorem GH.bind{Rp:Hp->Ac V->Ac D->Prop}{r:R (Ac D)}{f:Ac D->R D}{Q':Ac V->Hp->Prop}(h:AS Rq W H (r.bind f) Q)(k:∀ d v H',r=.ok d->Ay H H'->Rp H' v d->AS Rq W H' (f d) Q->Q' v H'):GH Rp W H r Q':=by
 cases r with
 |ok d=>exact λv H2 s2 q=>k d v H2 rfl s2 q (AS.same s2 h)
 |exn x=>exact h
 |bad=>exact h
theorem LY{f:Ak->R D}(h:AS Rq W H ((DC d).bind f) Q):∃ c,d=.bl c/\AS Rq W H (f c) Q:=by
 cases d with
 |bl c=>exact⟨c,rfl,h⟩
 |_=>exact h.elim
theorem Tz(ha:ST X CL W a fa):SE X CL W (.UnaryOp .Not a pos) (λU=>(fa U).bind λx=>(DC x).bind λb=>.ok (.bl (!b))):=λA=>PE.weak (jI (ha A)) λY H Q ⟨hA,U,g,p⟩=>⟨hA,U,g,AS.bind p λd v H1 _ s1 r1 p1=>by
 obtain⟨c,rfl,p2⟩:=LY p1;exact⟨c,r1.bl_of,p2 _ H1 (Ay.refl H1) rfl⟩⟩
theorem OT{op}(ha:SE X CL W a fa):SE X CL W (.BoolOp op [a] pos) fa:=λA=>jH (ha A)
theorem TJ{rest:Ac Am}(ha:SE X CL W a fa)(hb:SE X CL W (.BoolOp .And (b::rest) pos) fb):SE X CL W (.BoolOp .And (a::b::rest) pos) (λU=>(fa U).bind λx=>(DC x).bind λc=>if c=Ab then fb U else .ok (.bl Ad)):=
 λA=>PE.weak (iB (ha A) (hb A)) λY H Q ⟨hA,U,g,p⟩=>⟨hA,U,g,AS.bind p λd v H1 _ s1 r1 p1=>by
  obtain⟨c,rfl,p2⟩:=LY p1;refine⟨c,r1,?_⟩;cases c with
  |true=>exact⟨hA.same s1,U,g.same s1,p2⟩
  | false=>exact p2 _ H1 (Ay.refl H1) rfl⟩
theorem nF{rest:Ac Am}(ha:SE X CL W a fa)(hb:SE X CL W (.BoolOp .Or (b::rest) pos) fb):SE X CL W (.BoolOp .Or (a::b::rest) pos) (λU=>(fa U).bind λx=>(DC x).bind λc=>if c=Ab then .ok (.bl Ab) else fb U):=
 λA=>PE.weak (lU (ha A) (hb A)) λY H Q ⟨hA,U,g,p⟩=>⟨hA,U,g,AS.bind p λd v H1 _ s1 r1 p1=>by
  obtain⟨c,rfl,p2⟩:=LY p1;refine⟨c,r1,?_⟩;cases c with
  |false=>exact⟨hA.same s1,U,g.same s1,p2⟩
  | true=>exact p2 _ H1 (Ay.refl H1) rfl⟩
theorem Zg{op':C4}(hu:X.A.units+64<BE)(ha:ST X CL W a fa)(hb:ST X CL W b fb)(hc:ST X CL W c fc)(hm:IS [op,op'] [b,c]=Ad):SE X CL W (.Compare a [op,op'] [b,c] pos) (λU=>(fa U).bind λx=>(fb U).bind λy=>(BN op x y).bind λz=>(DC z).bind λk=>if k=Ab then (fc U).bind λu=>BN op' y u else .ok (.bl Ad)):=
 λA=>PE.weak (ZP (J8 hu op A) (J8 hu op' A) (ha A) (hb A) (hc A) hm) λY H Q ⟨hA,U,g,p⟩=>⟨hA,U,g,AS.bind p λdx x H1 _ s1 r1 p1=>⟨hA.same s1,U,g.same s1,AS.bind p1 λdy y H2 _ s2 r2 p2=>
  ⟨(hA.same s1).same s2,dx,dy,r1.same s2,r2,AS.bind p2 λdz z H3 _ s3 r3 p3=>by
   obtain⟨k,rfl,p4⟩:=LY p3;refine⟨k,r3,?_⟩;cases k with
   |false=>exact p4 _ H3 (Ay.refl H3) rfl
   | true=>exact⟨((hA.same s1).same s2).same s3,U,((g.same s1).same s2).same s3,AS.bind p4 λdu u H4 _ s4 r4 p5=>⟨(((hA.same s1).same s2).same s3).same s4,dy,du,(r2.same s3).same s4,r4,p5⟩⟩⟩⟩⟩
theorem Sa{xs:Ac D}{i:Ai}(h:Dq xs i=.ok d):∃ k,plD xs.length i=Aa k/\xs[k]?=Aa d:=by
 unfold Dq at h;split at h
 .rename_i k e;split at h
  .rename_i d' e';cases h;exact⟨k,e,e'⟩
  .cases h
 .cases h
theorem Kf{xs:Ac D}{i:Ai}{x:Ex}(h:Dq xs i=.exn x):AU:=by
 unfold Dq at h;split at h
 .split at h<;>cases h
 .cases h
theorem Sz{ds:Ac D}{i:Ai}(r:Reps K CL H A xs ds)(h:Dq ds i=.ok d):∃ v,atI xs i=Aa v/\Rep K CL H A v d:=by
 obtain⟨k,e,q⟩:=Sa h;obtain⟨v,hv,rv⟩:=r.get q;refine⟨v,?_,rv⟩;unfold atI;have:ixN xs.length i=Aa k:=by rw[r.length];exact e
 rw[this];exact hv
theorem eC{z:Ag}{i:Ai}(h:Dq (KI z) i=.ok d):∃ c,atI z.cps.toList i=Aa c/\d=.str ⟨#[c]⟩:=by
 obtain⟨k,e,q⟩:=Sa h;unfold KI at e q;rw[CA]at e;rw[Em]at q;cases hc:z.cps.toList[k]? with
 |none=>rw[hc]at q;cases q
 |some c=>
  rw[hc]at q;refine⟨c,?_,(Bk q).symm⟩;unfold atI;have:ixN z.cps.toList.length i=Aa k:=e;rw[this];exact hc
theorem X1(h:Dl n=Ab):n<=sizeLine:=by
 unfold Dl at h;have:=BG h;rw[BZ];omega
theorem fG(hs:OF b)(ha:ST X CL W a fa)(hb:ST X CL W b fb):SE X CL W (.Subscript a b pos) (λU=>(fa U).bind λx=>(fb U).bind λy=>F6 x y):=
 λA=>PE.weak (lV (r:=rIx X.K) kI (ha A) (hb A) hs) λY H Q h=>by
  obtain⟨hA,U,g,h⟩:=op2 h;refine⟨hA,U,g,?_⟩;cases e:fa U with
  |bad=>rw[e]at h;exact h
  |exn x=>rw[e]at h;exact h
  |ok dx0=>
   rw[e]at h;intro x H1 s1 r1;obtain⟨hA1,U1,g1,h1⟩:=h x H1 s1 r1;refine⟨hA1,U1,g1,?_⟩;cases e1:fb U1 with
   |bad=>rw[e1]at h1;exact h1
   |exn x=>rw[e1]at h1;exact h1
   |ok dy0=>
    rw[e1]at h1;intro y H2 s2 r2;obtain⟨hA2,dx,dy,rx,ry,p⟩:=h1 y H2 s2 r2;cases dy with
    |int i=>
     have ey:=ry.int_of;subst ey;cases dx with
     |lst ds=>
      obtain⟨q,xs,rfl,sq,r⟩:=rx.lst_of;rw[oK]at p;cases e2:Dq ds i with
      |ok d=>
       rw[e2]at p;obtain⟨v,hv,rv⟩:=Sz r e2;exact .inl ⟨q,xs,i,v,rfl,rfl,sq,hv,p v H2 (Ay.refl H2) rv⟩
      |exn x=>exact(Kf e2).elim
      |bad=>rw[e2]at p;exact p.elim
     |tup ds=>
      obtain⟨q,xs,rfl,_,sq,r⟩:=rx.tup_of;rw[oJ]at p;cases e2:Dq ds i with
      |ok d=>
       rw[e2]at p;obtain⟨v,hv,rv⟩:=Sz r e2;exact .inr (.inl ⟨q,xs,i,v,rfl,rfl,sq,hv,p v H2 (Ay.refl H2) rv⟩)
      |exn x=>exact(Kf e2).elim
      |bad=>rw[e2]at p;exact p.elim
     |str z=>
      have ex:=rx.str_of;subst ex;have p':AS (λH=>Rep X.K CL H A) W H2 (if Dl z.length=Ab then Dq (KI z) i else .bad) Q:=p
      split at p'
      .rename_i hz;cases e2:Dq (KI z) i with
       |ok d=>
        rw[e2]at p';obtain⟨c,hc,rfl⟩:=eC e2;exact .inr (.inr ⟨z,i,c,rfl,rfl,X1 hz,hc,p' _ H2 (Ay.refl H2) rfl⟩)
       |exn x=>exact(Kf e2).elim
       |bad=>rw[e2]at p';exact p'.elim
      .exact p'.elim
     |dic=>exact rx.plain.elim
     |_=>exact p.elim
    |_=>cases dx<;>first|exact p.elim|exact rx.plain.elim
theorem SY:SA X CL W [] (λ_=>.ok []):=λA=>PA.weak Fe λY H Q ⟨hA,U,g,p⟩=>p [] H (Ay.refl H) trivial
theorem Sd(ha:SE X CL W a fa)(hs:SA X CL W es fs)(hst:Ar (a::es) X.env=(Ad,eval a X.env)::Ar es X.env):SA X CL W (a::es) (λU=>(fa U).bind λx=>(fs U).bind λxs=>.ok (x::xs)):=
 λA=>PA.weak (DU (ha A) (hs A) hst) λY H Q ⟨hA,U,g,p⟩=>by
  dsimp only at p;refine⟨hA,U,g,?_⟩;cases e:fa U with
  |bad=>rw[e]at p;exact p
  |exn x=>rw[e]at p;exact p
  |ok d=>
   rw[e]at p;intro v H1 s1 r1;refine⟨hA.same s1,U,g.same s1,?_⟩;cases e1:fs U with
   |bad=>rw[R.bind_ok,e1]at p;exact p
   |exn x=>rw[R.bind_ok,e1]at p;exact λH2 s2=>p H2 (s1.trans s2)
   |ok ds=>
    rw[R.bind_ok,e1]at p;exact λvs H2 s2 r2=>p (v::vs) H2 (s1.trans s2) ⟨r1.same s2,r2⟩
theorem Tx(hs:SA X CL W es fs)(hz:∀ U ds,fs U=.ok ds->ds.length<=100000):SE X CL W (.Tuple es k pos) (λU=>(fs U).bind λxs=>.ok (.tup xs)):=
 λA=>PE.weak (S6 (hs A)) λY H Q ⟨hA,U,g,p⟩=>⟨hA,U,g,GH.bind p λds vs H1 e s1 r1 p1=>⟨by
  rw[r1.length,BZ];have:=hz U ds e;omega,λq hq=>p1 _ _ (ET hq _) (Me (hA.same s1) hq r1)⟩⟩
def LC(W:XW)(H:Hp)(r:R (An Ai))(Q:An Ai->Hp->Prop):Prop:=match r with
  |.ok o=>∀ H',Ay H H'->Q o H'
  |.exn x=>∀ H',Ay H H'->W x H'
  |.bad=>AU
theorem LC.bind{r:R (An Ai)}{f:An Ai->R D}(h:AS Rq W H (r.bind f) Q)(k:∀ o H',r=.ok o->Ay H H'->AS Rq W H' (f o) Q->Q' o H'):LC W H r Q':=by
 cases r with
 |ok d=>exact λH2 s2=>k d H2 rfl s2 (AS.same s2 h)
 |exn x=>exact h
 |bad=>exact h
def SO(X:Cx)(CL:ClA)(W:XW)(e:An Am)(f:Rho->R (An Ai)):Prop:=∀ A,PO X e (λY H Q=>AOk H A/\∃ U,Good X.K CL A U Y H/\LC W H (f U) Q)
theorem PO.weak{e:An Am}{t t':TO}(h:PO X e t)(k:∀ Y H Q,t' Y H Q->t Y H Q):PO X e t':=λpI s Y H Q I q=>h pI s Y H Q I (k _ _ _ q)
theorem aX:SO X CL W Ae (λ_=>.ok Ae):=λA=>PO.weak dJ λY H Q ⟨hA,U,g,p⟩=>p H (Ay.refl H)
theorem aW(ha:ST X CL W a fa):SO X CL W (Aa a) (λU=>(fa U).bind λd=>(Fh d).bind λi=>.ok (Aa i)):=λA=>PO.weak (dI (ha A)) λY H Q ⟨hA,U,g,p⟩=>by
 dsimp only at p;refine⟨hA,U,g,?_⟩;cases e:fa U with
 |bad=>rw[e]at p;exact p
 |exn x=>rw[e]at p;exact p
 |ok d=>
  rw[e]at p;intro v H1 s1 r1;cases d with
  |int i=>exact⟨i,r1.int_of,p H1 s1⟩
  |_=>exact p.elim
end
section
variable{X:Cx}{CL:ClA}{W:XW}{a b c:Am}{fa fb fc:Rho->R D}{pos:AA}
def Gi(K:Fg)(CL:ClA)(H:Hp)(A:Ah->Prop):Ac V->Ac D->Prop
 |[],[]=>G4
 |v::vs,d::ds=>Cr K CL H A v d/\Gi K CL H A vs ds
 |_,_=>AU
theorem Gi.same{K:Fg}{H H':Hp}{A:Ah->Prop}(s:Ay H H'):∀{vs:Ac V}{ds:Ac D},Gi K CL H A vs ds->Gi K CL H' A vs ds
 |[],[],h=>h
 |_::_,_::_,h=>⟨h.1.same s,Gi.same s h.2⟩
 |[],_::_,h=>h.elim
 |_::_,[],h=>h.elim
theorem Gi.one{vs:Ac V}(h:Gi K CL H A vs [d]):∃ v,vs=[v]/\Cr K CL H A v d:=by
 cases vs with
 |nil=>exact h.elim
 |cons v vs=>
  cases vs with
  |nil=>exact⟨v,rfl,h.1⟩
  |cons=>exact h.2.elim
def SAT(X:Cx)(CL:ClA)(W:XW)(es:Ac Am)(f:Rho->R (Ac D)):Prop:=∀ A,PA X es (λY H Q=>AOk H A/\∃ U,Good X.K CL A U Y H/\GH (λH=>Gi X.K CL H A) W H (f U) Q)
theorem aB:SAT X CL W [] (λ_=>.ok []):=λA=>PA.weak Fe λY H Q ⟨hA,U,g,p⟩=>p [] H (Ay.refl H) trivial
theorem YN(ha:ST X CL W a fa)(hs:SAT X CL W es fs)(hst:Ar (a::es) X.env=(Ad,eval a X.env)::Ar es X.env):SAT X CL W (a::es) (λU=>(fa U).bind λx=>(fs U).bind λxs=>.ok (x::xs)):=
 λA=>PA.weak (DU (ha A) (hs A) hst) λY H Q ⟨hA,U,g,p⟩=>by
  dsimp only at p;refine⟨hA,U,g,?_⟩;cases e:fa U with
  |bad=>rw[e]at p;exact p
  |exn x=>rw[e]at p;exact p
  |ok d=>
   rw[e]at p;intro v H1 s1 r1;refine⟨hA.same s1,U,g.same s1,?_⟩;cases e1:fs U with
   |bad=>rw[R.bind_ok,e1]at p;exact p
   |exn x=>rw[R.bind_ok,e1]at p;exact λH2 s2=>p H2 (s1.trans s2)
   |ok ds=>
    rw[R.bind_ok,e1]at p;exact λvs H2 s2 r2=>p (v::vs) H2 (s1.trans s2) ⟨r1.same s2,r2⟩
def KD(X:Cx)(CL:ClA)(W:XW)(f:Aj)(g:Ac D->R D):Prop:=∀ A,Io X f (λxs H Q=>AOk H A/\∃ ds,Gi X.K CL H A xs ds/\AS (λH=>Rep X.K CL H A) W H (g ds) Q)
theorem TH{id:CK}{g:Ac D->R D}(hc:KD X CL W (.builtin id) g)(hg:Gl X x)(hm:X.mg x=Ae)(hv:CU x=Aa (.builtin id))(ha:SAT X CL W (e::es) fs)(hn:x≠"__name__")(hdb:(x==("__debug__" : Ag))=Ad)(he:Ar (e::es) X.env=(Ad,eval e X.env)::Ar es X.env)(hpl:∀ pos,(Bu pos (Ar es X.env)).any (·.1)=Ad):SE X CL W (.Call (.Name x p) (e::es) [] pos) (λU=>(fs U).bind g):=λA=>PE.weak (Ka (hc A) hg hm hv (ha A) hn hdb he (hpl _)) λY H Q ⟨hA,U,gd,q⟩=>⟨hA,U,gd,GH.bind q λds vs H1 _ s1 r1 p1=>⟨hA.same s1,ds,r1,p1⟩⟩
theorem TF{g:Ac D->R D}(hc:KD X CL W (.type T) g)(hg:Gl X x)(hm:X.mg x=Ae)(hv:CU x=Aa (.type T))(ha:SAT X CL W (e::es) fs)(hn:x≠"__name__")(hdb:(x==("__debug__" : Ag))=Ad)(he:Ar (e::es) X.env=(Ad,eval e X.env)::Ar es X.env)(hpl:∀ pos,(Bu pos (Ar es X.env)).any (·.1)=Ad):SE X CL W (.Call (.Name x p) (e::es) [] pos) (λU=>(fs U).bind g):=λA=>PE.weak (QW (hc A) hg hm hv (ha A) hn hdb he (hpl _)) λY H Q ⟨hA,U,gd,q⟩=>⟨hA,U,gd,GH.bind q λds vs H1 _ s1 r1 p1=>⟨hA.same s1,ds,r1,p1⟩⟩
theorem jJ:KD X CL W (.builtin "len") (biD .len):=by
  intro A pI s Y H xs us Q I r ⟨hA,ds,rs,p⟩
  match ds,rs,p with
  |[.lst es],rs,p=>
    obtain⟨v,rfl,rv⟩:=rs.one;obtain⟨q,ys,rfl,sq,ry⟩:=rv.lst_of;exact Qp pI s Y H _ us Q I r ⟨q,ys,rfl,.inl sq,p _ H (Ay.refl H) (by rw[ry.length];rfl)⟩
  |[.tup es],rs,p=>
    obtain⟨v,rfl,rv⟩:=rs.one;obtain⟨q,ys,rfl,_,sq,ry⟩:=rv.tup_of;exact Qp pI s Y H _ us Q I r ⟨q,ys,rfl,.inr sq,p _ H (Ay.refl H) (by rw[ry.length];rfl)⟩
  |[.str x],rs,p=>
    obtain⟨v,rfl,rv⟩:=rs.one;have e:=rv.str_of;subst e;have p':AS (λH=>Rep X.K CL H A) W H (if Dl x.length=Ab then .ok (.int x.length) else .bad) Q:=p
    split at p'
    · rename_i h;exact XU pI s Y H _ us Q I r ⟨x,rfl,J4 h,p' _ H (Ay.refl H) rfl⟩
    · exact p'.elim
  |[],_,p=>exact p.elim
  |[.non],_,p=>exact p.elim
  |[.bl _],_,p=>exact p.elim
  |[.int _],_,p=>exact p.elim
  |[.obj _ _],_,p=>exact p.elim
  |[.exc _ _],_,p=>exact p.elim
  |[.dic _],rs,p=>first|exact p.elim|(obtain⟨v,rfl,rv⟩:=rs.one;exact rv.plain.elim)
  |x::_::_,_,p=>cases x<;>exact p.elim
theorem Z_6:KD X CL W (.type "tuple") (biD .tuple):=by
  intro A pI s Y H xs us Q I r ⟨hA,ds,rs,p⟩
  match ds,rs,p with
  |[.lst es],rs,p=>
    obtain⟨v,rfl,rv⟩:=rs.one;obtain⟨q,ys,rfl,sq,ry⟩:=rv.lst_of;exact Qf pI s Y H _ us Q I r ⟨q,ys,rfl,.inl ⟨sq,λl hl=>p _ _ (ET hl _) (Me hA hl ry)⟩⟩
  |[.tup es],rs,p=>
    obtain⟨v,rfl,rv⟩:=rs.one;obtain⟨q,ys,rfl,na,sq,ry⟩:=rv.tup_of;exact Qf pI s Y H _ us Q I r ⟨q,ys,rfl,.inr ⟨sq,p _ H (Ay.refl H) ⟨q,ys,rfl,na,sq,ry⟩⟩⟩
  |[],_,p=>exact p.elim
  |[.non],_,p=>exact p.elim
  |[.bl _],_,p=>exact p.elim
  |[.int _],_,p=>exact p.elim
  |[.str _],_,p=>exact p.elim
  |[.obj _ _],_,p=>exact p.elim
  |[.exc _ _],_,p=>exact p.elim
  |[.dic _],rs,p=>first|exact p.elim|(obtain⟨v,rfl,rv⟩:=rs.one;exact rv.plain.elim)
  |x::_::_,_,p=>cases x<;>exact p.elim
end
section
variable{X:Cx}{CL:ClA}{W:XW}{a b c:Am}{fa fb fc:Rho->R D}{pos:AA}
theorem SB.congr{f g:Rho->R Ak}(h:SB X CL W a f)(e:∀ U,g U=f U):SB X CL W a g:=λA=>PT.weak (h A) λY H Q ⟨hA,U,q,p⟩=>⟨hA,U,q,by rw[<-e];exact p⟩
theorem fK{f:Rho->R Ak}(ha:SB X CL W a f):SB X CL W (.UnaryOp .Not a pos) (λU=>(f U).bind λb=>.ok (!b)):=λA=>PT.weak (jE (ha A)) λY H Q ⟨hA,U,g,p⟩=>⟨hA,U,g,CJ.bindB p λb H1 _ s1 p1=>p1 H1 (Ay.refl H1)⟩
def SW(X:Cx)(CL:ClA)(W:XW)(e:Am)(f:Rho->R Ak):Prop:=∀ A,PW X e (λY H Q=>AOk H A/\∃ U,Good X.K CL A U Y H/\CJ W H (f U) Q)
theorem PW.weak{t t':TT}(h:PW X e t)(k:∀ Y H Q,t' Y H Q->t Y H Q):PW X e t':=λwh pI s Y H Q I q=>h wh pI s Y H Q I (k _ _ _ q)
theorem SW.sb{f:Rho->R Ak}(h:SW X CL W a f):SB X CL W a f:=λA=>PW.pt (h A)
theorem SW.congr{f g:Rho->R Ak}(h:SW X CL W a f)(e:∀ U,g U=f U):SW X CL W a g:=λA=>PW.weak (h A) λY H Q ⟨hA,U,q,p⟩=>⟨hA,U,q,by rw[<-e];exact p⟩
theorem aM{f:Rho->R Ak}(ha:SB X CL W a f):SW X CL W (.BoolOp .And [a] pos) f:=λA=>dC (ha A)
theorem fM{f:Rho->R Ak}(ha:SB X CL W a f):SW X CL W (.BoolOp .Or [a] pos) f:=λA=>jC (ha A)
theorem fN{f g:Rho->R Ak}{rest:Ac Am}(ha:SB X CL W a f)(hb:SW X CL W (.BoolOp .And (b::rest) pos) g):SW X CL W (.BoolOp .And (a::b::rest) pos) (λU=>(f U).bind λc=>if c=Ab then g U else .ok Ad):=
 λA=>PW.weak (jD (ha A) (hb A)) λY H Q ⟨hA,U,gd,p⟩=>⟨hA,U,gd,CJ.bindB p λc H1 _ s1 p1=>by
  cases c with
  |true=>exact⟨hA.same s1,U,gd.same s1,p1⟩
  | false=>exact p1 H1 (Ay.refl H1)⟩
theorem lB{f g:Rho->R Ak}{rest:Ac Am}(ha:SB X CL W a f)(hb:SW X CL W (.BoolOp .Or (b::rest) pos) g):SW X CL W (.BoolOp .Or (a::b::rest) pos) (λU=>(f U).bind λc=>if c=Ab then .ok Ab else g U):=
 λA=>PW.weak (lT (ha A) (hb A)) λY H Q ⟨hA,U,gd,p⟩=>⟨hA,U,gd,CJ.bindB p λc H1 _ s1 p1=>by
  cases c with
  |false=>exact⟨hA.same s1,U,gd.same s1,p1⟩
  | true=>exact p1 H1 (Ay.refl H1)⟩
theorem fL(ho:OpD X CL W (Cu op) g)(ha:ST X CL W a fa)(hb:ST X CL W b fb)(hm:Gx op b=Ad):SB X CL W (.Compare a [op] [b] pos) (λU=>(fa U).bind λx=>(fb U).bind λy=>(g x y).bind DC):=
 λA=>PT.weak (dF (ho A) (ha A) (hb A) hm) λY H Q ⟨hA,U,gd,p⟩=>⟨hA,U,gd,CJ.bind p λdx x H1 _ s1 r1 p1=>⟨hA.same s1,U,gd.same s1,CJ.bind p1 λdy y H2 _ s2 r2 p2=>
  ⟨(hA.same s1).same s2,dx,dy,r1.same s2,r2,CJ.bind p2 λdz z H3 _ s3 r3 p3=>by
   cases dz with
   |bl k=>exact⟨k,r3,p3 H3 (Ay.refl H3)⟩
   | _=>exact p3.elim⟩⟩⟩
theorem Zi{op':C4}(hu:X.A.units+64<BE)(ha:ST X CL W a fa)(hb:ST X CL W b fb)(hc:ST X CL W c fc)(hm:IS [op,op'] [b,c]=Ad):SB X CL W (.Compare a [op,op'] [b,c] pos) (λU=>(fa U).bind λx=>(fb U).bind λy=>(BN op x y).bind λz=>(DC z).bind λk=>if k=Ab then (fc U).bind λu=>(BN op' y u).bind DC else .ok Ad):=
  λA=>PT.weak (YU (J8 hu op A) (J8 hu op' A) (ha A) (hb A) (hc A) hm) λY H Q ⟨hA,U,g,p⟩=>⟨hA,U,g,CJ.bind p λdx x H1 _ s1 r1 p1=>⟨hA.same s1,U,g.same s1,CJ.bind p1 λdy y H2 _ s2 r2 p2=>
    ⟨(hA.same s1).same s2,dx,dy,r1.same s2,r2,CJ.bind p2 λdz z H3 _ s3 r3 p3=>by
      cases dz with
      |bl k=>
        refine⟨k,r3,?_⟩;cases k with
        |false=>exact⟨Ad,rfl,p3 H3 (Ay.refl H3)⟩
        | true=>exact⟨((hA.same s1).same s2).same s3,U,((g.same s1).same s2).same s3,CJ.bind p3 λdu u H4 _ s4 r4 p5=>⟨(((hA.same s1).same s2).same s3).same s4,dy,du,(r2.same s3).same s4,r4,CJ.bind p5 λdv v H5 _ s5 r5 p6=>by
            cases dv with
            |bl k'=>exact⟨k',r5,p6 H5 (Ay.refl H5)⟩
            | _=>exact p6.elim⟩⟩
      | _=>exact p3.elim⟩⟩⟩
theorem fJ(ha:ST X CL W a fa)(he:∀ whole,HQ a X.env whole=(do let v <-whole;standAt a.pos;holding [v] (truthy v))):SB X CL W a (λU=>(fa U).bind BM):=
 λA=>PT.weak (YT (ha A) he) λY H Q ⟨hA,U,g,p⟩=>⟨hA,U,g,CJ.bind p λd v H1 _ s1 r1 p1=>by
  cases d with
  |non=>
   have e:=r1.non_of;subst e;exact⟨Ad,rfl,p1 H1 (Ay.refl H1)⟩
  |bl b=>
   have e:=r1.bl_of;subst e;exact⟨b,rfl,p1 H1 (Ay.refl H1)⟩
  |int i=>
   have e:=r1.int_of;subst e;exact⟨_,rfl,p1 H1 (Ay.refl H1)⟩
  |str x=>
   have e:=r1.str_of;subst e;have p2:CJ W H1 (if Dl x.length=Ab then .ok (x.length != 0) else .bad) Q:=p1
   split at p2
   .rename_i h;refine⟨_,⟨J4 h,rfl⟩,?_⟩;have e:((x.length:Ai) != 0)=(x.length != 0):=by
     rw[DD];simp
    rw[e];exact p2 H1 (Ay.refl H1)
   .exact p2.elim
  |tup ds=>
   obtain⟨q,xs,rfl,_,sq,r⟩:=r1.tup_of;refine⟨_,.inr (.inl ⟨xs,sq,rfl⟩),?_⟩;have e:xs.isEmpty=ds.isEmpty:=by
    have:=r.length;cases xs<;>cases ds<;>first|rfl|cases this
   rw[e];exact p1 H1 (Ay.refl H1)
  |lst ds=>
   obtain⟨q,xs,rfl,sq,r⟩:=r1.lst_of;refine⟨_,.inl ⟨xs,sq,rfl⟩,?_⟩;have e:xs.isEmpty=ds.isEmpty:=by
    have:=r.length;cases xs<;>cases ds<;>first|rfl|cases this
   rw[e];exact p1 H1 (Ay.refl H1)
  | _=>exact p1.elim⟩
noncomputable def XC(K:Fg)(CL:ClA)(H:Hp)(A:Ah->Prop)(cls:Aj)(dx:An Ah)(x:Ex):Prop:=
 ∃ C,CL x.c=Aa C/\cls=.ref C/\(x.fs=[]\/∃ d vs,dx=Aa d/\¬ A d/\H d=Aa (.xd vs)/\Repf K CL H A vs x.fs)
def Eh(K:Fg)(CL:ClA)(H:Hp)(cls:Aj)(dx:An Ah)(x:Ex):Prop:=∀ A,AOk H A->XC K CL H A cls dx x
end
structure Fr where
 f:Ah->HO->Prop
 pin:Af->Ah->Ac V->Prop
variable{Fz:Fr}
instance:CoeFun Fr λ_=>Ah->HO->Prop:=⟨Fr.f⟩
def Bg(B:Ah->Prop)(U:Rho)(Y:L2.St):Ah->Prop:=λa=>B a\/∃(j:Af)(d:D),U[j]?=Aa (Aa (d,Ab))/\Y[j]?=Aa (Aa (.ref a))
structure Sx (K:Fg) (CL:ClA) (Fz:Fr) (B:Ah->Prop) (U:Rho) (Y:L2.St) (H:Hp):Prop where
 good:Good K CL (Bg B U Y) U Y H
 aok:AOk H (Bg B U Y)
 new:∀(j:Af)(d:D)(a:Ah),U[j]?=Aa (Aa (d,Ab))->Y[j]?=Aa (Aa (.ref a))->(∀ o,¬ Fz a o)/\¬ B a
 dis:∀(i j:Af)(d e:D)(a:Ah),U[i]?=Aa (Aa (d,Ab))->U[j]?=Aa (Aa (e,Ab))->Y[i]?=Aa (Aa (.ref a))->Y[j]?=Aa (Aa (.ref a))->i=j
 same:∀ b o,Fz b o->H b=Aa o
 len:U.length=Y.length
 pin:∀ j:Af,U[j]?=Aa (Aa (.non,Ab))->∃ a xs,Fz.pin j a xs/\Y[j]?=Aa (Aa (.ref a))/\H a=Aa (.lst xs)
def Bw(K:Fg)(CL:ClA)(Fz:Fr)(B:Ah->Prop)(W:XW)(o:O)(D:Ends):Prop:=match o with
  |.next U=>∀ Y H,Sx K CL Fz B U Y H->D.nx Y H
  |.brk U=>∀ Y H,Sx K CL Fz B U Y H->D.bk Y H
  |.cont U=>∀ Y H,Sx K CL Fz B U Y H->D.ct Y H
  |.ret d fr=>∀ v H,(∀ b o,Fz b o->H b=Aa o)->Rep K CL H B v d->(fr=Ab->∀ ds,d=.lst ds->∃ a xs,v=.ref a/\(∀ o,¬ Fz a o)/\H a=Aa (.lst xs)/\Reps K CL H (λb=>B b\/b=a) xs ds)->D.rt v H
  |.exn x _=>∀ H,(∀ b o,Fz b o->H b=Aa o)->W x H
  |.bad=>AU
section
variable{K:Fg}{CL:ClA}{Fz Fy:Fr}{B:Ah->Prop}{U:Rho}{Y:L2.St}{H H':Hp}
theorem Sx.mono(k:∀ b o,Fz b o->Fy b o)(kp:∀ j a xs,Fy.pin j a xs->Fz.pin j a xs)(x:Sx K CL Fy B U Y H):Sx K CL Fz B U Y H:=⟨x.good,x.aok,λj d a h1 h2=>⟨λo z=>(x.new j d a h1 h2).1 o (k _ _ z),(x.new j d a h1 h2).2⟩,x.dis,λb o z=>x.same b o (k _ _ z),x.len,λj h=>let ⟨a,xs,h1,h2⟩:=x.pin j h;⟨a,xs,kp _ _ _ h1,h2⟩⟩
theorem Sx.grow(x:Sx K CL Fz B U Y H)(s:Ay H H'):Sx K CL Fz B U Y H':=⟨x.good.same s,x.aok.same s,x.new,x.dis,λb o z=>s _ _ (x.same b o z),x.len,λj h=>let ⟨a,xs,h1,h2,h3⟩:=x.pin j h;⟨a,xs,h1,h2,s _ _ h3⟩⟩
theorem By{l:Ac α}{v:α}(h:i≠j):(l.set i v)[j]?=l[j]?:=by rw[FT h]
theorem ES{l:Ac α}{v w':α}(h:(l.set i v)[i]?=Aa w'):w'=v:=by
 rw[Fq]at h;cases e:l[i]? with
 |none=>rw[e]at h;cases h
 |some x=>rw[e]at h;cases h;rfl
theorem Sx.set(x:Sx K CL Fz B U Y H){v:V}{d:D}(i:Af)(r:Rep K CL H (Bg B U Y) v d):Sx K CL Fz B (U.set i (Aa (d,Ad))) (Y.set i (Aa v)) H:=by
 have own:∀(j:Af)(e:D),(U.set i (Aa (d,Ad)))[j]?=Aa (Aa (e,Ab))->i≠j/\U[j]?=Aa (Aa (e,Ab)):=λj e h=>by
  by_cases hj:i=j
  .subst hj;have:=ES h;cases this
  .exact⟨hj,by rw[By hj]at h;exact h⟩
 have sub:∀ a,Bg B (U.set i (Aa (d,Ad))) (Y.set i (Aa v)) a->Bg B U Y a:=λa h=>by
  rcases h with h|⟨j,e,h1,h2⟩
  .exact .inl h
  .obtain⟨hj,h1⟩:=own j e h1;rw[By hj]at h2;exact .inr ⟨j,e,h1,h2⟩
 refine⟨⟨λj e h=>?_,λj e h hn=>?_,by rw[AM,AM];exact x.len⟩,λa h=>x.aok a (sub a h),λj e a h1 h2=>?_,λj k e f a h1 h2 h3 h4=>?_,x.same,by rw[AM,AM];exact x.len,λj h=>?_⟩
 .by_cases hj:i=j
  .subst hj;have e1:=ES h;cases e1;refine⟨v,?_,Rep.sub sub _ r⟩;have hl:i<Y.length:=by
    rw[<-x.len];have:=(A9.mp h).1;simpa using this
   rw[BO hl]
  .rw[By hj]at h;obtain⟨w',q,rw'⟩:=x.good.sh j e h;exact⟨w',by rw[By hj];exact q,Rep.sub sub _ rw'⟩
 .obtain⟨hj,h1⟩:=own j e h;obtain⟨a,xs,ds,q,z,ha,hh,rr⟩:=x.good.ow j e h1 hn;exact⟨a,xs,ds,by rw[By hj];exact q,z,.inr ⟨j,e,h,by rw[By hj];exact q⟩,hh,Reps.sub sub _ rr⟩
 .obtain⟨hj,h1⟩:=own j e h1;rw[By hj]at h2;exact x.new j e a h1 h2
 .obtain⟨hj,h1⟩:=own j e h1;obtain⟨hk,h2⟩:=own k f h2;rw[By hj]at h3;rw[By hk]at h4;exact x.dis j k e f a h1 h2 h3 h4
 .obtain⟨hj,h1⟩:=own j _ h;obtain⟨a,xs,p1,p2,p3⟩:=x.pin j h1;exact⟨a,xs,p1,by rw[By hj];exact p2,p3⟩
end
section
variable{X:Cx}{CL:ClA}{W:XW}{pos:AA}{e:Am}{fe:Rho->R D}
def SS(X:Cx)(CL:ClA)(W:XW)(st:AG)(f:Rho->O):Prop:=∀ Fz B,PS X st (λD Y H=>∃ U,Sx X.K CL Fz B U Y H/\Bw X.K CL Fz B W (f U) D)
def SSs(X:Cx)(CL:ClA)(W:XW)(st:Ac AG)(f:Rho->O):Prop:=∀ Fz B,PSs X st (λD Y H=>∃ U,Sx X.K CL Fz B U Y H/\Bw X.K CL Fz B W (f U) D)
theorem PS.weak{e:AG}{t t':TS}(h:PS X e t)(k:∀ D Y H,t' D Y H->t D Y H):PS X e t':=λpI s Y H D I q=>h pI s Y H D I (k _ _ _ q)
theorem PSs.weak{e:Ac AG}{t t':TS}(h:PSs X e t)(k:∀ D Y H,t' D Y H->t D Y H):PSs X e t':=λpI s Y H D I q=>h pI s Y H D I (k _ _ _ q)
theorem Bw.ex{f:D->O}(x:Sx X.K CL Fz B U Y H)(h:Bw X.K CL Fz B W (O.of U r f) D')(k:∀ d v H',r=.ok d->Ay H H'->Rp H' v d->Sx X.K CL Fz B U Y H'->Bw X.K CL Fz B W (f d) D'->Q v H'):AS Rp W H r Q:=by
 cases r with
 |ok d=>exact λv H' s r=>k d v H' rfl s r (x.grow s) h
 |exn y=>exact λH' s=>h H' λb o z=>s _ _ (x.same b o z)
 |bad=>exact h
theorem Bw.exB{r:R Ak}{f:Ak->O}{Q:Ak->Hp->Prop}(x:Sx X.K CL Fz B U Y H)(h:Bw X.K CL Fz B W (O.of U r f) D')(k:∀ b H',r=.ok b->Ay H H'->Sx X.K CL Fz B U Y H'->Bw X.K CL Fz B W (f b) D'->Q b H'):CJ W H r Q:=by
 cases r with
 |ok d=>exact λH' s=>k d H' rfl s (x.grow s) h
 |exn y=>exact λH' s=>h H' λb o z=>s _ _ (x.same b o z)
 |bad=>exact h
theorem aV(he:SE X CL W e fe)(hs:CF e Ae pos.line X.env=pure Ad):SS X CL W (.Expr e pos) (λU=>O.of U (fe U) λ_=>.next U):=λFz B pI s Y H D I ⟨U,x,p⟩=>
 Jz (he (Bg B U Y)) hs pI s Y H D I ⟨x.aok,U,x.good,Bw.ex x p λd v H' _ s r x' q=>q Y H' x'⟩
theorem fV{n:Ag}(hN:X.N.Nodup)(hi:X.N[i]?=Aa n)(hx:Loc X.env.scope n)(he:SE X CL W e fe)(hs:CF e (Aa (.Name n pos')) pos.line X.env=pure Ad)(hf:X.fn n=Ab\/X.env.scope.names.lookup n=Aa .local):SS X CL W (.Assign [.Name n pos'] e pos) (λU=>O.of U (fe U) λd=>.next (U.set i (Aa (d,Ad)))):=λFz B pI s Y H D I ⟨U,x,p⟩=>
 Lu hN hi hx (he (Bg B U Y)) hs hf pI s Y H D I ⟨x.aok,U,x.good,Bw.ex x p λd v H' _ s r x' q=>q _ H' (x'.set i r)⟩
theorem aS(he:SE X CL W e fe):SS X CL W (.Return (Aa e) pos) (λU=>O.of U (fe U) λd=>.ret d Ad):=λFz B pI s Y H D I ⟨U,x,p⟩=>
 OZ (he (Bg B U Y)) pI s Y H D I ⟨x.aok,U,x.good,Bw.ex x p λd v H' _ s r x' q=>q v H' x'.same (Rep.sub (λa h=>.inl h) _ r) λz=>nomatch z⟩
theorem lJ{a b:Ac AG}{fa fb:Rho->O}(hc:SB X CL W c fc)(ha:SSs X CL W a fa)(hb:SSs X CL W b fb):SS X CL W (.If c a b pos) (λU=>O.of U (fc U) λk=>if k=Ab then fa U else fb U):=λFz B pI s Y H D I ⟨U,x,p⟩=>
 Uk (hc (Bg B U Y)) (ha Fz B) (hb Fz B) pI s Y H D I ⟨x.aok,U,x.good,Bw.exB x p λk H' _ s x' q=>by
  cases k with
  |true=>exact⟨U,x',q⟩
  | false=>exact⟨U,x',q⟩⟩
theorem RQ:SSs X CL W [] (λU=>.next U):=λFz B=>PSs.weak Se λD Y H ⟨U,x,p⟩=>p Y H x
theorem Oa{st:AG}{rest:Ac AG}{f g:Rho->O}(h1:SS X CL W st f)(h2:SSs X CL W rest g):SSs X CL W (st::rest) (λU=>(f U).seq g):=λFz B=>PSs.weak (IV (h1 Fz B) (h2 Fz B)) λD Y H ⟨U,x,p⟩=>⟨U,x,by
 dsimp only at p;cases e:f U with
 |next U'=>rw[e]at p;exact λY' H' x'=>⟨U',x',p⟩
 |ret d b=>rw[e]at p;exact p
 |brk U'=>rw[e]at p;exact p
 |cont U'=>rw[e]at p;exact p
 |exn y U'=>rw[e]at p;exact p
 | bad=>rw[e]at p;exact p⟩
end
def Jo(K:Fg)(CL:ClA)(A:Ah->Prop)(ds:Ac D)(J:It)(H1:Hp):Prop:=∀ H,Kp A H1 H->∀ i:Af,(ds.length<=i->J.stop i H)/\∀ d,ds[i]?=Aa d->J.go i H/\∀ x H',J.yld i H x H'->Ay H H'/\∀ B,(∀ a,B a->A a\/H1 a=Ae)->AOk H B->Rep K CL H' B x d
def EX(K:Fg)(CL:ClA)(A:Ah->Prop)(W:XW)(H:Hp)(r:R (Ac D))(Q:It->Hp->Prop):Prop:=match r with
  |.ok ds=>∀ J H',Ay H H'->Jo K CL A ds J H'->ds.length<=sizeLine->Q J H'
  |.exn x=>∀ H',Ay H H'->W x H'
  |.bad=>AU
def SI(X:Cx)(CL:ClA)(W:XW)(tg iter:Am)(f:Rho->R (Ac D)):Prop:=∀ A,PI X tg iter (λY H R=>AOk H A/\∃ U,Good X.K CL A U Y H/\EX X.K CL A W H (f U) R)
theorem PI.weak{t t':TI}(h:PI X tg e t)(k:∀ Y H Q,t' Y H Q->t Y H Q):PI X tg e t':=λpI s Y H Q I q=>h pI s Y H Q I (k _ _ _ q)
section
variable{X:Cx}{CL:ClA}{W:XW}{pos p:AA}{tg e a b:Am}{fe fa fb:Rho->R D}
theorem EX.ex{f:D->R (Ac D)}{Q:It->Hp->Prop}{Q':VK}(h:EX X.K CL A W H (r.bind f) Q)(k:∀ d v H',r=.ok d->Ay H H'->Rp H' v d->EX X.K CL A W H' (f d) Q->Q' v H'):AS Rp W H r Q':=by
  cases r with
  | ok d=>exact λv H' s q=>k d v H' rfl s q (by
      have h':EX X.K CL A W H (f d) Q:=h;cases e:f d with
      |ok ds=>rw[e]at h';exact λJ H2 s2 y z=>h' J H2 (s.trans s2) y z
      |exn y=>rw[e]at h';exact λH2 s2=>h' H2 (s.trans s2)
      | bad=>rw[e]at h';exact h')
  |exn y=>exact h
  |bad=>exact h
theorem QU{x:V}(r:Rep K CL H1 A x d)(k:Kp A H1 H)(hB:∀ a,B a->A a\/H1 a=Ae):Rep K CL H B x d:=by
 have r1:Rep K CL H1 (λa=>A a\/B a) x d:=Rep.wide (λa ha=>ha.elim .inl (hB a)) _ r
 have r2:Rep K CL H (λa=>A a\/B a) x d:=Rep.kp (λb o e na=>k b o e λz=>na (.inl z)) _ r1
 exact Rep.sub (λa ha=>.inr ha) _ r2
theorem XV{ds:Ac D}(na:¬ A q\/KL K q xs)(s:SqL K H q xs)(r:Reps K CL H A xs ds):Jo K CL A ds (Itl K q) H:=λH' k i=>by
 have s':=OH k na s;refine⟨λh=>⟨xs,s',by rw[r.length];exact h⟩,λd hd=>?_⟩
 obtain⟨v,hv,rv⟩:=r.get hd;exact⟨⟨xs,v,s',hv⟩,λx H2 ⟨e,y⟩=>by
  subst e;have:=y xs s';rw[hv]at this;cases this;exact⟨Ay.refl _,λB hB _=>QU rv k hB⟩⟩
theorem YX{ds:Ac D}(na:¬ A q\/KT K q xs)(s:SqT K H q xs)(r:Reps K CL H A xs ds):Jo K CL A ds (Itt K q) H:=λH' k i=>by
 have s':=OG k na s;refine⟨λh=>⟨xs,s',by rw[r.length];exact h⟩,λd hd=>?_⟩
 obtain⟨v,hv,rv⟩:=r.get hd;exact⟨⟨xs,v,s',hv⟩,λx H2 ⟨e,y⟩=>by
  subst e;have:=y xs s';rw[hv]at this;cases this;exact⟨Ay.refl _,λB hB _=>QU rv k hB⟩⟩
theorem Rn(lo:Ai)(n:Af):Jo K CL A (Hg lo n) (Itr lo n) H:=λH' k i=>by
 refine⟨λh=>by rw[NM]at h;exact h,λd hd=>?_⟩
 obtain⟨h1,rfl⟩:=Rg hd;exact⟨h1,λx H2 ⟨e,y⟩=>by
  subst e y;exact⟨Ay.refl _,λ_ _ _=>rfl⟩⟩
theorem S4{l:Am}{tl:TE}(hl:PE X l tl):PI X tg l (λY H R=>tl Y H λx H1=>(∃ a,x=.ref a/\(∃ xs,SqL X.K H1 a xs/\(xs.length<=sizeLine->R (Itl X.K a) H1)))\/∃ a,x=.ref a/\(∃ xs,SqT X.K H1 a xs/\(xs.length<=sizeLine->R (Itt X.K a) H1))):=by
 intro pI s Y H R I h;refine thn (hl pI s Y H _ I h) λv s1 ⟨x,H1,I1,r1,q1⟩=>?_
 rcases q1 with ⟨a,e,xs,hq,q⟩|⟨a,e,xs,hq,q⟩
 .subst e;cases r1;obtain⟨its,rv,p,hz⟩:=I1.list hq;refine GN p.isList ?_;refine⟨s1.heap.objs.size,[s1.heap.objs.size],_,_,H1,rfl,I1.kept (t':=s1.toks) λb o e=>Ax _ e,Yd a _,⟨_,Be _ rfl,rfl,rfl⟩,λb hb=>?_,q hz⟩
  have e:b=s1.heap.objs.size:=by simpa using hb
  subst e;exact I1.fpOk (AN _) (I1.hok.fresh (AN _))
 .subst e;cases r1;obtain⟨its,rv,p,hz⟩:=I1.tuple hq;refine Xx (show s1.heap.IsTuple a its.toArray from p) ?_
  refine⟨s1.heap.objs.size,[s1.heap.objs.size],_,_,H1,rfl,I1.kept (t':=s1.toks) λb o e=>Ax _ e,XY a _,⟨_,Be _ rfl,rfl,rfl⟩,λb hb=>?_,q hz⟩
  have e:b=s1.heap.objs.size:=by simpa using hb
  subst e;exact I1.fpOk (AN _) (I1.hok.fresh (AN _))
theorem pZ(he:SE X CL W e fe):SI X CL W tg e (λU=>(fe U).bind Ff):=λA=>PI.weak (S4 (he A)) λY H R ⟨hA,U,g,p⟩=>⟨hA,U,g,EX.ex p λd v H1 _ s1 r1 p1=>by
 cases d with
 |lst ds=>
  obtain⟨q,xs,rfl,na,sq,r⟩:=r1;exact .inl ⟨q,rfl,xs,sq,λhz=>p1 _ H1 (Ay.refl H1) (XV na sq r) (by rw[<-r.length];exact hz)⟩
 |tup ds=>
  obtain⟨q,xs,rfl,na,sq,r⟩:=r1;exact .inr ⟨q,rfl,xs,sq,λhz=>p1 _ H1 (Ay.refl H1) (YX na sq r) (by rw[<-r.length];exact hz)⟩
 | _=>exact p1.elim⟩
theorem QV{lo hi:Ai}{ds:Ac D}(h:EQ lo hi=.ok ds):(-(2 ^ 62)<=lo/\lo<2 ^ 62)/\(-(2 ^ 62)<=hi/\hi<2 ^ 62)/\ds=Hg lo (hi-lo).toNat/\(Hg lo (hi-lo).toNat).length<=sizeLine:=by
 unfold EQ at h;split at h
 .rename_i q;cases h;exact⟨by omega,by omega,rfl,by rw[NM,BZ];omega⟩
 .cases h
theorem Qu{lo hi:Ai}{x:Ex}(h:EQ lo hi=.exn x):AU:=by
 unfold EQ at h;split at h<;>cases h
theorem fY(ha:ST X CL W a fa)(hg:Gl X "range")(hm:X.mg "range" = Ae)(hs:Ar [a] X.env=[(Ad,eval a X.env)]):SI X CL W tg (.Call (.Name "range" p) [a] [] pos) (λU=>(fa U).bind λx=>(Fh x).bind λj=>EQ 0 j):=
 λA=>PI.weak (YM hg hm (DU (ha A) Fe hs) hs) λY H R ⟨hA,U,g,q⟩=>⟨hA,U,g,EX.ex q λd v H1 _ s1 r1 p1=>by
  cases d with
  |int j=>
   have e:=r1.int_of;subst e;have p2:EX X.K CL A W H1 (EQ 0 j) R:=p1;cases e2:EQ 0 j with
   |ok ds=>
    rw[e2]at p2;obtain⟨_,h2,rfl,hz⟩:=QV e2;exact⟨j,rfl,h2.1,h2.2,p2 _ H1 (Ay.refl H1) (by rw[Int.sub_zero];exact Rn 0 j.toNat) hz⟩
   |exn y=>exact(Qu e2).elim
   |bad=>rw[e2]at p2;exact p2.elim
  | _=>exact p1.elim⟩
theorem aY(ha:ST X CL W a fa)(hb:ST X CL W b fb)(hg:Gl X "range")(hm:X.mg "range" = Ae)(hs:Ar [a,b] X.env=[(Ad,eval a X.env),(Ad,eval b X.env)])(hs2:Ar [b] X.env=[(Ad,eval b X.env)]):
  SI X CL W tg (.Call (.Name "range" p) [a,b] [] pos) (λU=>(fa U).bind λx=>(fb U).bind λy=>(Fh x).bind λi=>(Fh y).bind λj=>EQ i j):=
 λA=>PI.weak (YL hg hm (DU (ha A) (DU (hb A) Fe hs2) (by rw[hs,hs2])) hs hs2) λY H R ⟨hA,U,g,q⟩=>⟨hA,U,g,EX.ex q λd v H1 _ s1 r1 p1=>⟨hA.same s1,U,g.same s1,EX.ex p1 λd2 v2 H2 _ s2 r2 p2=>by
  cases d with
  |int i=>
   cases d2 with
   |int j=>
    have e:=r1.int_of;have e':=r2.int_of
    subst e e';have p3:EX X.K CL A W H2 (EQ i j) R:=p2;cases e2:EQ i j with
    |ok ds=>
     rw[e2]at p3;obtain⟨h1,h2,rfl,hz⟩:=QV e2;exact⟨i,j,rfl,⟨h1.1,h1.2,h2.1,h2.2⟩,p3 _ H2 (Ay.refl H2) (Rn _ _) hz⟩
    |exn y=>exact(Qu e2).elim
    |bad=>rw[e2]at p3;exact p3.elim
   |_=>exact p2.elim
  | _=>exact p2.elim⟩⟩
theorem Bw.exI{r:R (Ac D)}{f:Ac D->O}{Q:It->Hp->Prop}(x:Sx X.K CL Fz B U Y H)(h:Bw X.K CL Fz B W (O.of U r f) D')(k:∀ ds J H',r=.ok ds->Ay H H'->Jo X.K CL A ds J H'->ds.length<=sizeLine->Sx X.K CL Fz B U Y H'->Bw X.K CL Fz B W (f ds) D'->Q J H'):EX X.K CL A W H r Q:=by
 cases r with
 |ok d=>exact λJ H' s y z=>k d J H' rfl s y z (x.grow s) h
 |exn y=>exact λH' s=>h H' λb o z=>s _ _ (x.same b o z)
 |bad=>exact h
theorem Bw.turn{Fy:Fr}{o:O}{g:Rho->O}{N:L2.St->Hp->Prop}(hf:∀ b q,Fz b q->Fy b q)(hp:∀ j a xs,Fy.pin j a xs->Fz.pin j a xs)(h:Bw K CL Fz B W (o.turn g) D')(k:∀ U' Y' H',Sx K CL Fy B U' Y' H'->Bw K CL Fz B W (g U') D'->N Y' H'):Bw K CL Fy B W o {D' with nx:=N,ct:=N,bk:=D'.nx}:=by
 cases o with
 |next U'=>exact λY' H' x=>k U' Y' H' x h
 |cont U'=>exact λY' H' x=>k U' Y' H' x h
 |brk U'=>exact λY' H' x=>h Y' H' (x.mono hf hp)
 |ret d b=>exact λv H' s r n=>h v H' (λb o z=>s b o (hf b o z)) r λz ds e=>let ⟨a,xs,h1,h2,h3⟩:=n z ds e;⟨a,xs,h1,λo q=>h2 o (hf a o q),h3⟩
 |exn y U'=>exact λH' s=>h H' (λb o z=>s b o (hf b o z))
 |bad=>exact h
noncomputable def EV(ts:Ac Af)(U:Rho):Rho:=ts.foldl (λU t=>U.set t Ae) U
def GT(K:Fg)(CL:ClA)(as:D->Rho->R Rho)(g:TG):Prop:=∀ Fz B U Y H v d U' Q,Sx K CL Fz B U Y H->Rep K CL H (Bg B U Y) v d->as d U=.ok U'->(∀ Y',Sx K CL Fz B U' Y' H->Q Y' H)->g v Y H Q
theorem eR(i:Af):GT K CL (λd U=>.ok (U.set i (Aa (d,Ad)))) (Eg i):=λFz B U Y H v d U' Q x r e k=>by
 cases e;exact k _ (x.set i r)
theorem Tj{K:Fg}{Fz:Fr}{B:Ah->Prop}{H:Hp}:∀(ts:Ac Af)(ds:Ac D)(vs:Ac V)(U U':Rho)(Y:L2.St)(Q:L2.St->Hp->Prop),Sx K CL Fz B U Y H->Reps K CL H (Bg B U Y) vs ds->Er ts ds U=Aa U'->(∀ Y',Sx K CL Fz B U' Y' H->Q Y' H)->(ts.foldr (λt u=>Ir (Eg t) u) Ix) vs Y H Q
 |[],[],[],U,U',Y,Q,x,_,e,k=>by
  cases e;exact⟨rfl,k Y x⟩
 |t::ts,d::ds,v::vs,U,U',Y,Q,x,r,e,k=>by
  refine⟨v,vs,rfl,Tj ts ds vs _ U' _ Q (x.set t r.1) (Reps.sub (λa ha=>?_) ds r.2) e k⟩
  rcases ha with ha|⟨j,c,h1,h2⟩
  .exact .inl ha
  .by_cases hj:t=j
   .subst hj;have:=ES h1;cases this
   .rw[By hj]at h1 h2;exact .inr ⟨j,c,h1,h2⟩
 |[],_::_,_,_,_,_,_,_,_,e,_=>by cases e
 |_::_,[],_,_,_,_,_,_,_,e,_=>by cases e
 |[],[],_::_,_,_,_,_,_,r,_,_=>r.elim
 |_::_,_::_,[],_,_,_,_,_,r,_,_=>r.elim
theorem NJ:∀(ts:Ac Af)(ds:Ac D)(U U':Rho),Er ts ds U=Aa U'->ds.length=ts.length
 |[],[],_,_,_=>rfl
 |_::ts,_::ds,_,_,e=>congrArg (· + 1) (NJ ts ds _ _ e)
 |[],_::_,_,_,e=>by cases e
 |_::_,[],_,_,e=>by cases e
theorem Ti(ts:Ac Af):GT K CL (ER ts) (LO K ts.length (ts.foldr (λt u=>Ir (Eg t) u) Ix)):=λFz B U Y H v d U' Q x r e k=>by
 cases d with
 |tup ds=>
  obtain⟨a,xs,rfl,na,sq,rs⟩:=r;rw[Qr]at e;cases e2:Er ts ds U with
  |none=>rw[e2]at e;cases e
  |some U2=>
   rw[e2]at e;cases e;exact⟨a,xs,rfl,sq,by rw[rs.length];exact NJ _ _ _ _ e2,Tj ts ds xs U _ Y Q x rs e2 k⟩
 |_=>cases e
theorem Tu{body:Ac AG}{fbd:Rho->O}{g:TG}(hp:Dz (model X.prog X.w) X.A X.env X.xe)(hc:X.calm=Ab)(hGT:GT X.K CL as g)(hg:PG X tg g)(hit:SI X CL W tg iter fi)(hb:SSs X CL W body fbd)(hs:∀ x,BL iter X.env x=pure x)(hax:∀ d U x,as d U≠.exn x):SS X CL W (.For tg iter body [] pos) (λU=>O.of U (fi U) λxs=>Du (λx U'=>O.of U' (as x U') fbd) xs U):=λFz B pI s Y H D I ⟨U,x,p⟩=>by
 refine O0 hp hc (hit (Bg B U Y)) hg (tb:=λD Y H=>∃ Fy,(λD Y H=>∃ U,Sx X.K CL Fy B U Y H/\Bw X.K CL Fy B W (fbd U) D) D Y H) (λpI s Y H D I ⟨Fy,q⟩=>hb Fy B pI s Y H D I q) hs pI s Y H D I ⟨x.aok,U,x.good,Bw.exI x p λds J H1 _ s1 y _ x1 q=>?_⟩
 let Fy:Fr:=⟨λb o=>H1 b=Aa o/\¬ ∃(j:Af)(d:Ov.D),U[j]?=Aa (Aa (d,Ab))/\Y[j]?=Aa (Aa (.ref b)),Fz.pin⟩
 have hfy:∀ b o,Fz b o->Fy b o:=λb o z=>⟨x1.same b o z,λ⟨j,d,h1,h2⟩=>(x1.new j d b h1 h2).1 o z⟩
 have xy:Sx X.K CL Fy B U Y H1:=⟨x1.good,x1.aok,λj d a h1 h2=>⟨λo z=>z.2 ⟨j,d,h1,h2⟩,(x1.new j d a h1 h2).2⟩,x1.dis,λb o z=>z.1,x1.len,x1.pin⟩
 refine⟨λk m Y' H'=>m=ds.length-k/\k<=ds.length/\∃ U',Sx X.K CL Fy B U' Y' H'/\Bw X.K CL Fz B W (Du (λx U'=>O.of U' (as x U') fbd) (ds.drop k) U') D,⟨ds.length,by simp,Dh _,U,xy,q⟩,?_⟩
 rintro k m Y' H' ⟨rfl,hk,U',x',q'⟩;have kp:Kp (Bg B U Y) H1 H':=λb o e na=>x'.same b o ⟨e,λz=>na (.inr z)⟩
 obtain⟨yst,ygo⟩:=y H' kp k;by_cases hlt:k<ds.length
 .have hd:ds[k]?=Aa ds[k]:=Bo hlt;obtain⟨hgo,hyl⟩:=ygo _ hd;refine .inr ⟨hgo,λY'' H''=>∃ U'',Sx X.K CL Fy B U'' Y'' H''/\Bw X.K CL Fz B W (Du (λx U'=>O.of U' (as x U') fbd) (ds.drop (k+1)) U'') D,λY'' H'' z=>⟨ds.length-(k+1),by omega,rfl,hlt,z⟩,λv H2 hv=>?_⟩
  obtain⟨e2,rv⟩:=hyl v H2 hv;rw[DO hlt]at q';have q2:Bw X.K CL Fz B W ((O.of U' (as ds[k] U') fbd).turn (Du (λx U'=>O.of U' (as x U') fbd) (ds.drop (k+1)))) D:=q'
  have rv':Rep X.K CL H2 (Bg B U' Y') v ds[k]:=rv _ (λa ha=>by
    rcases ha with ha|⟨j,d,h1,h2⟩
    .exact .inl (.inl ha)
    .cases e:H1 a with
     |none=>exact .inr rfl
     |some o=>
      by_cases ho:∃(j:Af)(d:Ov.D),U[j]?=Aa (Aa (d,Ab))/\Y[j]?=Aa (Aa (.ref a))
      .exact .inl (.inr ho)
      .exact absurd ⟨e,ho⟩ ((x'.new j d a h1 h2).1 o)) x'.aok
  cases ea:as ds[k] U' with
  |bad=>rw[ea]at q2;exact q2.elim
  |exn z=>exact absurd ea (hax _ _ z)
  |ok U2=>
   rw[ea,O.of_ok]at q2;exact hGT Fy B U' Y' H2 v ds[k] U2 _ (x'.grow e2) rv' ea λY3 x3=>⟨Fy,U2,x3,Bw.turn hfy (λ_ _ _ z=>z) q2 λU3 Y3 H3 x3 q3=>⟨U3,x3,q3⟩⟩
 .have hk':ds.length<=k:=by omega
  rw[Ea hk']at q';exact .inl ⟨yst hk',q' Y' H' (x'.mono hfy λ_ _ _ z=>z)⟩
end
section
variable{X:Cx}{CL:ClA}{W:XW}{a b c:Am}{fa fb fc:Rho->R D}{pos:AA}
noncomputable def tyK:Ki->An CK
 |.int=>Aa "int"
 |.bool=>Aa "bool"
 |.str=>Aa "str"
 |.list=>Aa "list"
 |.tuple=>Aa "tuple"
 |_=>Ae
noncomputable def O1:D->Ak
 |.obj _ _=>Ad
 |.exc _ _=>Ad
 |.dic _=>Ad
 |_=>Ab
theorem kK{k:Ki}{Q:Vq}{E:Vq}(I:Inv X pI Y H s)(r:Cr X.K CL H A v d)(q:Bs v u)(hT:tyK k=Aa T)(hd:O1 d=Ab)(h:∀ s',Inv X pI Y H s'->Q (.bool (kiD up k d)) s'):
  Aw (model X.prog X.w) X.A (call (.builtin "isinstance") [u,.type T]) Q E s:=by
 have r':=r.plain;have it:=λt=>h _ (I.tok t)
 cases d with
 |obj=>cases hd
 |exc=>cases hd
 |dic=>cases hd
 |non=>
  cases r';cases q;cases k<;>simp only[tyK]at hT<;>cases hT
  .exact IsiPair.NoneType_int (it _)
  .exact IsiPair.NoneType_bool (it _)
  .exact IsiPair.NoneType_str (it _)
  .exact IsiPair.NoneType_list (it _)
  .exact IsiPair.NoneType_tuple (it _)
 |bl b=>
  cases r';cases q;cases k<;>simp only[tyK]at hT<;>cases hT
  .exact IsiPair.bool_int (h _ I)
  .exact IsiPair.bool_bool (h _ I)
  .exact IsiPair.bool_str (it _)
  .exact IsiPair.bool_list (it _)
  .exact IsiPair.bool_tuple (it _)
 |int i=>
  cases r';obtain⟨t,rfl⟩:=q;cases k<;>simp only[tyK]at hT<;>cases hT
  .exact IsiPair.int_int (h _ I)
  .exact IsiPair.int_bool (it _)
  .exact IsiPair.int_str (it _)
  .exact IsiPair.int_list (it _)
  .exact IsiPair.int_tuple (it _)
 |str x=>
  cases r';obtain⟨t,rfl⟩:=q;cases k<;>simp only[tyK]at hT<;>cases hT
  .exact IsiPair.str_int (it _)
  .exact IsiPair.str_bool (it _)
  .exact IsiPair.str_str (h _ I)
  .exact IsiPair.str_list (it _)
  .exact IsiPair.str_tuple (it _)
 |tup ds=>
  obtain⟨p,xs,rfl,_,sq,rr⟩:=r';obtain⟨its,rv,pt,_⟩:=I.tuple sq;cases q;have pt':s.heap.IsTuple p its.toArray:=pt;cases k<;>simp only[tyK]at hT<;>cases hT
  .exact IsiPair.isTuple_int pt' (λ_ _ e=>e) (it _)
  .exact IsiPair.isTuple_bool pt' (λ_ _ e=>e) (it _)
  .exact IsiPair.isTuple_str pt' (λ_ _ e=>e) (it _)
  .exact IsiPair.isTuple_list pt' (λ_ _ e=>e) (it _)
  .exact IsiPair.isTuple_tuple pt' (λ_ _ e=>e) (h _ I)
 |lst ds=>
  obtain⟨p,xs,rfl,_,sq,rr⟩:=r';obtain⟨its,rv,pl,_⟩:=I.list sq;cases q;have pt':s.heap.IsList p its.toArray:=Kq pl;cases k<;>simp only[tyK]at hT<;>cases hT
  .exact IsiPair.isList_int pt' (λ_ _ e=>e) (it _)
  .exact IsiPair.isList_bool pt' (λ_ _ e=>e) (it _)
  .exact IsiPair.isList_str pt' (λ_ _ e=>e) (it _)
  .exact IsiPair.isList_list pt' (λ_ _ e=>e) (h _ I)
  .exact IsiPair.isList_tuple pt' (λ_ _ e=>e) (it _)
theorem YC{k:Ki}(hT:tyK k=Aa T)(p:AS Rp W H (Ej up [k] d) Q):O1 d=Ab/\AS Rp W H (.ok (.bl (kiD up k d))) Q:=by
 cases k<;>simp only[tyK]at hT<;>cases hT<;>cases d<;>first|exact p.elim|exact⟨rfl,by simpa using p⟩
theorem fE{k:Ki}{p2:AA}(hT:tyK k=Aa T)(hg:Gl X "isinstance")(hm:X.mg "isinstance" = Ae)(hg2:Gl X x)(hm2:X.mg x=Ae)(hv:CU x=Aa (.type T))(hn:x≠"__name__")(hdb:(x==("__debug__" : Ag))=Ad)(ha:ST X CL W a fa)(he:Ar [a,.Name x p2] X.env=(Ad,eval a X.env)::Ar [.Name x p2] X.env):SE X CL W (.Call (.Name "isinstance" p) [a,.Name x p2] [] pos) (λU=>(fa U).bind λx=>Ej up [k] x):=λA=>
 PE.weak (Ka (r:=λxs H Q=>∃ y d,xs=[y,.ty T]/\Cr X.K CL H A y d/\O1 d=Ab/\Q (.bl (kiD up k d)) H) (λpI s Y H xs us Q I r ⟨y,d,e,ry,hd,q⟩=>by
   subst e;obtain⟨u,w',rfl,r1,r2⟩:=Ks r;cases r2;exact kK I ry r1 hT hd λs' I'=>⟨.bl _,H,I',rfl,q⟩)
  hg hm E4 (DU (ha A) (DU (Si (v:=.ty T) hg2 hm2 hv rfl hn hdb) Fe rfl) he) (by decide) (by decide) he rfl) λY H Q ⟨hA,U,g,q⟩=>⟨hA,U,g,AS.bind q λd v H1 _ s1 r1 p1=>by
   obtain⟨hd,p2⟩:=YC hT p1;exact⟨v,d,rfl,r1,hd,p2 _ H1 (Ay.refl H1) rfl⟩⟩
theorem bQ{b:Ak}{A':AR}{E:Vq}{Q:Ak->Ao->Prop}(r:Rep X.K CL H A v d)(q:Bs v u)(h:F8 d=.ok b)(hq:Q b s):Aw (model prog w) A' (truthy u) Q E s:=by
 cases d with
 |non=>
  cases r;cases q;cases h;exact truthy_none hq
 |bl k=>
  cases r;cases q;cases h;exact Cv hq
 |int i=>
  cases r;obtain⟨t,rfl⟩:=q;cases h;exact truthy_int hq
 |_=>cases h
theorem Qh:∀{ds:Ac D}{b:Ak},GF ds=.ok b->(∀ j,j<ds.length->∃ c,F8 (ds.getD j .non)=.ok c)/\b=(Di ds.length).all λj=>match F8 (ds.getD j .non) with
  |.ok c=>c
  |_=>Ad
 |[],b,h=>by cases h;exact⟨λj hj=>absurd hj (Nat.not_lt_zero _),rfl⟩
 |d::ds,b,h=>by
  rw[N4]at h;cases e:F8 d with
  |bad=>rw[e]at h;cases h
  |exn x=>rw[e]at h;cases h
  |ok c=>
   rw[e,R.bind_ok]at h;cases e2:GF ds with
   |bad=>rw[e2]at h;cases h
   |exn x=>rw[e2]at h;cases h
   |ok c2=>
    rw[e2,R.bind_ok]at h;cases h;obtain⟨h1,h2⟩:=Qh e2;refine⟨λj hj=>?_,?_⟩
    .cases j with
     |zero=>exact⟨c,e⟩
     |succ j=>exact h1 j (by simpa using hj)
    .rw[Ba,Qg,h2];show (c&&_)=((match F8 d with | .ok c=>c|_=>Ad)&&_)
     rw[e];rfl
theorem eG{ds:Ac D}(r:Reps X.K CL H A0 xs ds)(rv:AW xs its){v:Aj}(h:its.toArray[j]?=Aa v):j<ds.length/\∃ x,Rep X.K CL H A0 x (ds.getD j .non)/\Bs x v:=by
 have h':its[j]?=Aa v:=by simpa using h
 obtain⟨hj,e⟩:=A9.mp h';obtain⟨x,rx,q⟩:=Ik r rv hj;have l1:=rv.length;have l2:=r.length
 exact⟨by omega,x,rx,by rw[<-e];exact q⟩
theorem pJ{o:C7}(k:∀ b q,b∉[h.objs.size]->(h.push o).get? b=Aa q->h'.get? b=Aa q):∀ b q,h.get? b=Aa q->h'.get? b=Aa q:=λb q e=>k b q (by
 intro z;have:=Br.mp z;rw[this]at e;exact absurd (AK e) (Bt _)) (Ax _ e)
theorem jK(hc:X.calm=Ab):KD X CL W (.builtin "all") (biD .all):=by
  intro A pI s Y H xs us Q I r ⟨hA,ds,rs,p⟩
  match ds,rs,p with
  |[.lst es],rs,p=>
    obtain⟨v,rfl,rv⟩:=rs.one;obtain⟨q,ys,e,_,sq,ry⟩:=rv.plain;subst e;obtain⟨u,rfl,ru⟩:=Je r;cases ru;rw[pQ]at p;cases e1:GF es with
    |bad=>rw[e1]at p;exact p.elim
    |exn x=>
      exfalso
      have:∀(es:Ac D) x,GF es≠.exn x:=by
        intro es
        induction es with
        |nil=>intro x h;cases h
        |cons d ds ih=>
          intro x h;rw[N4]at h;cases e:F8 d with
          |bad=>rw[e]at h;cases h
          |exn y=>cases d<;>cases e
          |ok c=>
            rw[e,R.bind_ok]at h;cases e2:GF ds with
            |bad=>rw[e2]at h;cases h
            |exn y=>exact ih y e2
            |ok c2=>rw[e2]at h;cases h
      exact this es x e1
    |ok b=>
      rw[e1,R.bind_ok]at p;obtain⟨h1,h2⟩:=Qh e1;obtain⟨its,rvv,pl,_⟩:=I.list sq;have hlt:q<s.heap.objs.size:=by obtain⟨o,n,e,_⟩:=pl;exact AK e
      have hl:its.toArray.size=es.length:=by rw[A6,<-rvv.length,ry.length]
      refine call_all_walk (GN (Kq pl) ⟨s.heap.objs.size,_,_,_,_,_,(λj=>match F8 (es.getD j .non) with | .ok c=>c|_=>Ad),rfl,Walks.list (A:=X.A.in1) (I.ok.hd hc) s.heap.objs.size q (Bp hlt) its.toArray,⟨⟨_,Be _ rfl,rfl,rfl⟩,(Kq pl).push _⟩,λj v s' Q' E' hv hQ=>?_,λh' tk k=>?_⟩)
      · obtain⟨hj,x,rx,qx⟩:=eG ry rvv hv;obtain⟨c,ec⟩:=h1 j hj;exact bQ rx qx ec (by dsimp only at hQ;rw[ec]at hQ;exact hQ)
      · rw[hl,<-h2];exact⟨.bl b,H,I.kept (pJ k),rfl,p _ H (Ay.refl H) rfl⟩
  |[],_,p=>exact p.elim
  |[.non],_,p=>exact p.elim
  |[.bl _],_,p=>exact p.elim
  |[.int _],_,p=>exact p.elim
  |[.str _],_,p=>exact p.elim
  |[.tup _],_,p=>exact p.elim
  |[.obj _ _],_,p=>exact p.elim
  |[.exc _ _],_,p=>exact p.elim
  |[.dic _],_,p=>exact p.elim
  |x::_::_,_,p=>cases x<;>exact p.elim
end
section
variable(K:Fg)(CL:ClA)
def pR(H0:Hp)(A:Ah->Prop)(H:Hp)(v:V)(d:D):Prop:=∀ ds,d=.lst ds->∃ a xs,v=.ref a/\H0 a=Ae/\H a=Aa (.lst xs)/\Reps K CL H (λb=>A b\/b=a) xs ds
def DN(fr:Ak)(H0:Hp)(A:Ah->Prop)(H:Hp)(v:V)(d:D):Prop:=Rep K CL H A v d/\(fr=Ab->pR K CL H0 A H v d)
end
section
variable{X:Cx}{CL:ClA}{W:XW}{a b c:Am}{fa fb fc:Rho->R D}{pos:AA}
def SC(X:Cx)(CL:ClA)(W:XW)(fr:Ak)(e:Am)(f:Rho->R D):Prop:=∀ A,PE X e (λY H Q=>AOk H A/\∃ U,Good X.K CL A U Y H/\AS (DN X.K CL fr H A) W H (f U) Q)
theorem SC.se{fr:Ak}(h:SC X CL W fr a fa):SE X CL W a fa:=λA=>PE.weak (h A) λY H Q ⟨hA,U,g,p⟩=>⟨hA,U,g,by
 cases e:fa U with
 |ok d=>rw[e]at p;exact λv H' s r=>p v H' s r.1
 |exn x=>rw[e]at p;exact p
 | bad=>rw[e]at p;exact p⟩
theorem SE.sc(h:SE X CL W a fa):SC X CL W Ad a fa:=λA=>PE.weak (h A) λY H Q ⟨hA,U,g,p⟩=>⟨hA,U,g,by
 cases e:fa U with
 |ok d=>rw[e]at p;exact λv H' s r=>p v H' s ⟨r,λz=>nomatch z⟩
 |exn x=>rw[e]at p;exact p
 | bad=>rw[e]at p;exact p⟩
theorem SC.congr{fr:Ak}{f g:Rho->R D}(h:SC X CL W fr a f)(e:∀ U,g U=f U):SC X CL W fr a g:=λA=>PE.weak (h A) λY H Q ⟨hA,U,q,p⟩=>⟨hA,U,q,by rw[<-e];exact p⟩
theorem Jy{p:Ah}{ds:Ac D}(s:Ay H0 H)(hA:AOk H A)(hp:H p=Ae)(r:Reps K CL H A xs ds):DN K CL Ab H0 A (upd H p (.lst xs)) (.ref p) (.lst ds):=
 ⟨Oq hA hp r,λ_ ds' e=>by
  cases e;exact⟨p,xs,rfl,s.free hp,C8,(Reps.wide (λa ha=>ha.imp id λe=>by rw[e];exact hp) _ r).same (ET hp _)⟩⟩
theorem aG{fr:Ak}(r:Rep K CL H A v d)(h:∀ ds,d≠.lst ds):DN K CL fr H0 A H v d:=⟨r,λ_ ds e=>absurd e (h ds)⟩
theorem OJ(hs:SA X CL W es fs)(hz:∀ U ds,fs U=.ok ds->ds.length<=100000):SC X CL W Ab (.List es pos) (λU=>(fs U).bind λxs=>.ok (.lst xs)):=
 λA=>PE.weak (S7 (hs A)) λY H Q ⟨hA,U,g,p⟩=>⟨hA,U,g,GH.bind p λds vs H1 e s1 r1 p1=>⟨by
  rw[r1.length,BZ];have:=hz U ds e;omega,λq hq=>p1 _ _ (ET hq _) (Jy s1 (hA.same s1) hq r1)⟩⟩
theorem AS.bindF{fr:Ak}{f:D->R D}{Q':VK}(h:AS (DN K CL fr H A) W H (r.bind f) Q)(k:∀ d v H',r=.ok d->Ay H H'->Rp H' v d->AS (DN K CL fr H A) W H' (f d) Q->Q' v H'):AS Rp W H r Q':=by
 cases r with
 |ok d=>exact λv H2 s2 q=>k d v H2 rfl s2 q (AS.same s2 h)
 |exn x=>exact h
 |bad=>exact h
theorem GH.bindF{Rp:Hp->Ac V->Ac D->Prop}{r:R (Ac D)}{f:Ac D->R D}{Q':Ac V->Hp->Prop}(h:AS Rq W H (r.bind f) Q)(k:∀ d v H',r=.ok d->Ay H H'->Rp H' v d->AS Rq W H' (f d) Q->Q' v H'):GH Rp W H r Q':=by
 cases r with
 |ok d=>exact λv H2 s2 q=>k d v H2 rfl s2 q (AS.same s2 h)
 |exn x=>exact h
 |bad=>exact h
theorem LC.bindF{r:R (An Ai)}{f:An Ai->R D}(h:AS Rq W H (r.bind f) Q)(k:∀ o H',r=.ok o->Ay H H'->AS Rq W H' (f o) Q->Q' o H'):LC W H r Q':=by
 cases r with
 |ok d=>exact λH2 s2=>k d H2 rfl s2 (AS.same s2 h)
 |exn x=>exact h
 |bad=>exact h
noncomputable def OpN(X:Cx)(CL:ClA)(W:XW)(f:Aj->Aj->F0 Aj)(g:D->D->R D):Prop:=
 ∀ A H0,OpR X f (λx y H Q=>Ay H0 H/\AOk H A/\∃ dx dy,Cr X.K CL H A x dx/\Cr X.K CL H A y dy/\AS (DN X.K CL Ab H0 A) W H (g dx dy) Q)
theorem dQ:OpN X CL W (B1 .Add) (CM .Add):=by
 intro A H0 pI s Y H x y v u Q I rx ry ⟨s0,hA,dx,dy,hx,hy,p⟩;have key:(∀ ds,dx≠.lst ds)->EP X pI Y Q=EP X pI Y Q->Aw (model X.prog X.w) X.A (B1 .Add v u) (EP X pI Y Q) X.xe s:=λhd _=>by
  refine Sj (W:=W) A pI s Y H x y v u Q I rx ry ⟨hA,dx,dy,hx,hy,?_⟩;cases e:CM .Add dx dy with
  |bad=>rw[e]at p;exact p
  |exn x=>rw[e]at p;exact p
  |ok d=>
   rw[e]at p;refine λv' H' s' r'=>p v' H' s' (aG r' λds z=>?_)
   subst z;cases dx with
   |lst ds=>exact hd _ rfl
   |tup xs=>
    cases dy with
    |tup ys=>rw[SX]at e;split at e<;>cases e
    |_=>cases e
   |str xs=>
    cases dy with
    |str ys=>rw[Il]at e;split at e<;>cases e
    |_=>cases e
   |int i=>cases dy<;>cases e
   |_=>cases e
 cases dx with
 |lst ds=>
  cases dy with
  |lst es=>
   obtain⟨a,xs,rfl,s1,r1⟩:=hx.lst_of;obtain⟨b,ys,rfl,s2,r2⟩:=hy.lst_of;simp only[TL]at p;split at p
   .rename_i h;refine Sk pI s Y H _ _ v u Q I rx ry ⟨a,b,xs,ys,rfl,rfl,s1,s2,by rw[r1.length,r2.length];exact J4 h,λq hq=>?_⟩
    exact p _ _ (ET hq _) (Jy s0 hA hq (r1.append r2))
   .exact p.elim
  |_=>exact p.elim
 |_=>exact key (by intro _ z;cases z) rfl
theorem fX(ha:ST X CL W a fa)(hb:ST X CL W b fb):SC X CL W Ab (.BinOp a .Add b pos) (λU=>(fa U).bind λx=>(fb U).bind λy=>CM .Add x y):=
 λA pI s Y H Q I h=>by
  obtain⟨hA,U,g,p⟩:=h;exact Ul (dQ (W:=W) A H) (ha A) (hb A) pI s Y H Q I ⟨hA,U,g,AS.bindF p λdx x H1 _ s1 r1 p1=>⟨hA.same s1,U,g.same s1,AS.bind (Rq:=DN X.K CL Ab H A) p1 λdy y H2 _ s2 r2 p2=>⟨s1.trans s2,(hA.same s1).same s2,dx,dy,r1.same s2,r2,p2⟩⟩⟩
def UE(X:Cx)(CL:ClA)(W:XW)(f:Aj)(g:Ac D->R D):Prop:=∀ A H0,Io X f (λxs H Q=>Ay H0 H/\AOk H A/\∃ ds,Gi X.K CL H A xs ds/\AS (DN X.K CL Ab H0 A) W H (g ds) Q)
theorem fA:UE X CL W (.type "list") (biD .list):=by
  intro A H0 pI s Y H xs us Q I r ⟨s0,hA,ds,rs,p⟩
  match ds,rs,p with
  |[.lst es],rs,p=>
    obtain⟨v,rfl,rv⟩:=rs.one;obtain⟨q,ys,rfl,sq,ry⟩:=rv.lst_of;exact Qo pI s Y H _ us Q I r ⟨q,ys,rfl,.inl sq,λl hl=>p _ _ (ET hl _) (Jy s0 hA hl ry)⟩
  |[.tup es],rs,p=>
    obtain⟨v,rfl,rv⟩:=rs.one;obtain⟨q,ys,rfl,_,sq,ry⟩:=rv.tup_of;exact Qo pI s Y H _ us Q I r ⟨q,ys,rfl,.inr sq,λl hl=>p _ _ (ET hl _) (Jy s0 hA hl ry)⟩
  |[],_,p=>exact p.elim
  |[.non],_,p=>exact p.elim
  |[.bl _],_,p=>exact p.elim
  |[.int _],_,p=>exact p.elim
  |[.str _],_,p=>exact p.elim
  |[.obj _ _],_,p=>exact p.elim
  |[.exc _ _],_,p=>exact p.elim
  |[.dic _],_,p=>exact p.elim
  |x::_::_,_,p=>cases x<;>exact p.elim
theorem fW{g:Ac D->R D}(hc:UE X CL W (.type T) g)(hg:Gl X x)(hm:X.mg x=Ae)(hv:CU x=Aa (.type T))(ha:SAT X CL W (e::es) fs)(hn:x≠"__name__")(hdb:(x==("__debug__" : Ag))=Ad)(he:Ar (e::es) X.env=(Ad,eval e X.env)::Ar es X.env)(hpl:∀ pos,(Bu pos (Ar es X.env)).any (·.1)=Ad):SC X CL W Ab (.Call (.Name x p) (e::es) [] pos) (λU=>(fs U).bind g):=λA pI s Y H Q I ⟨hA,U,gd,q⟩=>
 QW (hc A H) hg hm hv (ha A) hn hdb he (hpl _) pI s Y H Q I ⟨hA,U,gd,GH.bindF q λds vs H1 _ s1 r1 p1=>⟨s1,hA.same s1,ds,r1,p1⟩⟩
mutual
theorem MK{K:Fg}{H:Hp}{A:Ah->Prop}(hA:AOk H A):∀(n:Af)(d:D){v:V},nlD n d=Ab->Rep K CL H A0 v d->Rep K CL H A v d
 |_,.non,_,_,h=>h
 |_,.bl _,_,_,h=>h
 |_,.int _,_,_,h=>h
 |_,.str _,_,_,h=>h
 |0,.tup _,_,hn,_=>by cases hn
 |n+1,.tup ds,_,hn,h=>by
  obtain⟨a,xs,e,_,s,r⟩:=h;refine⟨a,xs,e,?_,s,nls_up hA n ds hn r⟩;rcases s with s|s
  .refine .inl λz=>?_
   obtain⟨ys,q⟩:=hA a z;rcases s with s|⟨o,s⟩<;>rw[q]at s<;>cases s
  .exact .inr s
 |n,.lst _,_,hn,_=>by cases n<;>cases hn
 |n,.obj _ _,_,hn,_=>by cases n<;>cases hn
 |n,.exc _ _,_,hn,_=>by cases n<;>cases hn
 |n,.dic _,_,hn,_=>by cases n<;>cases hn
theorem nls_up{K:Fg}{H:Hp}{A:Ah->Prop}(hA:AOk H A):∀(n:Af)(ds:Ac D){vs:Ac V},ds.all (nlD n)=Ab->Reps K CL H A0 vs ds->Reps K CL H A vs ds
 |_,[],[],_,h=>h
 |n,d::ds,_::_,hn,h=>by
  simp only[CZ,Al]at hn;exact⟨MK hA n d hn.1 h.1,nls_up hA n ds hn.2 h.2⟩
 |_,[],_::_,_,h=>h.elim
 |_,_::_,[],_,h=>h.elim
end
theorem SQ{fr:Ak}(hA0:AOk H0 A)(s:Ay H0 H)(hc:FP fr d=Ab)(r:DN K CL fr H0 A0 H v d):DN K CL fr H0 A H v d:=by
 have hA:=hA0.same s;cases d with
 |lst ds=>
  have hc':(fr&&ds.all (nlD 5))=Ab:=hc;rw[Al]at hc';obtain⟨a,xs,e,h0,h1,rs⟩:=r.2 hc'.1 ds rfl;have hA2:AOk H (λb=>A b\/b=a):=λb hb=>hb.elim (hA b) λe=>by rw[e];exact⟨xs,h1⟩
  have rs':=nls_up hA2 5 ds hc'.2 (Reps.sub (λ_ z=>z.elim) _ rs)
  refine⟨⟨a,xs,e,.inl (hA0.new h0),SqL.of h1,Reps.sub (λ_ z=>.inl z) _ rs'⟩,λ_ ds' e'=>?_⟩
  cases e';exact⟨a,xs,e,h0,h1,rs'⟩
 |_=>exact⟨MK hA 5 _ hc r.1,λ_ _ z=>nomatch z⟩
def spD(K:Fg)(CL:ClA)(n:Af)(fr:Ak)(F:Ac D->R D):Sp:=λvs H Q E=>∃(ds:Ac D)(A:Ah->Prop),vs.length=n/\AOk H A/\Reps K CL H A vs ds/\(match F ds with
  |.ok d=>∀ v H',Ay H H'->DN K CL fr H A H' v d->Q v H'
  |.exn x=>∀ cls dx H',Ay H H'->Eh K CL H' cls dx x->E cls dx H'
  | .bad=>AU)
def EKW(K:Fg)(CL:ClA)(A:Ah->Prop)(W:XW):XK:=λcls dx H'=>∃ x,Eh K CL H' cls dx x/\W x H'
theorem Gi.plain{K:Fg}{H:Hp}{A:Ah->Prop}:∀{vs:Ac V}{ds:Ac D},Gi K CL H A vs ds->Reps K CL H A0 vs ds
 |[],[],h=>trivial
 |_::_,_::_,h=>⟨h.1.plain,Gi.plain h.2⟩
 |[],_::_,h=>h.elim
 |_::_,[],h=>h.elim
theorem aA{CX:CXT}{fr:Ak}{f:Ah}{fd:Bv}{ps:Ac Ag}{F:Ac D->R D}{ft:Rho->R (Ac D)}{sh:Rho->Ak}(G:FnOk X.prog X.w X.K X.mg X.base CX k f fd ps (spD X.K CL n fr F))(hr:Room k X.A)(hg:Gl X x)(hm:X.mg x=Aa (.ref f))(hk:Bf X.K (.ref f)=Ab)(hb:DB X.K fd ps [])(hx:∀ A,HH CX X (EKW X.K CL A W))(ha:SA X CL W (e::es) fs)(hat:SAT X CL W (e::es) ft)(hst:∀ U,sh U=Ab->ft U=fs U)(hn:∀ U ds,ft U=.ok ds->ds.length=n)(hdb:(x==("__debug__" : Ag))=Ad)(he:Ar (e::es) X.env=(Ad,eval e X.env)::Ar es X.env)(hpl:∀ pos,(Bu pos (Ar es X.env)).any (·.1)=Ad):SC X CL W fr (.Call (.Name x p) (e::es) [] pos) (λU=>(ft U).bind λds=>(F ds).bind λd=>if sh U=Ab then .ok d else if FP fr d=Ab then .ok d else .bad):=λA pI s Y H Q I ⟨hA,U,gd,q⟩=>by
 dsimp only at q;by_cases hs:sh U=Ab
 .rw[hst U hs]at q;refine Sh G hr hg hm hk hb .nil (hx A) (ha A) hdb he (hpl _) pI s Y H Q I ⟨hA,U,gd,?_⟩;cases e1:fs U with
  |bad=>rw[e1]at q;exact q
  |exn y=>rw[e1]at q;exact q
  |ok ds=>
   rw[e1]at q;intro vs H1 s1 r1;refine⟨ds,A,by rw[BA,r1.length];exact hn U ds (by rw[hst U hs];exact e1),hA.same s1,by rw[BA];exact r1,?_⟩
   have q':AS (DN X.K CL fr H A) W H ((F ds).bind λd=>if sh U=Ab then .ok d else if FP fr d=Ab then .ok d else .bad) Q:=q
   cases e2:F ds with
   |ok d=>
    rw[e2,R.bind_ok,AC hs]at q';exact λv H2 s2 r2=>q' v H2 (s1.trans s2) ⟨r2.1,λz ds' e'=>let ⟨a,xs,z1,z2,z3⟩:=r2.2 z ds' e';⟨a,xs,z1,s1.free z2,z3⟩⟩
   |exn y=>rw[e2]at q';exact λcls dx H2 s2 xr=>⟨y,xr,q' H2 (s1.trans s2)⟩
   |bad=>rw[e2]at q';exact q'.elim
 .refine Sh G hr hg hm hk hb .nil (hx A0) (hat A) hdb he (hpl _) pI s Y H Q I ⟨hA,U,gd,?_⟩;cases e1:ft U with
  |bad=>rw[e1]at q;exact q
  |exn y=>rw[e1]at q;exact q
  |ok ds=>
   rw[e1]at q;intro vs H1 s1 r1;refine⟨ds,A0,by rw[BA,r1.plain.length];exact hn U ds e1,λ_ z=>z.elim,by rw[BA];exact r1.plain,?_⟩
   have q':AS (DN X.K CL fr H A) W H ((F ds).bind λd=>if sh U=Ab then .ok d else if FP fr d=Ab then .ok d else .bad) Q:=q
   cases e2:F ds with
   |ok d=>
    rw[e2,R.bind_ok,AJ hs]at q';split at q'
    .rename_i hc;exact λv H2 s2 r2=>q' v H2 (s1.trans s2) (SQ hA (s1.trans s2) hc ⟨r2.1,λz ds' e'=>let ⟨a,xs,z1,z2,z3⟩:=r2.2 z ds' e';⟨a,xs,z1,s1.free z2,z3⟩⟩)
    .exact q'.elim
   |exn y=>rw[e2]at q';exact λcls dx H2 s2 xr=>⟨y,xr,q' H2 (s1.trans s2)⟩
   |bad=>rw[e2]at q';exact q'.elim
end
theorem ND(env:Cc):∀(ns:Ac (Ag×D0))(acc:Ac (Ag×Ah)),(∀ x∈ns,x.2=.free->∃ c,env.cells.lookup x.1=Aa c)->(∀ x c,acc.lookup x=Aa c->env.cells.lookup x=Aa c) ->
  ∃ cl,(forIn ns acc fun(x:Ag×D0)(cs:Ac (Ag×Ah))=>(if (x.2==.free)=Ab then do let c <-cellOf env x.1;pure (D5 ((x.1,c)::cs)) else pure (D5 cs):F0 (ForInStep (Ac (Ag×Ah)))))=pure cl /\
   (∀ x c,cl.lookup x=Aa c->env.cells.lookup x=Aa c)/\(∀ x,((x,DJ)∈ns\/∃ c,acc.lookup x=Aa c)->∃ c,cl.lookup x=Aa c)
 |[],acc,_,h2=>⟨acc,by rw[VC],h2,λx hx=>hx.elim (λz=>nomatch z) id⟩
 |(n,k)::r,acc,h1,h2=>by
  rw[List.forIn_cons];by_cases hk:k=.free
  .subst hk;obtain⟨c,hc⟩:=h1 (n,.free) AO rfl;obtain⟨cl,e,p,q⟩:=ND env r ((n,c)::acc) (λx hx=>h1 x (AF _ hx)) (λx d hd=>by
    rw[Cb]at hd;split at hd
    .rename_i hx;cases hd;rw[eq_of_beq hx];exact hc
    .exact h2 x d hd)
   refine⟨cl,?_,p,λx hx=>q x ?_⟩
   .have e1:cellOf env n=pure c:=by unfold cellOf;dsimp only at hc;rw[hc]
    rw[AC (by rfl),e1]
    exact e
   .rcases hx with hx|⟨d,hd⟩
    .rcases AH.mp hx with z|z
     .cases z;exact .inr ⟨c,by simp[Cb]⟩
     .exact .inl z
    .by_cases hxn:x=n
     .exact .inr ⟨c,by subst hxn;simp[Cb]⟩
     .exact .inr ⟨d,by rw[Cb];rw[CP.mpr hxn];exact hd⟩
  .obtain⟨cl,e,p,q⟩:=ND env r acc (λx hx=>h1 x (AF _ hx)) h2
   refine⟨cl,?_,p,λx hx=>q x ?_⟩
   .rw[AJ (by simpa using hk)]
    exact e
   .rcases hx with hx|hx
    .rcases AH.mp hx with z|z
     .cases z;exact absurd rfl hk
     .exact .inl z
    .exact .inr hx
theorem NC(h:∀ x∈scope.names,x.2=.free->∃ c,env.cells.lookup x.1=Aa c):∃ cl,closureFor scope env=pure cl/\(∀ x c,cl.lookup x=Aa c->env.cells.lookup x=Aa c)/\∀ x,(x,DJ)∈scope.names->∃ c,cl.lookup x=Aa c:=by
 obtain⟨cl,e,p,q⟩:=ND env scope.names [] h (λx c z=>by simp at z)
 refine⟨cl,?_,p,λx hx=>q x (.inl hx)⟩
 unfold closureFor
 first
  |exact e
  |(simp only[bind_pure];exact e)
  |(rw[show (forIn scope.names ([]:Ac (Ag×Ah)) _:F0 _)=pure cl from e];rfl)
theorem NS:∀(names:Ac (Ag×D0))(h:AE)(acc:Ac (Ag×Ah))(x:Ag)(c:Ah),(CN h.objs.size names acc).lookup x=Aa c->acc.lookup x=Aa c\/((x,BH)∈names/\h.objs.size<=c/\(Gu h names).IsCell c Ae)
 |[],_,_,_,_,e=>.inl e
 |(n,k)::r,h,acc,x,c,e=>by
  unfold CN at e;unfold Gu;by_cases hk:(k==BH)=Ab
  .rw[AC hk]at e ⊢;have hs:h.objs.size+1=(h.push { cls:=.type "cell",data:=.cell Ae }).objs.size:=(Ds ..).symm;rw[hs]at e;rcases NS r _ _ x c e with q|⟨q1,q2,q3⟩
   .rw[Cb]at q;cases hx:x==n with
    |true=>
     rw[hx]at q;cases q;refine .inr ⟨?_,AN _,?_⟩
     .rw[eq_of_beq hx,eq_of_beq hk];exact AO
     .exact⟨_,Hv r _ _ _ (Be _ rfl),rfl⟩
    |false=>rw[hx]at q;exact .inl q
   .exact .inr ⟨AF _ q1,by omega,q3⟩
  .rw[AJ hk]at e ⊢;rcases NS r h acc x c e with q|⟨q1,q2,q3⟩
   .exact .inl q
   .exact .inr ⟨AF _ q1,q2,q3⟩
theorem NT:∀(names:Ac (Ag×D0))(h:AE)(acc:Ac (Ag×Ah)),(∀ x y c,acc.lookup x=Aa c->acc.lookup y=Aa c->x=y)->(∀ x c,acc.lookup x=Aa c->c<h.objs.size)->∀ x y c,(CN h.objs.size names acc).lookup x=Aa c->(CN h.objs.size names acc).lookup y=Aa c->x=y
 |[],_,_,i,_,x,y,c,e1,e2=>i x y c e1 e2
 |(n,k)::r,h,acc,i,b,x,y,c,e1,e2=>by
  unfold CN at e1 e2;by_cases hk:(k==BH)=Ab
  .rw[AC hk]at e1 e2;have hs:h.objs.size+1=(h.push { cls:=.type "cell",data:=.cell Ae }).objs.size:=(Ds ..).symm;rw[hs]at e1 e2;have look:∀ z d,BX z ((n,h.objs.size)::acc)=Aa d->(z=n/\d=h.objs.size)\/(z≠n/\acc.lookup z=Aa d):=λz d q=>by
    rw[Cb]at q;cases hx:z==n with
    |true=>rw[hx]at q;cases q;exact .inl ⟨eq_of_beq hx,rfl⟩
    |false=>rw[hx]at q;exact .inr ⟨λe=>by rw[e]at hx;simp at hx,q⟩
   refine NT r _ _ (λz z' d q q'=>?_) (λz d q=>?_) x y c e1 e2
   .rcases look z d q with ⟨rfl,q1⟩|⟨_,q1⟩<;>rcases look z' d q' with ⟨rfl,q2⟩|⟨_,q2⟩
    .rfl
    .exact absurd (b _ _ q2) (by rw[q1];exact Bt _)
    .exact absurd (b _ _ q1) (by rw[q2];exact Bt _)
    .exact i _ _ _ q1 q2
   .rw[<-hs];rcases look z d q with ⟨_,q1⟩|⟨_,q1⟩
    .rw[q1];exact Ez _
    .exact GK (b _ _ q1)
  .rw[AJ hk]at e1 e2;exact NT r h acc i b x y c e1 e2
theorem NE:∀(names:Ac (Ag×D0))(n:Af)(acc:Ac (Ag×Ah))(x:Ag),(x,BH)∉names->(CN n names acc).lookup x=acc.lookup x
 |[],_,_,_,_=>rfl
 |(m,k)::r,n,acc,x,hx=>by
  unfold CN;have hr:(x,BH)∉r:=λz=>hx (AF _ z)
  by_cases hk:(k==BH)=Ab
  .rw[AC hk,NE r _ _ x hr,Cb];cases q:x==m with
   |true=>exact absurd (by rw[eq_of_beq q,eq_of_beq hk];exact AO) hx
   |false=>rfl
  .rw[AJ hk];exact NE r n acc x hr
theorem NU(n0:Af):∀(names:Ac (Ag×D0))(n:Af)(acc:Ac (Ag×Ah))(x:Ag),n0<=n->((x,BH)∈names\/∃ c,acc.lookup x=Aa c/\n0<=c)->∃ c,(CN n names acc).lookup x=Aa c/\n0<=c
 |[],_,_,_,_,h=>h.elim (λz=>nomatch z) id
 |(m,k)::r,n,acc,x,hn,h=>by
  unfold CN;by_cases hk:(k==BH)=Ab
  .rw[AC hk];refine NU n0 r _ _ x (by omega) ?_
   by_cases hx:(x==m)=Ab
   .exact .inr ⟨n,by rw[Cb,hx],hn⟩
   .rcases h with h|⟨c,h,hc⟩
    .rcases AH.mp h with z|z
     .cases z;simp at hx
     .exact .inl z
    .exact .inr ⟨c,by rw[Cb];simp only[hx];exact h,hc⟩
  .rw[AJ hk];refine NU n0 r _ _ x hn (h.imp (λh=>?_) id)
   rcases AH.mp h with z|z
   .cases z;simp at hk
   .exact z
theorem XN{M:FZ}{A:AR}{E:Vq}{globals:Ah}{qual:Ag}{Q:Cc->Ao->Prop}(hQ:Q (newEnv scope s.heap.objs.size globals (CN (s.heap.objs.size+1) scope.names cl) qual Ae .none (Aa env) HY) { s with heap:=Gu (s.heap.push { cls:=.type "dict",data:=.dict #[] }) scope.names }):Aw M A (HS scope globals cl [] qual Ae .none (Aa env)) Q E s:=by
 simp only[HS,Option.isSome_some,GU];refine As (wpAny_alloc ?_);refine As (wpAny_layCells _ (λname kind cells=>by cases hkc:kind==BH<;>simp[hkc]) _ _ _ _ ?_)
 rw[show ({ s with heap:=s.heap.push { cls:=.type "dict",data:=.dict #[] } }:Ao).heap.objs.size=s.heap.objs.size+1 from Ds ..]
 rw[VC];exact As (Bi (Bi hQ))
noncomputable def cxC(X:Cx)(scope:BK)(cl:Ac (Ag×Ah))(C:Ah)(N':Ac Ag)(s₀:Ao)(H₀:Hp)(fp:Ac Ah):Cx where
 prog:=X.prog
 w:=X.w
 K:=X.K
 mg:=X.mg
 base:=X.base
 A:=X.A
 N:=N'
 s₀:=s₀
 H₀:=H₀
 env:=Ge scope cl C X.env
 outer:=X.stack
 stack:=X.stack
 ex:=fp
 fn:=λx=>scope.names.lookup x==Aa BH
 calm:=X.calm
 pn:=[]
 xe:=λ_ _=>AU
theorem LQ{env:Cc}:∀{names:Ac (Ag×D0)}{x:Ag}{k:D0},(names.map λ(n,k)=>if (k==DJ&&env.scope.kind==.function&&env.kindOf n==Aa .cell) then (n,BH) else (n,k)).lookup x=Aa k->names.lookup x=Aa k\/(k=.cell/\names.lookup x=Aa .free)
 |[],_,_,h=>by simp at h
 |(n,j)::r,x,k,h=>by
  have ih:=@LQ env r x k;have h':BX x ((if (j==DJ&&env.scope.kind==.function&&env.kindOf n==Aa .cell)=Ab then (n,BH) else (n,j))::(r.map λ(n,k)=>if (k==DJ&&env.scope.kind==.function&&env.kindOf n==Aa .cell) then (n,BH) else (n,k)))=Aa k:=h
  by_cases hc:(j==DJ&&env.scope.kind==.function&&env.kindOf n==Aa .cell)=Ab
  .rw[AC hc]at h';rw[Cb]at h' ⊢;cases hx:x==n with
   |true=>
    rw[hx]at h';cases h';simp only[Al]at hc;exact .inr ⟨rfl,by rw[eq_of_beq hc.1.1]⟩
   |false=>rw[hx]at h';exact ih h'
  .rw[AJ hc]at h';rw[Cb]at h' ⊢;cases hx:x==n with
   |true=>rw[hx]at h';exact .inl h'
   |false=>rw[hx]at h';exact ih h'
structure BlockOk (X:Cx) (scope:BK) (N':Ac Ag) (ts:Ac Af):Prop where
 kind:scope.kind=.function
 uniq:∀ y∈scope.names,scope.names.lookup y.1=Aa y.2
 names:∀ y∈scope.names,y.2=.local->scope.names.lookup y.1=Aa .local
 free:∀ y∈scope.names,y.2=.free->X.env.scope.names.lookup y.1=Aa .cell\/X.env.scope.names.lookup y.1=Aa .free
 len:N'.length=X.N.length
 same:∀ i x,N'[i]?=Aa x->scope.names.lookup x=Aa .free->i∉ts->X.N[i]?=Aa x
 loc:∀ i x,N'[i]?=Aa x->(scope.names.lookup x=Aa .local\/scope.names.lookup x=Aa .cell)->i∈ts
structure BCells (X:Cx) (scope:BK) (cl:Ac (Ag×Ah)) (C:Ah) (h:AE):Prop where
 own:∀ x c,cl.lookup x=Aa c->X.env.cells.lookup x=Aa c\/(scope.names.lookup x=Aa .cell/\C<c/\h.IsCell c Ae)
 inj:∀ x y c,cl.lookup x=Aa c->cl.lookup y=Aa c->x=y
 has:∀ x,scope.names.lookup x=Aa .cell->∃ c,cl.lookup x=Aa c/\C<c
 fr:∀ x,(x,DJ)∈scope.names->∃ c,cl.lookup x=Aa c/\X.env.cells.lookup x=Aa c
section
variable{X:Cx}{pI:Pn}{Y:L2.St}{H:Hp}{s:Ao}
noncomputable def hideT(ts:Ac Af)(Y:L2.St):L2.St:=ts.foldl (λY t=>Y.set t Ae) Y
theorem N1:∀(ts:Ac Af)(Y:L2.St),(hideT ts Y).length=Y.length
 |[],_=>rfl
 |t::ts,Y=>by show (hideT ts (Y.set t Ae)).length=_;rw[N1 ts,AM]
theorem QC:∀(ts:Ac Af)(Y:L2.St){i:Af}{v:V},(hideT ts Y)[i]?=Aa (Aa v)->Y[i]?=Aa (Aa v)/\i∉ts
 |[],_,_,_,h=>⟨h,by simp⟩
 |t::ts,Y,i,v,h=>by
  obtain⟨h1,h2⟩:=QC ts (Y.set t Ae) (i:=i) (v:=v) h;by_cases e:t=i
  .subst e;have:=ES h1;cases this
  .rw[By e]at h1;exact⟨h1,by simp only[AH,Gv];exact⟨λz=>e z.symm,h2⟩⟩
theorem X7{tk:Af}{C:Ah}{m:Ag->An Aj}(I:Inv X pI Y H s)(B:BlockOk X scope N' ts)(hf:∀ b∈fp,Gp X pI H b)(hfo:∀ b∈fp,b<s.heap.objs.size)(hb:BCells X scope cl C h')(hk:∀ b o,s.heap.get? b=Aa o->h'.get? b=Aa o)(hC:s.heap.objs.size<=C)(hn:h'.Ns C m):Inv (cxC X scope cl C N' s H fp) [] (hideT ts Y) H {s with heap:=h',toks:=tk}:=by
 have stf:∀ b∈fp,b∉frs X.stack:=λb hb z=>by
  rcases AH.mp (I.stkSub b z) with e|e
  .exact(hf b hb).2.1 e
  .exact(hf b hb).2.2.1 e
 have frOf:∀ x,((relabel scope X.env).names.lookup x=Aa .cell\/(relabel scope X.env).names.lookup x=Aa .free)->scope.names.lookup x=Aa .free\/scope.names.lookup x=Aa .cell:=λx hx=>by
  rcases hx with z|z
  .rcases LQ z with z|⟨_,z⟩
   .exact .inr z
   .exact .inl z
  .rcases LQ z with z|⟨z,_⟩
   .exact .inl z
   .cases z
 have gtC:∀ c:Ah,C<c->s.heap.objs.size<=c:=λc z=>Cp hC (FX z)
 have cellK:∀ c v,s.heap.IsCell c v->h'.IsCell c v:=λc v ⟨o,ho,hd⟩=>⟨o,hk _ _ ho,hd⟩
 refine⟨⟨I.ok.mod,B.kind,I.ok.glob,I.ok.blt,hC,hb.inj,λx hx=>?_,λx c h e=>?_,I.ok.hd,I.ok.frames,.inl rfl,λb hbb=>⟨?_,λx c e=>?_⟩,I.bs,Cp I.ok.bsz I.sz,λb o e hbb=>?_,stf,I.stack,I.stkFree⟩,rfl,I.bare,Un.kept hk,⟨m,hn,λi x v h1 h2 h3=>?_⟩,λx c e=>?_,I.hok.fresh hC,λx c e=>(hb.own x c e).elim (I.freeC x c) (λz=>I.hok.fresh (gtC c z.2.1)),λp hp=>absurd (show p∈([]:Pn) from hp) (by simp),I.hok.kept hk,?_⟩
 .rcases frOf x hx with z|z
  .obtain⟨c,q,_⟩:=hb.fr x (Cw z);exact⟨c,q⟩
  .obtain⟨c,q,_⟩:=hb.has x z;exact⟨c,q⟩
 .obtain⟨c',q,z⟩:=hb.has x (eq_of_beq h);have e':cl.lookup x=Aa c:=e;rw[q]at e';cases e';exact gtC _ z
 .intro z;have z':b=C:=z;have:=hfo b hbb;rw[z']at this;exact absurd (AI this hC) (Bt _)
 .rcases hb.own x c e with z|z
  .exact(hf b hbb).2.2.2.2.1 x c z
  .intro q;have:=hfo b hbb;have:=gtC c z.2.1;rw[q]at this;exact absurd ‹b<_› (VP.mpr this)
 .rcases (hf b hbb).2.2.2.1 with z|z
  .exact I.ok.noex b o e z
  .exact absurd (AI (AK e) (Cp I.ok.bsz z)) (Bt _)
 .obtain⟨h2,hts⟩:=QC ts Y h2;have h3':(relabel scope X.env).names.lookup x=Aa .local\/(relabel scope X.env).names.lookup x=Aa .cell\/(relabel scope X.env).names.lookup x=Aa .free:=h3;have h1':N'[i]?=Aa x:=h1;rcases h3' with z|z
  .rcases LQ z with z|⟨z,_⟩
   .exact absurd (B.loc i x h1' (.inl z)) hts
   .cases z
  .have fr:=(frOf x z).resolve_right λq=>hts (B.loc i x h1' (.inr q))
   have hm:=Cw fr;have hX:=B.same i x h1' fr hts;obtain⟨m0,hn0,hl0⟩:=I.loc;obtain⟨u,ru,lk⟩:=hl0 i x v hX h2 (by
    rcases B.free _ hm rfl with q|q
    .exact .inr (.inl q)
    .exact .inr (.inr q))
   refine⟨u,ru,?_⟩;obtain⟨c,hc,hcX⟩:=hb.fr x hm;rcases lk with ⟨q,_⟩|⟨_,c',hc',hcell⟩
   .have q':X.env.scope.names.lookup x=Aa .local:=q;rcases B.free _ hm rfl with p|p
    .rw[show X.env.scope.names.lookup x=_ from p]at q';cases q'
    .rw[show X.env.scope.names.lookup x=_ from p]at q';cases q'
   .have e:=hcX;rw[hc']at e;cases e;exact .inr ⟨z,c,hc,cellK _ _ hcell⟩
 .rcases hb.own x c e with z|z
  .obtain⟨v,q⟩:=I.cell x c z;exact⟨v,cellK _ _ q⟩
  .exact⟨_,z.2.2⟩
 .show (hideT ts Y).length=N'.length;rw[N1,I.len,B.len]
theorem NW{C D:Ah}{s':Ao}{Y':L2.St}{pins':Pn}{h'':AE}(I:Inv X pI Y H s)(hf:∀ b∈fp,Gp X pI H b)(I':Inv (cxC X scope cl C N' s H fp) pins' Y' H' s')(hD:s.heap.objs.size<=D)(hDC:D≠C)(hC:s.heap.objs.size<=C)(hd:s'.heap.get? D=Aa { cls:=.type "list",data:=.seq ys.toArray n })(hDn:H' D=Ae)(rv:AW xs ys)(hz:xs.length<=sizeLine)(hs:Eo C s'.heap h''):Inv X pI Y (upd H' D (.lst xs)) {s' with heap:=h''}:=by
  have u:Un (frs X.stack) fp H H' s.heap s'.heap:=I'.base;have lt:∀ b o,s.heap.get? b=Aa o->b≠C/\b≠D:=λb o e=>⟨λz=>absurd (AI (AK e) (z ▸ hC)) (Bt _),λz=>absurd (AI (AK e) (z ▸ hD)) (Bt _)⟩
  have HD:H D=Ae:=I.hok.fresh hD;have hCn:H' C=Ae:=I'.free;have kb:∀ b o,b≠C->s'.heap.get? b=Aa o->h''.get? b=Aa o:=λb o hb e=>(hs.2 b hb).trans e
  have u2:Un (frs X.stack) fp H (upd H' D (.lst xs)) s.heap h'':=⟨λb o e q hb hx=>kb b o (lt b o e).1 (u.keep b o e q hb hx),λb o e q hb hx=>by
      obtain⟨sl,e1⟩:=u.slot b o e q hb hx;exact⟨sl,kb b _ (lt b o e).1 e1⟩,λb o e q hx=>by rw[Bb (lt b o e).2];exact u.free b o e q hx,λb o e hx=>by
      obtain⟨o',e1⟩:=u.there b o e hx;exact⟨o',kb b _ (lt b o e).1 e1⟩,λb zs q=>by rw[Bb (FA q HD)];exact u.tups b zs q,λb o zs q=>by rw[Bb (FA q HD)];exact u.frzs b o zs q,λb ps q=>by rw[Bb (FA q HD)];exact u.tbls b ps q⟩
  have hok:HOk X.prog X.w (upd H' D (.lst xs)) h'':=λb o e=>by
    by_cases hb:b=D
    · subst hb;rw[C8]at e;cases e;exact⟨hz,ys,n,rv,kb _ _ hDC hd⟩
    · rw[Bb hb]at e;refine(I'.hok b o e).stay (λc v hc q=>kb c v ?_ q) (λc q=>by rw[Bb (FA q hDn)];exact q) λc zs q=>by rw[Bb (FA q hDn)];exact q
      rcases hc with rfl|hc
      · exact FA e hCn
      · exact FA hc hCn
  exact I.call' (s':={s' with heap:=h''}) (ch:=fp) I'.os u2 hok I'.bare λb hb=>⟨(hf b hb).2.2.2.1,(hf b hb).2.1,(hf b hb).2.2.2.2.1,(hf b hb).2.2.2.2.2⟩
end
def PTs(X:Cx)(ifs:Ac Am)(tt:TT):Prop:=∀(pI:Pn)(s:Ao)(Y:L2.St)(H:Hp)(Q:Ak->Hp->Prop),Inv X pI Y H s->tt Y H Q ->
 Aw (model X.prog X.w) X.A (forIn ifs Ab λc r=>if r=Ab then do let ok <-HQ c X.env (eval c X.env);pure (D5 ok) else pure (D5 r)) (TP X pI Y Q) X.xe s
theorem dE:PTs X [] (λY H Q=>Q Ab H):=λpI s Y H Q I h=>wpAny_tests_nil ⟨H,I,h⟩
theorem dD{t:TT}(h:PT X c t):PTs X [c] t:=λpI s Y H Q I q=>wpAny_tests_one (h pI s Y H Q I q)
theorem Yt{D:Ah}{y:Aj}{E:Vq}{Q:Vq}(I:Inv X ((D,{ cls:=.type "list",data:=.seq ys.toArray n })::pI) Y H s)(hD:X.s₀.heap.objs.size<=D)(hp:∀ p∈X.pn++pI,p.1≠D)(hc:∀ x c,X.env.cells.lookup x=Aa c->c≠D)(hz:ys.length<=sizeLine)(h:∀ s',Inv X ((D,{ cls:=.type "list",data:=.seq (ys++[y]).toArray (n+1) })::pI) Y H s'->(∀ b o,b≠D->s.heap.get? b=Aa o->s'.heap.get? b=Aa o)->Q .none s'):Aw (model X.prog X.w) X.A (call (.builtin "list.append") [.ref D,y]) Q E s:=by
 obtain⟨e,hn,hL,hfs,_⟩:=I.pin (D,{ cls:=.type "list",data:=.seq ys.toArray n }) (Bh _ AO);refine append_at (hsz:=by rw[A6];exact hz) e λh' hs hd=>?_
 have hd':h'.get? D=Aa { cls:=.type "list",data:=.seq (ys++[y]).toArray (n+1) }:=by rw[hd];simp
 have kb:∀ b o,b≠D->s.heap.get? b=Aa o->h'.get? b=Aa o:=λb o hb q=>(hs.2 b hb).trans q
 have I0:Inv X pI Y H s:=I.pins_of λp hp=>I.pin p (Bh _ (AF _ hp))
 have I1:Inv X pI Y H {s with heap:=h'}:=I0.turned (t':=s.toks) kb hn hL (.inr hD) hc hp
 refine h _ (I1.pins_of λp hp=>?_) kb
 rcases AH.mp hp with rfl|hp
 .exact⟨hd',hn,hL,hfs,λv z=>by
   have z':KS _ _=KO v:=z;cases z'⟩
 .exact I1.pin p (Bh _ hp)
section
variable{prog:AL}{w:Az}{A:AR}{R:G1->Ao->Prop}{s:Ao}
theorem X4{target:Am}{it acc:Aj}(I:Af->Ao->Prop)(turn:∀ n s,I n s->Aw (model prog w) A (pyNext it) (λr s₁=>match r with
      |none=>R (.ok .next) s₁
      | some v=>Aw (model prog w) A (F2 target it v) (λ_ s₁'=>Aw (model prog w) A (assign target env v) (λ_ s₂=>
          Aw (model prog w) A (forIn ifs Ab λc r=>if r=Ab then do let ok <-HQ c env (eval c env);pure (D5 ok) else pure (D5 r)) (λok s₃=>
            if ok=Ab then Aw (model prog w) A (eval elt env) (λx s₄=>
              Aw (model prog w) A (call (.builtin "list.append") [acc,x]) (λ_ s₅=>∃ m,m<n/\I m s₅) (Gf (model prog w) A env λe s'=>R (.error e) s') s₄) (Gf (model prog w) A env λe s'=>R (.error e) s') s₃
            else ∃ m,m<n/\I m s₃) (Gf (model prog w) A env λe s'=>R (.error e) s') s₂) (Gf (model prog w) A env λe s'=>R (.error e) s') s₁') (Gf (model prog w) A env λe s'=>R (.error e) s') s₁) (Gf (model prog w) A env λe s'=>R (.error e) s') s)(n:Af)(h:I n s):Ep (model prog w) A (.compLoop (.ListComp elt [⟨target,iter,ifs,0⟩] scope pos) 0 it acc env) R s:=by
  refine codeAny_loop rfl I (λn s hI=>?_) n h
  show Aw _ A ((compTurn (.ListComp elt [⟨target,iter,ifs,0⟩] scope pos) 0 it acc env).onRaise (λx=>do DX x env;theTreesLotGoes x)) _ _ s
  refine wpAny_noted ?_;rw[compTurn_list];refine As (DK (As (A5 (turn n s hI) (λr s₁ h₁=>?_) λ_ _ h'=>h')))
  cases r with
  |none=>exact Bi h₁
  |some v=>
    refine As (A5 h₁ (λ_ s₁' h₁'=>?_) λ_ _ h'=>h')
    refine As (A5 h₁' (λ_ s₂ h₂=>As (A5 h₂ (λok s₃ h₃=>?_) λ_ _ h'=>h')) λ_ _ h'=>h')
    cases ok with
    |false=>exact Bi ⟨rfl,h₃⟩
    |true=>
      exact As (As (A5 h₃ (λx s₄ h₄=>As (A5 h₄ (λ_ s₅ h₅=>Bi (Bi ⟨rfl,h₅⟩)) λ_ _ h'=>h')) λ_ _ h'=>h'))
end
def IZ(J:It)(ts:Ac Af)(g:TG)(tt:TT)(te:TE)(Y:L2.St)(H:Hp)(Q:VK):Prop:=∃ W:Af->Af->Ac V->L2.St->Hp->Prop,(∃ m,W 0 m [] (hideT ts Y) H)/\∀ i m xs Y H,W i m xs Y H ->
 (J.stop i H/\∀ p,H p=Ae->Q (.ref p) (upd H p (.lst xs))) \/
 (J.go i H/\xs.length<sizeLine/\∀ x H',J.yld i H x H'->g x Y H' λY2 H2=>tt Y2 H2 λb H3=>if b=Ab then te Y2 H3 λy H4=>∃ m',m'<m/\W (i+1) m' (xs++[y]) Y2 H4 else ∃ m',m'<m/\W (i+1) m' xs Y2 H3)
theorem N5{g:TG}{it:Ah}{tn:Af->AE->Prop}{E:Vq}{RR:Aj->Ah->G1->Ao->Prop}(hc:X.calm=Ab)(B:BlockOk X scope N' ts)(I:Inv X pI Y H s)(T:Turn X.prog X.w X.K tg J fp it tn)(st:tn 0 s.heap)(hf:∀ b∈fp,Gp X pI H b)(hcl:∀ x c,cl.lookup x=Aa c->X.env.cells.lookup x=Aa c)(hcl2:∀ x,(x,DJ)∈scope.names->∃ c,cl.lookup x=Aa c)(hg:∀ cl C s H,PG (cxC X scope cl C N' s H fp) tg g)(ht:∀ cl C s H,PTs (cxC X scope cl C N' s H fp) ifs tt)(he:∀ cl' C D pl Y' H' s' (Q':VK),s.heap.objs.size<=C->Inv (cxC X scope cl' C N' s H fp) pl Y' H' s'->(∀ b∈fp,∃ o,(b,o)∈pl)->te Y' H' Q'->Aw (model X.prog X.w) X.A (eval elt (Ge scope cl' C X.env)) (EP (cxC X scope cl' C N' s H fp) pl Y' Q') (Gf (model X.prog X.w) X.A (Ge scope cl' C X.env) λe s''=>RR (.ref D) C (.error e) s'') s')(h:IZ J ts g tt te Y H Q)(hRR:∀ cl D C s' H' Y' pins' xs ys n m,Inv (cxC X scope cl C N' s H fp) pins' Y' H' s'->s'.heap.get? D=Aa { cls:=.type "list",data:=.seq (E9 ys) n }->H' D=Ae->AW xs ys->xs.length<=sizeLine->s.heap.objs.size<=D->D≠C->s.heap.objs.size<=C->s'.heap.Ns C m->Q (.ref D) (upd H' D (.lst xs))->RR (.ref D) C (.ok .next) s'):Aw (model X.prog X.w) X.A (newList []) (λacc s₃=>Aw (model X.prog X.w) X.A (HS scope X.env.globals cl [] X.env.qual Ae .none (Aa X.env)) (λcenv s₄=>Ep (model X.prog X.w) X.A (.compStart (.ListComp elt [⟨tg,iter,ifs,0⟩] scope pos) 0 (.ref it) acc {cenv with scope:=relabel scope X.env}) (RR acc cenv.locals) s₄) E s₃) E s:=by
 refine Fv (XN ?_);dsimp only;generalize hH2:s.heap.push { cls:=.type "list",dict:=Ae,data:=.seq ([]:Ac Aj).toArray }=H2;have hns₁:(Gu (H2.push { cls:=.type "dict",data:=.dict #[] }) scope.names).Ns H2.objs.size (λ_=>Ae):=(Heap.Ns.new H2 (.type "dict")).keeps (Hv _ _)
 have hkp₁:∀ b o,H2.get? b=Aa o->(Gu (H2.push { cls:=.type "dict",data:=.dict #[] }) scope.names).get? b=Aa o:=λb o e=>Hv _ _ b o (Ax _ e)
 have hown:=NS scope.names (H2.push { cls:=.type "dict",data:=.dict #[] }) cl;have hinj:=NT scope.names (H2.push { cls:=.type "dict",data:=.dict #[] }) cl;rw[Ds]at hown hinj;generalize hcl':CN (H2.objs.size+1) scope.names cl=cl' at hown hinj;have hcf:∀ x,(x,BH)∉scope.names->cl'.lookup x=cl.lookup x:=λx hx=>by rw[<-hcl'];exact NE _ _ _ x hx
 have hch:∀ x,(x,BH)∈scope.names->∃ c,cl'.lookup x=Aa c/\H2.objs.size+1<=c:=λx hx=>by rw[<-hcl'];exact NU _ _ _ _ x (AN _) (.inl hx)
 generalize hh₁:Gu (H2.push { cls:=.type "dict",data:=.dict #[] }) scope.names=h₁ at hns₁ hkp₁ hown;have hC:H2.objs.size=s.heap.objs.size+1:=by rw[<-hH2,Ds]
 have hCle:s.heap.objs.size<=H2.objs.size:=by rw[hC];exact Hw _
 have hDC:s.heap.objs.size≠H2.objs.size:=by rw[hC];exact Bp (Ez _)
 have below:∀ b,b<s.heap.objs.size->b≠H2.objs.size:=λb hb=>by rw[hC];exact Bp (GK hb)
 have old:∀ b o,s.heap.get? b=Aa o->h₁.get? b=Aa o:=λb o e=>hkp₁ b o (hH2 ▸ Ax _ e)
 have hacc:h₁.get? s.heap.objs.size=Aa { cls:=.type "list",data:=.seq ([]:Ac Aj).toArray 0 }:=hkp₁ _ _ (hH2 ▸ Be _ rfl);have clt:∀ x c,cl.lookup x=Aa c->c<s.heap.objs.size:=λx c e=>by
  obtain⟨v,q⟩:=I.cell x c (hcl x c e);exact q.lt
 have bc:BCells X scope cl' H2.objs.size h₁:=by
  refine⟨λx c e=>?_,hinj (λx y c e1 e2=>I.ok.inj x y c (hcl x c e1) (hcl y c e2)) (λx c e=>GK (AI (clt x c e) hCle)),λx hx=>?_,λx hx=>?_⟩
  .rcases hown x c e with q|⟨q1,q2,q3⟩
   .exact .inl (hcl x c q)
   .exact .inr ⟨B.uniq _ q1,q2,q3⟩
  .have hm:=Cw hx;obtain⟨c,e,hc⟩:=hch x hm;exact⟨c,e,hc⟩
  .have hno:(x,BH)∉scope.names:=λz=>by
    have e1:=B.uniq _ hx;have e2:=B.uniq _ z;rw[show scope.names.lookup x=_ from e1]at e2
    cases e2
   obtain⟨c,e⟩:=hcl2 x hx;exact⟨c,by rw[hcf x hno];exact e,hcl x c e⟩
 have hfo:∀ b∈fp,b<s.heap.objs.size:=λb hb=>by
  obtain⟨o,e,_⟩:=T.obj 0 _ st b hb;exact AK e
 generalize hD:s.heap.objs.size=D at *;generalize hC':H2.objs.size=C at *;have I0:Inv (cxC X scope cl' C N' s H fp) [] (hideT ts Y) H {s with heap:=h₁,toks:=s.toks+([]:Ac (Ag×Aj)).length}:=X7 (tk:=s.toks+([]:Ac (Ag×Aj)).length) I B hf (λb hb=>by rw[hD];exact hfo b hb) bc old (by rw[hD];exact hCle) hns₁
 have nD:H D=Ae:=I.hok.fresh (by rw[hD];exact AN _)
 have noD:∀ b∈fp,b≠D:=λb hb=>Bp (hfo b hb)
 have noC:∀ b∈fp,b≠C:=λb hb=>below b (hfo b hb)
 have stfs:D∉frs X.stack:=λz=>by
  obtain⟨_,o,ho,_⟩:=I.stack.mem z;exact absurd (AK ho) (by rw[hD];exact Bt _)
 have cD:∀ x c,cl'.lookup x=Aa c->c≠D:=λx c e z=>by
  rcases bc.own x c e with q|⟨_,q,_⟩
  .obtain⟨v,q⟩:=I.cell x c q;exact absurd q.lt (by rw[z,hD];exact Bt _)
  .rw[z]at q;exact absurd (AI q hCle) (Bt _)
 have I1:Inv (cxC X scope cl' C N' s H fp) [(D,{ cls:=.type "list",data:=.seq ([]:Ac Aj).toArray 0 })] (hideT ts Y) H {s with heap:=h₁,toks:=s.toks+([]:Ac (Ag×Aj)).length}:=I0.pins_of λp hp=>by
  have e:=Br.mp hp;subst e;exact⟨hacc,nD,hDC,stfs,λv z=>by
   have z':KS _ _=KO v:=z;cases z'⟩
 have st1:tn 0 h₁:=T.keep _ _ _ st λb _ o e=>old b o e
 obtain⟨W,⟨m0,w0⟩,turn⟩:=h;have fpk:∀{pl:Pn}{H':Hp},(∀ p∈pl,p.1=D)->(∀ b∈fp,H' b=Ae)->∀ b∈fp,Gp (cxC X scope cl' C N' s H fp) pl H' b:=λ{pl H'} hp hn b hb=>
  ⟨hn b hb,noC b hb,λz=>by
   rcases AH.mp (I.stkSub b z) with e|e
   .exact(hf b hb).2.1 e
   .exact(hf b hb).2.2.1 e,.inl hb,λx c e=>(bc.own x c e).elim ((hf b hb).2.2.2.2.1 x c) (λz q=>absurd (D6 hCle z.2.1) (VP.mpr (by rw[q];exact FX (hfo b hb)))),λp hp'=>by
   have hp2:p∈pl:=hp';rw[hp p hp2];exact(noD b hb).symm⟩
 have loop:∀ s₃:Ao,s₃={s with heap:=h₁,toks:=s.toks+([]:Ac (Ag×Aj)).length} ->
   Ep (model X.prog X.w) X.A (.compLoop (.ListComp elt [⟨tg,iter,ifs,0⟩] scope pos) 0 (.ref it) (.ref D) (Ge scope cl' C X.env)) (RR (.ref D) C) s₃:=by
  rintro s₃ rfl;refine X4 (λk s'=>∃ i Y' H' xs ys n,Inv (cxC X scope cl' C N' s H fp) [(D,{ cls:=.type "list",data:=.seq (E9 ys) n })] Y' H' s'/\tn i s'.heap/\(∀ b∈fp,H' b=Ae)/\AW xs ys/\xs.length<=sizeLine/\W i k xs Y' H') ?_ m0
   ⟨0,_,H,[],[],0,I1,st1,λb hb=>(hf b hb).1,.nil,Dh _,w0⟩
  rintro k s' ⟨i,Y',H',xs,ys,n,I',st',fr',rv,hz,w'⟩;have one:∀ p∈[((D,{ cls:=.type "list",data:=.seq (E9 ys) n }):Ah×C7)],p.1=D:=λp hp=>by rw[Br.mp hp]
  rcases turn i k xs Y' H' w' with ⟨stop,q⟩|⟨go,hlt,step⟩
  .refine A5 (T.done (cxC X scope cl' C N' s H fp) rfl rfl rfl hc i _ s' Y' H' (λ_ _=>AU) I' (fpk one fr') st' stop) (λr s1 ⟨hr,J1⟩=>?_) λ_ _ f=>f.elim
   subst hr;obtain⟨e,hn,_⟩:=J1.pin _ (Bh _ AO);obtain⟨m,hm,_⟩:=J1.loc;exact hRR cl' D C s1 H' Y' _ xs ys n m J1 e hn rv hz (AN _) hDC hCle hm (q D hn)
  .refine A5 (T.item (cxC X scope cl' C N' s H fp) rfl rfl rfl hc i _ s' Y' H' (λ_ _=>AU) I' (fpk one fr') st' go) (λr s1 ⟨u,hr,h4⟩=>?_) λ_ _ f=>f.elim
   subst hr;refine A5 h4 (λ_ s5 ⟨x,H5,I5,r5,y5,st5,fr5⟩=>?_) λ_ _ f=>f.elim
   have I5':=I5.pinned (fpk one fr5) (T.obj _ _ st5);refine A5 (hg cl' C s H _ s5 Y' H5 x u _ I5' r5 (step x H5 y5)) (λ_ s6 ⟨Y6,H6,I6,q6⟩=>?_) λ_ _ f=>f.elim
   refine A5 (ht cl' C s H _ s6 Y6 H6 _ I6 q6) (λok s7 ⟨H7,I7,q7⟩=>?_) λ_ _ f=>f.elim
   have again:∀{s8:Ao}{H8:Hp}{ys':Ac Aj}{n':Af},Inv (cxC X scope cl' C N' s H fp) ((D,{ cls:=.type "list",data:=.seq (E9 ys') n' })::JB fp s5.heap) Y6 H8 s8->Inv (cxC X scope cl' C N' s H fp) [(D,{ cls:=.type "list",data:=.seq (E9 ys') n' })] Y6 H8 s8/\tn (i+1) s8.heap/\∀ b∈fp,H8 b=Ae:=λ{s8 H8 ys' n'} I8=>
    ⟨I8.pins_of λp hp=>I8.pin p (Bh _ (by rw[Br.mp hp];exact AO)),T.keep _ _ _ st5 λb hb o e=>(I8.pin (b,o) (Bh _ (AF _ (K9 hb e)))).1,λb hb=>by
     obtain⟨o,e,d⟩:=T.obj _ _ st5 b hb;exact(I8.pin (b,o) (Bh _ (AF _ (K9 hb e)))).2.1⟩
   cases ok with
   |false=>
    rw[AJ (by decide)]at q7
    obtain⟨m',hm,w7⟩:=q7;obtain⟨a1,a2,a3⟩:=again I7;rw[AJ (by decide)]
    exact⟨m',hm,i+1,Y6,H7,xs,ys,n,a1,a2,a3,rv,hz,w7⟩
   |true=>
    rw[AC rfl]at q7;rw[AC rfl];refine A5 (he cl' C D _ Y6 H7 s7 _ hCle I7 (λb hb=>let ⟨o,e,_⟩:=T.obj _ _ st5 b hb;⟨o,AF _ (K9 hb e)⟩) q7) (λval s8 ⟨y,H8,I8,r8,m',hm,w8⟩=>?_) λ_ _ f=>f
    have hl:=rv.length;refine Yt (X:=cxC X scope cl' C N' s H fp) (ys:=ys) (n:=n) (pI:=JB fp s5.heap) I8 (by show s.heap.objs.size<=D;rw[hD];exact AN _) (λp hp=>?_) cD (by omega) λs9 I9 kb=>?_
    .have hp2:p∈JB fp s5.heap:=hp;exact noD _ (QX hp2).1
    .obtain⟨a1,a2,a3⟩:=again I9;exact⟨m',hm,i+1,Y6,H8,xs++[y],ys++[val],n+1,a1,a2,a3,rv.append (.cons r8 .nil),by rw[Db];exact hlt,w8⟩
 exact codeAny_compStart_list (loop _ rfl) (T.self _ 0 _ _ _ st1 (loop _ rfl))
theorem dN{g:TG}(hc:X.calm=Ab)(B:BlockOk X scope N' ts)(hi:PI X tg iter wi)(hg:∀ cl C s H fp,PG (cxC X scope cl C N' s H fp) tg g)(ht:∀ cl C s H fp,PTs (cxC X scope cl C N' s H fp) ifs tt)(he:∀ cl C s H fp,PE (cxC X scope cl C N' s H fp) elt te)(hs:∀ x,BL iter X.env x=pure x):PE X (.ListComp elt [⟨tg,iter,ifs,0⟩] scope pos) (λY H Q=>wi Y H λJ H1=>IZ J ts g tt te Y H1 Q):=by
 intro pI s Y H Q I h;obtain⟨cl,hclos,hcl,hcl2⟩:=NC (scope:=scope) (env:=X.env) λx hx hk=>I.ok.has x.1 ((B.free x hx hk).imp id id)
 rw[eval_ListComp];refine Fd (use:=Ae) rfl hs hclos B.kind B.names (thn (hi pI s Y H _ I h) λv s1 h1=>thn h1 λitv s2 h2=>?_)
 obtain⟨it,fp,tn,J,H2,e,I2,T,st2,f2,h3⟩:=h2;subst e;refine N5 (RR:=λacc C=>Js (model X.prog X.w) X.A X.xe Ae (EP X pI Y Q) acc C) hc B I2 T st2 f2 hcl hcl2 (λcl C s H=>hg cl C s H fp) (λcl C s H=>ht cl C s H fp) (λcl C D pl Y' H' s' Q' _ I' _ q=>A5 (he cl C s2 H2 fp pl s' Y' H' Q' I' q) (λ_ _ z=>z) λ_ _ f=>f.elim) h3 λcl' D C s' H' Y' pins' xs ys n m I' hd hDn rv hz hD hDC hC hm q=>?_
 exact⟨m,hm,λh'' hs''=>⟨.ref D,_,NW I2 f2 I' hD hDC hC hd hDn rv hz hs'',rfl,q⟩⟩
theorem dH{n:Ag}{g:TG}(hc:X.calm=Ab)(B:BlockOk X scope N' ts)(hi:PI X tg iter wi)(hg:∀ cl C s H fp,PG (cxC X scope cl C N' s H fp) tg g)(ht:∀ cl C s H fp,PTs (cxC X scope cl C N' s H fp) ifs tt)(he:∀ cl C s H fp,PE (cxC X scope cl C N' s H fp) elt te)(hs:∀ x,BL iter X.env x=pure x)(hN:X.N.Nodup)(hni:X.N[i]?=Aa n)(hx:X.env.scope.names.lookup n=Aa .local)(hsw:CF (.ListComp elt [⟨tg,iter,ifs,0⟩] scope pos) (Aa (.Name n pos')) pos2.line X.env=pure Ab):PS X (.Assign [.Name n pos'] (.ListComp elt [⟨tg,iter,ifs,0⟩] scope pos) pos2) (JK (λY H Q=>wi Y H λJ H1=>IZ J ts g tt te Y H1 Q) (Eg i)):=by
 intro pI s Y H Dn I h;obtain⟨cl,hclos,hcl,hcl2⟩:=NC (scope:=scope) (env:=X.env) λx hx hk=>I.ok.has x.1 ((B.free x hx hk).imp id id)
 rw[exec_Assign_Name_used _ _ _ _ hsw];refine As (DK (As ?_));show Aw _ X.A (do let _ <-comprehension (.ListComp elt [⟨tg,iter,ifs,0⟩] scope pos) scope X.env _ (newList []) Ad (eval iter X.env) (Aa (assign (.Name n pos') X.env))) _ _ s
 refine As (A5 (Fd (use:=Aa (assign (.Name n pos') X.env)) (Q:=λ_ s'=>SP X pI Dn .next s') rfl hs hclos B.kind B.names
  (thn (hi pI s Y H _ I h) λv s1 h1=>thn h1 λitv s2 h2=>?_)) (λ_ s' hq=>Bi (Bi hq)) λ_ _ e=>e)
 obtain⟨it,fp,tn,J,H2,e,I2,T,st2,f2,h3⟩:=h2;subst e;refine N5 (RR:=λacc C=>Js (model X.prog X.w) X.A X.xe (Aa (assign (.Name n pos') X.env)) (λ_ s'=>SP X pI Dn .next s') acc C) hc B I2 T st2 f2 hcl hcl2 (λcl C s H=>hg cl C s H fp) (λcl C s H=>ht cl C s H fp) (λcl C D pl Y' H' s' Q' _ I' _ q=>A5 (he cl C s2 H2 fp pl s' Y' H' Q' I' q) (λ_ _ z=>z) λ_ _ f=>f.elim) h3 λcl' D C s' H' Y' pins' xs ys n' m I' hd hDn rv hz hD hDC hC hm q=>?_
 have J0:Inv X pI Y (upd H' D (.lst xs)) s':=NW I2 f2 I' hD hDC hC hd hDn rv hz (Heap.SameBut.refl ..);refine Xo (QQ J0 hN hni (.inl hx) (show Bs (.ref D) (.ref D) from rfl) (λs'' J1 ⟨a,sb,ha⟩=>?_) (.inr hx))
 have hC0:X.s₀.heap.objs.size<=C:=Cp I2.sz hC;have hL:C≠X.env.locals:=λz=>absurd (AI I2.lt (z ▸ hC)) (Bt _)
 have hcC:∀ x c,X.env.cells.lookup x=Aa c->c≠C:=λx c e z=>by
  obtain⟨v,q'⟩:=I2.cell x c e;exact absurd (AI q'.lt (by rw[z];exact hC)) (Bt _)
 have hp:∀ p∈X.pn++pI,p.1≠C:=λp hp z=>absurd (AI (AK (I2.pin p hp).1) (by rw[z];exact hC)) (Bt _)
 have hCn:upd H' D (.lst xs) C=Ae:=by rw[Bb hDC.symm];exact I'.free
 have hCa:C≠a:=by
  rcases ha with rfl|ha
  .exact hL
  .exact λz=>hcC n a ha z.symm
 refine⟨m,hm.sameBut sb hCa,λh'' hs''=>⟨_,_,J1.turned (t':=s''.toks) (λb o hb e=>(hs''.2 b hb).trans e) hCn hL (.inr hC0) hcC hp,q⟩⟩
theorem J5:∀(ts:Ac Af)(U:Rho)(j:Af),(EV ts U)[j]?=if j∈ts then (U[j]?).map (λ_=>Ae) else U[j]?
 |[],U,j=>by simp[EV]
 |t::ts,U,j=>by
  show (EV ts (U.set t Ae))[j]?=_;rw[J5 ts];by_cases h1:j∈ts
  .rw[AC h1,AC (AF _ h1)];by_cases h2:t=j
   .subst h2;rw[Fq];cases U[t]?<;>rfl
   .rw[By h2]
  .rw[AJ h1];by_cases h2:t=j
   .subst h2;rw[AC AO,Fq];cases U[t]?<;>rfl
   .rw[By h2,AJ (by simp only[AH,Gv];exact⟨λz=>h2 z.symm,h1⟩)]
theorem LX:∀(ts:Ac Af)(U:Rho),(EV ts U).length=U.length
 |[],_=>rfl
 |t::ts,U=>by show (EV ts (U.set t Ae)).length=_;rw[LX ts,AM]
theorem NB:∀(ts:Ac Af)(Y:L2.St){i:Af},i∉ts->(hideT ts Y)[i]?=Y[i]?
 |[],_,_,_=>rfl
 |t::ts,Y,i,h=>by
  simp only[AH,Gv]at h;show (hideT ts (Y.set t Ae))[i]?=_;rw[NB ts _ h.2,By (λz=>h.1 z.symm)]
theorem Qn:∀(ts:Ac Af)(ds:Ac D)(U1 U2:Rho),U1.length=U2.length->(∀ j,j∉ts->U1[j]?=U2[j]?)->Er ts ds U1=Er ts ds U2
 |[],[],U1,U2,hl,h=>congrArg Aa (VB λj=>h j (by simp))
 |[],_::_,_,_,_,_=>rfl
 |_::_,[],_,_,_,_=>rfl
 |t::ts,d::ds,U1,U2,hl,h=>by
  refine Qn ts ds _ _ (by rw[AM,AM];exact hl) λj hj=>?_
  by_cases e:t=j
  .subst e;rw[GJ,GJ,AC rfl,AC rfl,hl]
  .rw[By e,By e];exact h j (by simp only[AH,Gv];exact⟨λz=>e z.symm,hj⟩)
theorem Qi:∀(ts us:Ac Af)(ds:Ac D)(U U':Rho),(∀ t∈ts,t∈us)->Er ts ds U=Aa U'->EV us U'=EV us U
 |[],us,[],U,U',_,e=>by cases e;rfl
 |t::ts,us,d::ds,U,U',hs,e=>by
  rw[Qi ts us ds _ U' (λu hu=>hs u (AF _ hu)) e]
  refine VB λj=>?_
  rw[J5,J5];by_cases h:j∈us
  .rw[AC h,AC h,GJ];split
   .rename_i e2;subst e2;split
    .rename_i h3;rw[Bo h3];rfl
    .rename_i h3;rw[List.getElem?_eq_none (by omega)]
   .rfl
  .rw[AJ h,AJ h,By];rintro rfl;exact h (hs _ AO)
 |[],_,_::_,_,_,_,e=>by cases e
 |_::_,_,[],_,_,_,e=>by cases e
section
variable{K:Fg}{CL:ClA}{A:Ah->Prop}{U U':Rho}{Y:L2.St}{H:Hp}
theorem Good.less(g:Good K CL A U Y H)(hl:U'.length=U.length)(h:∀(i:Af)(d:D)(o:Ak),U'[i]?=Aa (Aa (d,o))->U[i]?=Aa (Aa (d,o))):Good K CL A U' Y H:=⟨λi d e=>g.sh i d (h i d Ad e),λi d e hn=>g.ow i d (h i d Ab e) hn,hl.trans g.len⟩
theorem Good.put(g:Good K CL A U Y H)(t:Af)(r:Rep K CL H A v d):Good K CL A (U.set t (Aa (d,Ad))) (Y.set t (Aa v)) H:=by
 refine⟨λj e h=>?_,λj e h hn=>?_,by rw[AM,AM];exact g.len⟩
 .by_cases hj:t=j
  .subst hj;have e1:=ES h;cases e1;have hl:t<Y.length:=by
    rw[<-g.len];have:=(A9.mp h).1;simpa using this
   exact⟨v,by rw[BO hl],r⟩
  .rw[By hj]at h;obtain⟨w',q,rw'⟩:=g.sh j e h;exact⟨w',by rw[By hj];exact q,rw'⟩
 .have hj:t≠j:=by
   rintro rfl;have:=ES h;cases this
  rw[By hj]at h;obtain⟨a,xs,ds,q,z⟩:=g.ow j e h hn;exact⟨a,xs,ds,by rw[By hj];exact q,z⟩
theorem Good.hide(g:Good K CL A U Y H)(ts:Ac Af):Good K CL A (EV ts U) Y H:=g.less (LX _ _) λi d o e=>by
 rw[J5]at e;split at e
 .cases q:U[i]? with
  |none=>rw[q]at e;cases e
  |some x=>rw[q]at e;cases e
 .exact e
theorem Good.hideT(g:Good K CL A U Y H)(ts:Ac Af):Good K CL A (EV ts U) (hideT ts Y) H:=by
 have key:∀ i x,(EV ts U)[i]?=Aa (Aa x)->U[i]?=Aa (Aa x)/\i∉ts:=λi x e=>by
  rw[J5]at e;split at e
  .cases q:U[i]? with
   |none=>rw[q]at e;cases e
   |some x=>rw[q]at e;cases e
  .exact⟨e,by assumption⟩
 refine⟨λi d e=>?_,λi d e hn=>?_,by rw[LX,N1];exact g.len⟩
 .obtain⟨e1,e2⟩:=key i _ e;obtain⟨v,q,r⟩:=g.sh i d e1;exact⟨v,by rw[NB _ _ e2];exact q,r⟩
 .obtain⟨e1,e2⟩:=key i _ e;obtain⟨a,xs,ds,q,r⟩:=g.ow i d e1 hn;exact⟨a,xs,ds,by rw[NB _ _ e2];exact q,r⟩
end
def GG(K:Fg)(CL:ClA)(ts:Ac Af)(as:D->Rho->R Rho)(g:TG):Prop:=∀ A U Y H v d U' Q,Good K CL A (EV ts U) Y H->Rep K CL H A v d->as d U=.ok U'->(∀ Y',Good K CL A U' Y' H->Good K CL A (EV ts U) Y' H->Q Y' H)->g v Y H Q
theorem eS(i:Af):GG K CL [i] (λd U=>.ok (U.set i (Aa (d,Ad)))) (Eg i):=λA U Y H v d U' Q g r e k=>by
 cases e;have g2:=g.put i r;have e1:(EV [i] U).set i (Aa (d,Ad))=U.set i (Aa (d,Ad)):=by
  show (U.set i Ae).set i (Aa (d,Ad))=_;rw[IH]
 rw[e1]at g2;refine k _ g2 ?_;have:=g2.hide [i];have e2:EV [i] (U.set i (Aa (d,Ad)))=EV [i] U:=by
  show (U.set i _).set i Ae=U.set i Ae;rw[IH]
 rw[e2]at this;exact this
theorem R9{K:Fg}{CL:ClA}{A:Ah->Prop}{H:Hp}:∀(ts:Ac Af)(ds:Ac D)(vs:Ac V)(U U':Rho)(Y:L2.St)(Q:L2.St->Hp->Prop),Good K CL A U Y H->Reps K CL H A vs ds->Er ts ds U=Aa U'->(∀ Y',Good K CL A U' Y' H->Q Y' H)->(ts.foldr (λt u=>Ir (Eg t) u) Ix) vs Y H Q
 |[],[],[],U,U',Y,Q,x,_,e,k=>by
  cases e;exact⟨rfl,k Y x⟩
 |t::ts,d::ds,v::vs,U,U',Y,Q,x,r,e,k=>⟨v,vs,rfl,R9 ts ds vs _ U' _ Q (x.put t r.1) r.2 e k⟩
 |[],_::_,_,_,_,_,_,_,_,e,_=>by cases e
 |_::_,[],_,_,_,_,_,_,_,e,_=>by cases e
 |[],[],_::_,_,_,_,_,_,r,_,_=>r.elim
 |_::_,_::_,[],_,_,_,_,_,r,_,_=>r.elim
theorem kQ(ts:Ac Af):GG K CL ts (ER ts) (LO K ts.length (ts.foldr (λt u=>Ir (Eg t) u) Ix)):=λA U Y H v d U' Q g r e k=>by
 cases d with
 |tup ds=>
  obtain⟨a,xs,rfl,na,sq,rs⟩:=r;rw[Qr]at e;cases e2:Er ts ds U with
  |none=>rw[e2]at e;cases e
  |some U2=>
   rw[e2]at e;cases e;have e3:Er ts ds (EV ts U)=Aa U':=by
    rw[<-e2];exact Qn ts ds _ _ (LX _ _) λj hj=>by rw[J5,AJ hj]
   refine⟨a,xs,rfl,sq,by rw[rs.length];exact NJ _ _ _ _ e2,R9 ts ds xs _ U' Y Q g rs e3 λY' g'=>k Y' g' ?_⟩
   have:=g'.hide ts;rw[Qi ts ts ds U U' (λ_ h=>h) e2]at this
   exact this
 |_=>cases e
noncomputable abbrev W0:XW:=λ_ _=>AU
def STs(X:Cx)(CL:ClA)(ifs:Ac Am)(f:Rho->R Ak):Prop:=∀ A,PTs X ifs (λY H Q=>AOk H A/\∃ U,Good X.K CL A U Y H/\CJ W0 H (f U) Q)
theorem RP:STs X CL [] (λ_=>.ok Ab):=λA pI s Y H Q I ⟨hA,U,g,p⟩=>dE pI s Y H Q I (p H (Ay.refl H))
theorem aN{f:Rho->R Ak}(h:SB X CL W0 c f):STs X CL [c] f:=λA pI s Y H Q I q=>dD (h A) pI s Y H Q I q
section
variable{X:Cx}{CL:ClA}{W:XW}{tg iter elt:Am}{ifs:Ac Am}{scope:BK}{pos:AA}{N':Ac Ag}{ts:Ac Af}{fi:Rho->R (Ac D)}{fc:Rho->R Ak}{fe:Rho->R D}{as:D->Rho->R Rho}{g:TG}
theorem XM{g:D->R Ak}{f:D->R D}{x:D}{xs ys:Ac D}(h:Bz g f (x::xs)=.ok ys):(g x=.ok Ad/\Bz g f xs=.ok ys)\/∃ y r,g x=.ok Ab/\f x=.ok y/\Bz g f xs=.ok r/\ys=y::r:=by
 unfold Bz at h;cases e:g x with
 |bad=>rw[e]at h;cases h
 |exn z=>rw[e]at h;cases h
 |ok b=>
  rw[e,R.bind_ok]at h;cases b with
  |false=>exact .inl ⟨rfl,h⟩
  |true=>
   rw[AC rfl]at h;cases e2:f x with
   |bad=>rw[e2]at h;cases h
   |exn z=>rw[e2]at h;cases h
   |ok y=>
    rw[e2,R.bind_ok]at h;cases e3:Bz g f xs with
    |bad=>rw[e3]at h;cases h
    |exn z=>rw[e3]at h;cases h
    |ok r=>
     rw[e3,R.bind_ok]at h;cases h;exact .inr ⟨y,r,rfl,rfl,rfl,rfl⟩
theorem Ju{β:Type}{r:R α}{f:α->R β}{b:β}(h:r.bind f=.ok b):∃ a,r=.ok a/\f a=.ok b:=by
 cases r with
 |ok a=>exact⟨a,rfl,h⟩
 |exn x=>cases h
 |bad=>cases h
theorem QH{We:XW}{ds ys:Ac D}(hGG:GG K CL ts as g)(hA:AOk H1 A)(gd:Good K CL A U Y H1)(yl:Jo K CL A ds J H1)(hz:ds.length<=sizeLine)(hcp:Bz (λx=>(as x U).bind fc) (λx=>(as x U).bind fe) ds=.ok ys)(q:∀ xs H2,Ay H1 H2->Reps K CL H2 A xs ys->∀ p,H2 p=Ae->Q (.ref p) (upd H2 p (.lst xs))):IZ J ts g (λY H Q=>AOk H A/\∃ U,Good K CL A U Y H/\CJ W0 H (fc U) Q) (λY H Q=>AOk H A/\∃ U,Good K CL A U Y H/\AS (λH=>Rep K CL H A) We H (fe U) Q) Y H1 Q:=by
 refine⟨λi m xs Y' H'=>m=ds.length-i/\i<=ds.length/\xs.length<=i/\Ay H1 H'/\Good K CL A (EV ts U) Y' H'/\∃ outs rest,Reps K CL H' A xs outs/\Bz (λx=>(as x U).bind fc) (λx=>(as x U).bind fe) (ds.drop i)=.ok rest/\ys=outs++rest,
  ⟨ds.length,by simp,Dh _,AN _,Ay.refl _,gd.hideT ts,[],ys,trivial,hcp,rfl⟩,?_⟩
 rintro i m xs Y' H' ⟨rfl,hi,hxl,sm,g',outs,rest,rs,hc,e⟩;obtain⟨yst,ygo⟩:=yl H' (Kp.of sm) i;by_cases hlt:i<ds.length
 .have hd:ds[i]?=Aa ds[i]:=Bo hlt;obtain⟨hgo,hyl⟩:=ygo _ hd;refine .inr ⟨hgo,by omega,λx H2 hx=>?_⟩
  obtain⟨s2,rx⟩:=hyl x H2 hx;have rx':=rx A (λa ha=>.inl ha) (hA.same sm)
  rw[DO hlt]at hc;have sm2:=sm.trans s2;rcases XM hc with ⟨h1,h2⟩|⟨y,r,h1,h2,h3,h4⟩
  .obtain⟨U',ea,ec⟩:=Ju h1;refine hGG A U Y' H2 x ds[i] U' _ (g'.same s2) rx' ea λY3 g3 g4=>⟨hA.same sm2,U',g3,?_⟩
   rw[ec];exact λH3 s3=>by
    dsimp only;rw[AJ (by decide)]
    exact⟨ds.length-(i+1),by omega,rfl,hlt,by omega,sm2.trans s3,g4.same s3,outs,rest,(rs.same s2).same s3,h2,e⟩
  .obtain⟨U',ea,ec⟩:=Ju h1;obtain⟨U2,ea2,ee⟩:=Ju h2;rw[ea]at ea2;cases ea2;refine hGG A U Y' H2 x ds[i] U' _ (g'.same s2) rx' ea λY3 g3 g4=>⟨hA.same sm2,U',g3,?_⟩
   rw[ec];exact λH3 s3=>by
    dsimp only;rw[AC rfl];refine⟨(hA.same sm2).same s3,U',g3.same s3,?_⟩;rw[ee];exact λv H4 s4 r4=>⟨ds.length-(i+1),by omega,rfl,hlt,by rw[Db,VH];omega,(sm2.trans s3).trans s4,(g4.same s3).same s4,outs++[y],r,(((rs.same s2).same s3).same s4).append ⟨r4,trivial⟩,h3,by rw[e,h4];simp⟩
 .have hk':ds.length<=i:=by omega
  rw[Ea hk']at hc;have hr:rest=[]:=by cases hc;rfl
  subst hr;rw[BA]at e;subst e;exact .inl ⟨yst hk',λp hp=>q xs H' sm rs p hp⟩
theorem EX.ok_of{r:R (Ac D)}{f:Ac D->R D}{Q':It->Hp->Prop}(h:AS Rq W H (r.bind f) Q)(k:∀ ds J H',r=.ok ds->Ay H H'->Jo K CL A ds J H'->ds.length<=sizeLine->AS Rq W H' (f ds) Q->Q' J H'):EX K CL A W H r Q':=by
 cases r with
 |ok d=>exact λJ H2 s2 y z=>k d J H2 rfl s2 y z (AS.same s2 h)
 |exn x=>exact h
 |bad=>exact h
theorem iL{r:R α}{a:α}(h:noX r=.ok a):r=.ok a:=by
 cases r with
 |ok b=>exact h
 |exn x=>cases h
 |bad=>cases h
theorem QG(hGG:GG X.K CL ts as g)(hA:AOk H A)(gd:Good X.K CL A U Y H)(p:AS (DN X.K CL Ab H A) W H ((fi U).bind λxs=>(noX (Bz (λx=>(as x U).bind fc) (λx=>(as x U).bind fe) xs)).bind λys=>.ok (.lst ys)) Q):EX X.K CL A W H (fi U) (λJ H1=>IZ J ts g (λY H Q=>AOk H A/\∃ U,Good X.K CL A U Y H/\CJ W0 H (fc U) Q) (λY H Q=>AOk H A/\∃ U,Good X.K CL A U Y H/\AS (λH=>Rep X.K CL H A) W0 H (fe U) Q) Y H1 Q):=
 EX.ok_of p λds J H1 e1 s1 yl hz p1=>by
  cases e2:noX (Bz (λx=>(as x U).bind fc) (λx=>(as x U).bind fe) ds) with
  |ok ys=>
   rw[e2]at p1;exact QH hGG (hA.same s1) (gd.same s1) yl hz (iL e2) λxs H2 s2 rs q hq=>p1 _ _ (s2.trans (ET hq _)) (Jy (s1.trans s2) ((hA.same s1).same s2) hq rs)
  |exn x=>rw[e2]at p1;cases hq:Bz (λx=>(as x U).bind fc) (λx=>(as x U).bind fe) ds<;>rw[hq]at e2<;>cases e2
  |bad=>rw[e2]at p1;exact p1.elim
theorem Z_9(hc:X.calm=Ab)(B:BlockOk X scope N' ts)(hi:SI X CL W tg iter fi)(hGG:GG X.K CL ts as g)(hg:∀ cl C s H fp,PG (cxC X scope cl C N' s H fp) tg g)(ht:∀ cl C s H fp,STs (cxC X scope cl C N' s H fp) CL ifs fc)(he:∀ cl C s H fp,SE (cxC X scope cl C N' s H fp) CL W0 elt fe)(hs:∀ x,BL iter X.env x=pure x):SC X CL W Ab (.ListComp elt [⟨tg,iter,ifs,0⟩] scope pos) (λU=>(fi U).bind λxs=>(noX (Bz (λx=>(as x U).bind fc) (λx=>(as x U).bind fe) xs)).bind λys=>.ok (.lst ys)):=λA pI s Y H Q I ⟨hA,U,gd,p⟩=>
 dN hc B (hi A) hg (λcl C s H fp=>ht cl C s H fp A) (λcl C s H fp=>he cl C s H fp A) hs pI s Y H Q I ⟨hA,U,gd,QG hGG hA gd p⟩
end
section
variable{K:Fg}{CL:ClA}{Fz:Fr}{B:Ah->Prop}{U:Rho}{Y:L2.St}{H H':Hp}
theorem Sx.setF(x:Sx K CL Fz B U Y H)(s:Ay H H'){ds:Ac D}(h0:H a=Ae)(h1:H' a=Aa (.lst xs))(r:Reps K CL H' (λb=>Bg B U Y b\/b=a) xs ds):Sx K CL Fz B (U.set i (Aa (.lst ds,Ab))) (Y.set i (Aa (.ref a))) H':=by
 have nA:¬ Bg B U Y a:=x.aok.new h0;have own:∀(j:Af)(e:D),(U.set i (Aa (.lst ds,Ab)))[j]?=Aa (Aa (e,Ab))->(i=j/\e=.lst ds)\/(i≠j/\U[j]?=Aa (Aa (e,Ab))):=λj e h=>by
  by_cases hj:i=j
  .subst hj;have:=ES h;cases this;exact .inl ⟨rfl,rfl⟩
  .exact .inr ⟨hj,by rw[By hj]at h;exact h⟩
 have atI:∀{j:Af}{y:Sl},(U.set i (Aa (.lst ds,Ab)))[j]?=Aa y->i=j->(Y.set i (Aa (.ref a)))[j]?=Aa (Aa (.ref a)):=λ{j y} h e=>by
  subst e;have hl:i<Y.length:=by
   rw[<-x.len];have:=(A9.mp h).1;simpa using this
  rw[BO hl]
 have sub:∀ b,Bg B (U.set i (Aa (.lst ds,Ab))) (Y.set i (Aa (.ref a))) b->Bg B U Y b\/b=a:=λb h=>by
  rcases h with h|⟨j,e,h1,h2⟩
  .exact .inl (.inl h)
  .rcases own j e h1 with ⟨hj,_⟩|⟨hj,h1'⟩
   .rw[atI h1 hj]at h2;cases h2;exact .inr rfl
   .rw[By hj]at h2;exact .inl (.inr ⟨j,e,h1',h2⟩)
 have wide:∀{v:V}{d:D},Rep K CL H (Bg B U Y) v d->Rep K CL H' (Bg B (U.set i (Aa (.lst ds,Ab))) (Y.set i (Aa (.ref a)))) v d:=λr=>(Rep.wide (λb hb=>(sub b hb).imp id λe=>by rw[e];exact h0) _ r).same s
 have wides:∀{v:Ac V}{d:Ac D},Reps K CL H (Bg B U Y) v d->Reps K CL H' (Bg B (U.set i (Aa (.lst ds,Ab))) (Y.set i (Aa (.ref a)))) v d:=λr=>(Reps.wide (λb hb=>(sub b hb).imp id λe=>by rw[e];exact h0) _ r).same s
 refine⟨⟨λj e h=>?_,λj e h hn=>?_,by rw[AM,AM];exact x.len⟩,λb h=>?_,λj e b g1 g2=>?_,λj k e f b g1 g2 g3 g4=>?_,λb o z=>s _ _ (x.same b o z),by rw[AM,AM];exact x.len,λj h=>?_⟩
 .have hj:i≠j:=by
   rintro rfl;have:=ES h;cases this
  rw[By hj]at h;obtain⟨w',q,rw'⟩:=x.good.sh j e h;exact⟨w',by rw[By hj];exact q,wide rw'⟩
 .rcases own j e h with ⟨hj,rfl⟩|⟨hj,h'⟩
  .have q:=atI h hj;exact⟨a,xs,ds,q,rfl,.inr ⟨j,_,h,q⟩,h1,Reps.sub sub _ r⟩
  .obtain⟨b,ys,es,q,z,ha,hh,rr⟩:=x.good.ow j e h' hn;have q':(Y.set i (Aa (.ref a)))[j]?=Aa (Aa (.ref b)):=by rw[By hj];exact q
   exact⟨b,ys,es,q',z,.inr ⟨j,e,h,q'⟩,s _ _ hh,wides rr⟩
 .rcases sub b h with z|z
  .obtain⟨ys,q⟩:=x.aok b z;exact⟨ys,s _ _ q⟩
  .rw[z];exact⟨xs,h1⟩
 .rcases own j e g1 with ⟨hj,_⟩|⟨hj,h'⟩
  .rw[atI g1 hj]at g2;cases g2;refine⟨λo z=>?_,λz=>nA (.inl z)⟩
   have:=x.same a o z;rw[h0]at this;cases this
  .rw[By hj]at g2;exact x.new j e b h' g2
 .rcases own j e g1 with ⟨hj,_⟩|⟨hj,h'⟩
  .rw[atI g1 hj]at g3;cases g3;rcases own k f g2 with ⟨hk,_⟩|⟨hk,h''⟩
   .exact hj.symm.trans hk
   .rw[By hk]at g4;exact absurd (.inr ⟨k,f,h'',g4⟩) nA
  .rw[By hj]at g3;rcases own k f g2 with ⟨hk,_⟩|⟨hk,h''⟩
   .rw[atI g2 hk]at g4;cases g4;exact absurd (.inr ⟨j,e,h',g3⟩) nA
   .rw[By hk]at g4;exact x.dis j k e f b h' h'' g3 g4
 .rcases own j _ h with ⟨_,z⟩|⟨hj,h'⟩
  .cases z
  .obtain⟨b,ys,p1,p2,p3⟩:=x.pin j h';exact⟨b,ys,p1,by rw[By hj];exact p2,s _ _ p3⟩
theorem Sx.upd(x:Sx K CL Fz B U Y H){i:Af}{d:D}{a:Ah}{xs:Ac V}{ds:Ac D}(hi:U[i]?=Aa (Aa (d,Ab)))(ha:Y[i]?=Aa (Aa (.ref a)))(r:Reps K CL H (Bg B U Y) xs ds):Sx K CL Fz B (U.set i (Aa (.lst ds,Ab))) Y (L2.upd H a (.lst xs)):=by
 have oa:Bg B U Y a:=.inr ⟨i,d,hi,ha⟩;have hil:i<U.length:=(A9.mp hi).1;have get:∀(j:Af)(e:D),(U.set i (Aa (.lst ds,Ab)))[j]?=Aa (Aa (e,Ab))↔(i=j/\e=.lst ds)\/(i≠j/\U[j]?=Aa (Aa (e,Ab))):=λj e=>by
  by_cases hj:i=j
  .subst hj;rw[BO hil];simp;exact⟨λz=>z.symm,λz=>z.symm⟩
  .rw[By hj];simp[hj]
 have same:∀ b,Bg B (U.set i (Aa (.lst ds,Ab))) Y b↔Bg B U Y b:=λb=>by
  constructor
  .rintro (h|⟨j,e,h1,h2⟩)
   .exact .inl h
   .rcases (get j e).mp h1 with ⟨rfl,_⟩|⟨_,h1⟩
    .exact .inr ⟨i,d,hi,h2⟩
    .exact .inr ⟨j,e,h1,h2⟩
  .rintro (h|⟨j,e,h1,h2⟩)
   .exact .inl h
   .by_cases hj:i=j
    .subst hj;exact .inr ⟨i,.lst ds,(get i _).mpr (.inl ⟨rfl,rfl⟩),h2⟩
    .exact .inr ⟨j,e,(get j e).mpr (.inr ⟨hj,h1⟩),h2⟩
 have kp:Kp (Bg B U Y) H (L2.upd H a (.lst xs)):=λb o e na=>by
  have hne:b≠a:=by
   rintro rfl;exact na oa
  rw[Bb hne];exact e
 refine⟨⟨λj e h=>?_,λj e h hn=>?_,by rw[AM];exact x.len⟩,λb h=>?_,λj e b g1 g2=>?_,λj k e f b g1 g2 g3 g4=>?_,λb o z=>?_,by rw[AM];exact x.len,λj h=>?_⟩
 .have hj:i≠j:=by
   rintro rfl;have:=ES h;cases this
  rw[By hj]at h;obtain⟨w',q,rw'⟩:=x.good.sh j e h;exact⟨w',q,Rep.sub (λb hb=>(same b).mp hb) _ (Rep.kp kp _ rw')⟩
 .rcases (get j e).mp h with ⟨rfl,rfl⟩|⟨hj,h'⟩
  .exact⟨a,xs,ds,ha,rfl,(same a).mpr oa,C8,Reps.sub (λb hb=>(same b).mp hb) _ (Reps.kp kp _ r)⟩
  .obtain⟨b,ys,es,q,z,hb,hh,rr⟩:=x.good.ow j e h' hn;have hne:b≠a:=λz=>hj (x.dis i j d e a hi h' ha (z ▸ q))
   exact⟨b,ys,es,q,z,(same b).mpr hb,by rw[Bb hne];exact hh,Reps.sub (λb hb=>(same b).mp hb) _ (Reps.kp kp _ rr)⟩
 .obtain⟨ys,q⟩:=x.aok b ((same b).mp h);by_cases e:b=a
  .rw[e];exact⟨xs,C8⟩
  .exact⟨ys,by rw[Bb e];exact q⟩
 .rcases (get j e).mp g1 with ⟨rfl,_⟩|⟨_,h'⟩
  .exact x.new i d b hi g2
  .exact x.new j e b h' g2
 .rcases (get j e).mp g1 with ⟨rfl,_⟩|⟨hj,h'⟩
  .rcases (get k f).mp g2 with ⟨rfl,_⟩|⟨hk,h''⟩
   .rfl
   .exact x.dis i k d f b hi h'' g3 g4
  .rcases (get k f).mp g2 with ⟨rfl,_⟩|⟨hk,h''⟩
   .exact x.dis j i e d b h' hi g3 g4
   .exact x.dis j k e f b h' h'' g3 g4
 .have hne:b≠a:=λe=>(x.new i d a hi ha).1 o (e ▸ z)
  rw[Bb hne];exact x.same b o z
 .rcases (get j _).mp h with ⟨_,z⟩|⟨hj,h'⟩
  .cases z
  .obtain⟨b,ys,p1,p2,p3⟩:=x.pin j h';have hne:b≠a:=λz=>hj (x.dis i j d _ a hi h' ha (z ▸ p2))
   exact⟨b,ys,p1,p2,by rw[Bb hne];exact p3⟩
theorem Sx.rel(x:Sx K CL Fz B U Y H)(hi:U[i]?=Aa (Aa (d,Ab)))(hn:d≠.non):Sx K CL Fz B (U.set i (Aa (d,Ad))) Y H:=by
 obtain⟨a,xs,ds,q,rfl,oa,hh,rr⟩:=x.good.ow i d hi hn;have own:∀(j:Af)(e:D),(U.set i (Aa (.lst ds,Ad)))[j]?=Aa (Aa (e,Ab))->i≠j/\U[j]?=Aa (Aa (e,Ab)):=λj e h=>by
  by_cases hj:i=j
  .subst hj;have:=ES h;cases this
  .exact⟨hj,by rw[By hj]at h;exact h⟩
 have sub:∀ b,Bg B (U.set i (Aa (.lst ds,Ad))) Y b->Bg B U Y b:=λb h=>by
  rcases h with h|⟨j,e,h1,h2⟩
  .exact .inl h
  .exact .inr ⟨j,e,(own j e h1).2,h2⟩
 have na:¬ Bg B (U.set i (Aa (.lst ds,Ad))) Y a:=λh=>by
  rcases h with h|⟨j,e,h1,h2⟩
  .exact(x.new i _ a hi q).2 h
  .obtain⟨hj,h1⟩:=own j e h1;exact hj (x.dis i j _ e a hi h1 q h2)
 refine⟨⟨λj e h=>?_,λj e h hn=>?_,by rw[AM];exact x.len⟩,λb h=>x.aok b (sub b h),λj e b g1 g2=>x.new j e b (own j e g1).2 g2,λj k e f b g1 g2 g3 g4=>x.dis j k e f b (own j e g1).2 (own k f g2).2 g3 g4,x.same,by rw[AM];exact x.len,λj h=>x.pin j (own j _ h).2⟩
 .by_cases hj:i=j
  .subst hj;have e1:=ES h;cases e1;exact⟨_,q,a,xs,rfl,.inl na,SqL.of hh,Reps.sub sub _ rr⟩
  .rw[By hj]at h;obtain⟨w',q',rw'⟩:=x.good.sh j e h;exact⟨w',q',Rep.sub sub _ rw'⟩
 .obtain⟨hj,h'⟩:=own j e h;obtain⟨b,ys,es,q',z,hb,hh',rr'⟩:=x.good.ow j e h' hn;exact⟨b,ys,es,q',z,.inr ⟨j,e,h,q'⟩,hh',Reps.sub sub _ rr'⟩
end
section
variable{X:Cx}{CL:ClA}{W:XW}{pos:AA}{e:Am}{fe:Rho->R D}{fr:Ak}
theorem Bw.exC{f:D->O}(x:Sx X.K CL Fz B U Y H)(h:Bw X.K CL Fz B W (O.of U r f) D')(k:∀ d v H',r=.ok d->Ay H H'->DN X.K CL fr H A H' v d->Sx X.K CL Fz B U Y H'->Bw X.K CL Fz B W (f d) D'->Q v H'):AS (DN X.K CL fr H A) W H r Q:=by
 cases r with
 |ok d=>exact λv H' s r=>k d v H' rfl s r (x.grow s) h
 |exn y=>exact λH' s=>h H' λb o z=>s _ _ (x.same b o z)
 |bad=>exact h
def SAs(X:Cx)(CL:ClA)(W:XW)(fr:Ak)(i:Af)(st:AG)(f:Rho->R D):Prop:=∀ A,PS X st (JK (λY H Q=>AOk H A/\∃ U,Good X.K CL A U Y H/\AS (DN X.K CL fr H A) W H (f U) Q) (Eg i))
theorem SC.sas{n:Ag}(hN:X.N.Nodup)(hi:X.N[i]?=Aa n)(hx:Loc X.env.scope n)(he:SC X CL W fr e fe)(hs:CF e (Aa (.Name n pos')) pos.line X.env=pure Ad)(hf:X.fn n=Ab\/X.env.scope.names.lookup n=Aa .local):SAs X CL W fr i (.Assign [.Name n pos'] e pos) fe:=
 λA=>Lu hN hi hx (he A) hs hf
theorem YO{n:Ag}{fe:Rho->R D}{g:TG}(hc:X.calm=Ab)(B:BlockOk X scope N' ts)(hi:SI X CL W tg iter fi)(hGG:GG X.K CL ts as g)(hg:∀ cl C s H fp,PG (cxC X scope cl C N' s H fp) tg g)(ht:∀ cl C s H fp,STs (cxC X scope cl C N' s H fp) CL ifs fc)(he:∀ cl C s H fp,SE (cxC X scope cl C N' s H fp) CL W0 elt fe)(hs:∀ x,BL iter X.env x=pure x)(hN:X.N.Nodup)(hni:X.N[i]?=Aa n)(hx:X.env.scope.names.lookup n=Aa .local)(hsw:CF (.ListComp elt [⟨tg,iter,ifs,0⟩] scope pos) (Aa (.Name n pos')) pos2.line X.env=pure Ab):SAs X CL W Ab i (.Assign [.Name n pos'] (.ListComp elt [⟨tg,iter,ifs,0⟩] scope pos) pos2) (λU=>(fi U).bind λxs=>(noX (Bz (λx=>(as x U).bind fc) (λx=>(as x U).bind fe) xs)).bind λys=>.ok (.lst ys)):=λA pI s Y H Dn I ⟨hA,U,gd,p⟩=>
 dH hc B (hi A) hg (λcl C s H fp=>ht cl C s H fp A) (λcl C s H fp=>he cl C s H fp A) hs hN hni hx hsw pI s Y H Dn I ⟨hA,U,gd,QG hGG hA gd p⟩
theorem Tv{st:AG}(h:SAs X CL W fr i st fe):SS X CL W st (λU=>O.of U (fe U) λd=>.next (U.set i (Aa (d,Ad)))):=λFz B pI s Y H D I ⟨U,x,p⟩=>
 h (Bg B U Y) pI s Y H D I ⟨x.aok,U,x.good,Bw.exC x p λd v H' _ s r x' q=>q _ H' (x'.set i r.1)⟩
theorem RT{st:AG}(h:SAs X CL W Ab i st fe):SS X CL W st (λU=>O.of U (fe U) λd=>setF U i d):=λFz B pI s Y H D I ⟨U,x,p⟩=>
 h (Bg B U Y) pI s Y H D I ⟨x.aok,U,x.good,Bw.exC x p λd v H' _ s r x' q=>by
  cases d with
  |lst ds=>
   obtain⟨a,xs,rfl,h0,h1,rs⟩:=r.2 rfl ds rfl;exact q _ H' (x.setF s h0 h1 rs)
  |dic ds=>exact r.1.elim
  | _=>exact q.elim⟩
theorem RS(he:SC X CL W Ab e fe):SS X CL W (.Return (Aa e) pos) (λU=>O.of U (fe U) λd=>.ret d Ab):=λFz B pI s Y H D I ⟨U,x,p⟩=>
 OZ (he (Bg B U Y)) pI s Y H D I ⟨x.aok,U,x.good,Bw.exC x p λd v H' _ s r x' q=>q v H' x'.same (Rep.sub (λa h=>.inl h) _ r.1) λ_ ds e=>by
  obtain⟨a,xs,h0,h1,h2,h3⟩:=r.2 rfl ds e;refine⟨a,xs,h0,λo z=>?_,h2,Reps.sub (λb hb=>hb.imp .inl id) _ h3⟩
  have:=x.same a o z;rw[h1]at this;cases this⟩
noncomputable def P0(U:Rho)(i:Af):Ak:=match U[i]? with
  |some (Aa (_,o))=>o
  |_=>Ad
theorem aR(he:PE X e (Eu i)):SS X CL W (.Return (Aa e) pos) (λU=>O.of U (DW U i) λd=>.ret d (P0 U i)):=λFz B pI s Y H D I ⟨U,x,p⟩=>
 OZ he pI s Y H D I (by
  dsimp only at p;cases e:DW U i with
  |bad=>rw[e]at p;exact p.elim
  |exn z=>exact(Lh e).elim
  |ok d=>
   rw[e]at p;obtain⟨o,e,hn⟩:=RH e;have eo:P0 U i=o:=by unfold P0;rw[e]
   rw[O.of_ok,eo]at p;cases o with
   |false=>
    obtain⟨v,q,r⟩:=x.good.sh i d e;exact⟨v,q,p v H x.same (Rep.sub (λa h=>.inl h) _ r) λz=>nomatch z⟩
   |true=>
    obtain⟨a,xs,ds,q,rfl,ha,hh,r⟩:=x.good.ow i d e (hn rfl);obtain⟨n1,n2⟩:=x.new i _ a e q;refine⟨_,q,p _ H x.same ⟨a,xs,rfl,.inl n2,SqL.of hh,Reps.sub (λa h=>.inl h) _ r⟩ λ_ ds' e'=>?_⟩
    cases e';exact⟨a,xs,rfl,n1,hh,Reps.sub (λb hb=>hb.elim .inl λz=>z ▸ ha) _ r⟩)
theorem dP{ds:Ac D}(h:Ev U i=.ok ds):U[i]?=Aa (Aa (.lst ds,Ab)):=by
 unfold Ev at h;split at h
 .rename_i e;cases h;exact e
 .cases h
theorem ZQ{x:Ex}(h:Ev U i=.exn x):AU:=by
 unfold Ev at h;split at h<;>cases h
variable{o:Am}{i:Af}{apos cpos:AA}
theorem aQ{rest:Ac AG}{f:Rho->O}(i:Af)(h:SSs X CL W rest f):SSs X CL W rest (λU=>(match U[i]? with
   |some (Aa (d,Ab))=>P3 U i d
   | _=>O.next U).seq f):=λFz B=>PSs.weak (h Fz B) λD Y H ⟨U,x,p⟩=>by
 dsimp only at p;split at p
 .rename_i d e;cases d with
  |lst xs=>exact⟨_,x.rel e (λz=>nomatch z),p⟩
  |_=>exact p.elim
 .exact⟨U,x,p⟩
end
section
variable{X:Cx}{CL:ClA}{W:XW}{pos:AA}{e k o:Am}{fe fk:Rho->R D}{i:Af}{apos cpos:AA}
theorem AW.take(r:AW xs its):∀ n,AW (xs.take n) (its.take n):=by
 induction r with
 |nil=>intro n;simp;exact .nil
 |cons h _ ih=>
  intro n;cases n with
  |zero=>exact .nil
  |succ n=>exact .cons h (ih n)
theorem AW.drop(r:AW xs its):∀ n,AW (xs.drop n) (its.drop n):=by
 induction r with
 |nil=>intro n;simp;exact .nil
 |cons h t ih=>
  intro n;cases n with
  |zero=>exact .cons h t
  |succ n=>exact ih n
end
section
variable{prog:AL}{w:Az}{A:AR}{E:Vq}{s:Ao}
theorem iJ{j t:Ah}{its:Bj Aj}{x:Aj}{Q:Vq}(st:s.heap.IsTupleIter j t k)(sq:s.heap.IsTuple t its)(at_:its[k]?=Aa x)(go:∀ h2,h2.IsTupleIter j t (k+1)->Eo j s.heap h2->Q x {s with heap:=h2}):Aw (model prog w) A (DR (.ref j)) Q E s:=by
 obtain⟨oj,gj,cj,dj⟩:=id st;obtain⟨ot,gt,_,nt,dt⟩:=sq;show Aw _ _ (IQ _ _ >>= _) _ _ _;refine As (Xp st.typeIs DI (Xq DI st.typeIs Wx ?_ (Wu _)));show Aw _ _ (field (.ref j) 0 >>= _) _ _ _;refine As (CV gj dj (x:=.ref t) rfl ?_);show Aw _ _ (field (.ref j) 1 >>= _) _ _ _;refine As (CV gj dj (x:=.int k 0) rfl ?_);refine As (Xy gt dt ?_);simp only[Vv,at_];exact As (DZ gj dj (by simp) (Bi ⟨x,rfl,Bi (go _ ⟨_,Ci _ gj (Dc (B6 dj _)),(WJ ..).trans cj,by rw[B6 dj];simp[D1]⟩ (WG ..))⟩))
theorem Yz{j t:Ah}{its:Bj Aj}{Q:Vq}(calm:A.handled=Ae)(st:s.heap.IsTupleIter j t k)(sq:s.heap.IsTuple t its)(at_:its[k]?=Ae)(up:∀ h2 e,WE j s.heap h2->(∃ o,h2.get? e=Aa o/\o.cls=.type "StopIteration")->E (.ref e) {s with heap:=h2}):Aw (model prog w) A (DR (.ref j)) Q E s:=by
 obtain⟨oj,gj,cj,dj⟩:=id st;obtain⟨ot,gt,_,nt,dt⟩:=sq;show Aw _ _ (IQ _ _ >>= _) _ _ _;refine As (Xp st.typeIs DI (Xq DI st.typeIs Wx ?_ (Wu _)));show Aw _ _ (field (.ref j) 0 >>= _) _ _ _;refine As (CV gj dj (x:=.ref t) rfl ?_);show Aw _ _ (field (.ref j) 1 >>= _) _ _ _;refine As (CV gj dj (x:=.int k 0) rfl ?_);refine As (Xy gt dt ?_);simp only[Vv,at_];refine As (wpAny_rule (As (DZ gj dj (by simp) ?_)))
 refine As ?_;simp only[newExc,newTuple];refine As (Fv ?_ (by size_fits))
 refine As (m:=Xi _ _) (Gq (a:=.none) (by first|rfl|(simp only[Xi];rfl)) (Fv ?_ (by size_fits)))
 simp only[raiseNew];refine As (wpAny_handled ?_)
 first|rw[show A.in1.handled=Ae from calm]|rw[calm]
 exact As (Bi (wpAny_throw (up _ _ (((WG ..).extBut.push _).push _) ⟨_,Be _ rfl,rfl⟩)))
end
structure Dw (prog:AL) (w:Az) (A:AR) (j:Ah) (fp:Ac Ah) (n:Af) (P:Af->Aj->Prop) (S:Af->AE->Prop):Prop where
 frame:∀ i h h2,S i h->(∀ c∈fp,∀ o,h.get? c=Aa o->h2.get? c=Aa o)->S i h2
 item:∀ i (s:Ao) (Q:Vq) (E:Vq),i<n->S i s.heap->(∀ x h2 tk,P i x->S (i+1) h2->Eo j s.heap h2->Q x {s with heap:=h2,toks:=tk})->Aw (model prog w) A (DR (.ref j)) Q E s
 done:∀ i (s:Ao) (Q:Vq) (E:Vq),n<=i->S i s.heap->(∀ h2 e,WE j s.heap h2->(∃ o,h2.get? e=Aa o/\o.cls=.type "StopIteration")->E (.ref e) {s with heap:=h2})->Aw (model prog w) A (DR (.ref j)) Q E s
def F5(t:Ak)(h:AE)(j l:Ah)(i:Af):Prop:=match t with
  |true=>h.IsTupleIter j l i
  |false=>h.IsListIter j l i
def Go(t:Ak)(h:AE)(l:Ah)(its:Bj Aj):Prop:=match t with
  |true=>h.IsTuple l its
  |false=>h.IsList l its
theorem Uo{A:AR}(calm:A.handled=Ae)(t:Ak)(j l:Ah)(ne:l≠j)(its:Bj Aj):Dw prog w A j [j,l] its.size (λi v=>its[i]?=Aa v) (λi h=>F5 t h j l i/\Go t h l its):=by
 cases t with
 |true=>exact⟨λ_ _ _ z k=>⟨z.1.at λo e=>k j (by simp) o e,z.2.at λo e=>k l (by simp) o e⟩,λi s Q E hi z q=>iJ z.1 z.2 (x:=its[i]) (by simp[hi]) λh2 z2 sb=>q _ h2 s.toks (by simp[hi]) ⟨z2,z.2.extBut sb.extBut ne⟩ sb,λi s Q E hi z q=>Yz calm z.1 z.2 (by simp[hi]) q⟩
 |false=>exact⟨λ_ _ _ z k=>⟨z.1.at λo e=>k j (by simp) o e,z.2.at λo e=>k l (by simp) o e⟩,λi s Q E hi z q=>wpAny_nextOf_list_item z.1 z.2 (x:=its[i]) (by simp[hi]) λh2 z2 sb=>q _ h2 s.toks (by simp[hi]) ⟨z2,z.2.extBut sb.extBut ne⟩ sb,λi s Q E hi z q=>wpAny_nextOf_list_end calm z.1 z.2 (by simp[hi]) q⟩
theorem nb2{I l c:Af}(b:l<I)(h:c∈[I+1,l]):c≠I/\c≠I+3/\c≠I+4:=by
 have h':c=I+1\/c=l:=by simpa using h
 omega
theorem ni0{I i:Af}(h:i≠0):I+i≠I:=by omega
section
variable{prog:AL}{w:Az}{A:AR}{E:Vq}{s:Ao}
end
def SqX(t:Ak)(K:Fg)(H:Hp)(a:Ah)(xs:Ac V):Prop:=match t with
  |true=>SqT K H a xs
  |false=>SqL K H a xs
theorem OQ(I:Inv X pI Y H s)(h:SqX t X.K H a xs):∃ its:Ac Aj,AW xs its/\Go t s.heap a its.toArray/\xs.length<=sizeLine:=by
 cases t with
 |true=>
  obtain⟨its,rv,p,z⟩:=I.tuple h;exact⟨its,rv,p,z⟩
 |false=>
  obtain⟨its,rv,p,z⟩:=I.list h;exact⟨its,rv,p.isList,z⟩
theorem Ym{ys:Ac V}(I:Inv X pI Y H s)(h:SqX t X.K H a xs)(h2:SqX t X.K H a ys):xs=ys:=by
 cases t with
 |true=>exact I.tuple_inj h h2
 |false=>exact I.list_inj h h2
theorem Inv.turnedL{t':Af}(ch:Ac Ah)(I:Inv X pI Y H s)(k:∀ b o,b∉ch->s.heap.get? b=Aa o->h'.get? b=Aa o)(hf:∀ b∈ch,Gp X pI H b):Inv X pI Y H {s with heap:=h',toks:=t'}:=by
 have nit:∀ b u,H b=Aa u->b∉ch:=λb u e z=>by rw[(hf b z).1]at e;cases e
 refine I.step (g':=s.gens) (d':=s.drawn) (ch:=ch) (λb hb=>⟨(hf b hb).2.2.2.1,(hf b hb).2.1,(hf b hb).2.2.2.2.1,(hf b hb).2.2.2.2.2⟩) (λb o _ _ hc e _=>k b o hc e) (λb o _ _ hc e _=>⟨o.slots,k b o hc e⟩) (λ_ _ _ _ n=>n)
  (λb o hc e=>⟨o,k b o hc e⟩) (λ_ _ e=>e) (λ_ _ _ e=>e) (λb ps e=>⟨#[],by rw[e];simp⟩) (λm ⟨o,es,ep,ho,r⟩=>⟨o,es,ep,k _ o (λz=>(hf _ z).2.1 rfl) ho,r⟩) (λb u e=>(I.hok b u e).stay (λc v hc q=>k c v ?_ q) (λ_ q=>q) λ_ _ q=>q) I.bare
 rcases hc with z|z
 .rw[z];exact nit b u e
 .exact nit c _ z
section
variable{prog:AL}{w:Az}{A:AR}{E:Vq}{s:Ao}
noncomputable def itO(t:Ak)(l:Ah):C7:=match t with
  |true=>{ cls:=.type "tuple_iterator",data:=.fields #[.ref l,.int 0 0] }
  |false=>{ cls:=.type "list_iterator",data:=.fields #[.ref l,.int 0 0] }
theorem Pe{its:Bj Aj}{Q:Vq}(h:Go t s.heap l its)(q:Q (.ref s.heap.objs.size) {s with heap:=s.heap.push (itO t l)}):Aw (model prog w) A (KY (.ref l)) Q E s:=by
 cases t with
 |true=>exact Xx h q
 |false=>exact GN h q
theorem Go.push{its:Bj Aj}(z:Go t h l its)(o:C7):Go t (h.push o) l its:=by
 cases t with
 |true=>exact PySem.Heap.IsTuple.at z λ_ e=>Ax _ e
 |false=>exact PySem.Heap.IsList.at z λ_ e=>Ax _ e
theorem kJ{j:Ah}(e:h.get? j=Aa (itO t l)):F5 t h j l 0:=by
 cases t with
 |true=>exact⟨_,e,rfl,rfl⟩
 |false=>exact⟨_,e,rfl,rfl⟩
theorem Zy(t:Ak)(l:Ah):(itO t l).isFreed=Ad:=by cases t<;>rfl
end
theorem Go.lt{its:Bj Aj}(z:Go t h a its):a<h.objs.size:=by
 cases t with
 |true=>obtain⟨o,e,_⟩:=z;exact AK e
 |false=>obtain⟨o,e,_⟩:=z;exact AK e
section
variable{X:Cx}{CL:ClA}{W:XW}{pos p:AA}{a b:Am}{fa fb:Rho->R D}
end
theorem F5.live{l:Af}(z:F5 t h j l i):∃ o,h.get? j=Aa o/\∀ v,o.data≠.cell v:=by
 cases t with
 |true=>obtain⟨o,e,c,d⟩:=z;exact⟨o,e,λv z=>by rw[d]at z;cases z⟩
 |false=>obtain⟨o,e,c,d⟩:=z;exact⟨o,e,λv z=>by rw[d]at z;cases z⟩
theorem F5.keep{h2:AE}{l:Af}(z:F5 t h j l i)(k:∀ o,h.get? j=Aa o->h2.get? j=Aa o):F5 t h2 j l i:=by
 cases t with
 |true=>exact PySem.Heap.IsTupleIter.at z k
 |false=>exact PySem.Heap.IsListIter.at z k
theorem jO{A:AR}(calm:A.handled=Ae)(t:Ak)(j l:Ah)(ne:l≠j)(its:Bj Aj):Draws prog w A j [j,l] its.size (λi v=>its[i]?=Aa v) (λi h=>F5 t h j l i/\Go t h l its):=
 have d:=Uo (prog:=prog) (w:=w) calm t j l ne its
 ⟨λi h z=>let ⟨o,e,_⟩:=z.1.live;⟨o,e⟩,d.frame,d.item,λs Q E h q=>d.done _ s Q E (AN _) h q⟩
theorem eX{A:AR}(calm:A.handled=Ae)(t:Ak)(j l:Ah)(ne:l≠j)(its:Bj Aj)(i:Af)(hi:its.size<=i):Draws prog w A j [j,l] i (λ_ _=>AU) (λk h=>k=i/\F5 t h j l i/\Go t h l its):=
 have d:=Uo (prog:=prog) (w:=w) calm t j l ne its
 ⟨λ_ h z=>let ⟨o,e,_⟩:=z.2.1.live;⟨o,e⟩,λk h h' z q=>⟨z.1,d.frame i h h' z.2 q⟩,λk s Q E lt z=>absurd z.1 (Bp lt),λs Q E h q=>d.done i s Q E hi h.2 q⟩
noncomputable def Ite(K:Fg)(t:Ak)(a:Ah):It:=
 ⟨λi H=>∃ xs x,SqX t K H a xs/\xs[i]?=Aa x,λi H v H'=>∃ p x,H p=Ae/\v=.ref p/\(∀ xs,SqX t K H a xs->xs[i]?=Aa x)/\H'=upd H p (.tup [.int i,x]),λi H=>∃ xs,SqX t K H a xs/\xs.length<=i⟩
def eTn(t:Ak)(I l:Af)(i:Af)(h:AE):Prop:=(∃ old,IsEnum h (I+1) I i old)/\F5 t h I l i
theorem Ye{P:AL}(t:Ak)(I l:Af)(b:l<I):Turn P w K (.Tuple es n pos) (Ite K t l) [I,I+1] (I+1) (eTn t I l) where
  mem:=by simp
  obj:=λi h ⟨⟨old,z1⟩,z2⟩ c hc=>by
    simp only[AH,Co,EG]at hc;rcases hc with rfl|rfl
    · exact z2.live
    · exact⟨_,z1,λv z=>by cases z⟩
  keep:=λi h h2 ⟨⟨old,z1⟩,z2⟩ k=>⟨⟨old,k _ (by simp) _ z1⟩,z2.keep λo e=>k _ (by simp) o e⟩
  item:=by
    intro X hP hw hK hc i pI s Y H E Iv hf ⟨⟨old,z1⟩,z2⟩ ⟨xs,x,q1,hx⟩;subst hP hw hK;obtain⟨us,rx,px,_⟩:=OQ Iv q1;obtain⟨u,hu,ru⟩:=rx.get hx;have lu:i<us.toArray.size:=by
      have:=(A9.mp hu).1;simpa using this
    refine wpAny_pyNext_enum_itemD (jO (A:=X.A.in1) (Iv.ok.hd hc) t I l (Bp b) us.toArray) z1 ⟨z2,px⟩ lu (ni0 (by decide)) (by simp only[AH,Co,EG,Gv];exact⟨ni0 (by decide),GX (AI b (Nat.le_add_right _ _))⟩) λu' h2 tk hu' ho it2 hT sz kp=>⟨_,rfl,wpAny_letOwnedTupleGo_enum ho λh3 d1 sb=>?_⟩
    have eu:u'=u:=by
      rw[List.getElem?_toArray,hu]at hu';exact(Bk hu').symm
    subst eu;have lt:I+1<s.heap.objs.size:=AK z1;have kp3:∀ c o,c∉[I,I+1]->s.heap.get? c=Aa o->h3.get? c=Aa o:=λc o nc q=>by
      simp only[AH,Co,EG,Gv]at nc;exact sb.extBut c o nc.2 (kp c o nc.2 nc.1 q)
    have nT:∀ c∈[I,I+1],c≠s.heap.objs.size:=λc hc z=>by
      have:c<=I+1:=by
        simp only[AH,Co,EG]at hc;rcases hc with z|z<;>rw[z]<;>simp
      exact absurd (z ▸ D6 this lt) (Bt _)
    have I1:Inv X pI Y (upd H s.heap.objs.size (.tup [.int i,x])) { s with heap:=s.heap.push { cls:=.type "tuple",data:=.seq #[.int i tk,u'] },toks:=s.toks }:=
      Iv.laid (λ_ _ q=>Ax _ q) (AN _) ⟨(by decide:2<=sizeLine),[.int i tk,u'],.cons ⟨_,rfl⟩ (.cons ru .nil),⟨_,Be _ rfl,rfl,_,rfl⟩⟩
    have hf':∀ b∈[I,I+1],Gp X pI (upd H s.heap.objs.size (.tup [.int i,x])) b:=λb hb=>⟨by rw[Bb (nT b hb)];exact(hf b hb).1,(hf b hb).2⟩
    have I2:Inv X pI Y (upd H s.heap.objs.size (.tup [.int i,x])) {s with heap:=h3,toks:=tk+1}:=Inv.turnedL (s:={ s with heap:=s.heap.push { cls:=.type "tuple",data:=.seq #[.int i tk,u'] },toks:=s.toks }) [I,I+1] I1 (λc o nc q=>by
      rcases Heap.get?_push_cases q with ⟨e1,e2⟩|e1
      · subst e1 e2;exact sb.extBut _ _ (GX lt) hT
      · exact kp3 c o nc e1) hf'
    exact⟨.ref s.heap.objs.size,_,I2,rfl,⟨s.heap.objs.size,x,Iv.fresh,rfl,λzs hz=>by rw[Ym Iv hz q1];exact hx,rfl⟩,⟨⟨u',by simpa using d1⟩,it2.1.keep λo q=>sb.extBut _ o (Cn (ni0 (by decide))) q⟩,λb hb=>(hf' b hb).1⟩
  done:=by
    intro X hP hw hK hc i pI s Y H E Iv hf ⟨⟨old,z1⟩,z2⟩ ⟨xs,q1,hk⟩;subst hP hw hK;obtain⟨us,rx,px,_⟩:=OQ Iv q1;have e1:=rx.length;have e2:us.toArray.size<=i:=by rw[A6,<-e1];exact hk
    refine wpAny_pyNext_enum_endD (eX (A:=X.A.in1) (Iv.ok.hd hc) t I l (Bp b) us.toArray i e2) z1 ⟨rfl,z2,px⟩ λh2 eb=>⟨rfl,Inv.turnedL [I] Iv (t':=s.toks) (λc o nc q=>eb c o (λz=>nc (by simp[z])) q) λc hc=>hf c ?_⟩
    have:c=I:=by simpa using hc
    subst this;simp
  self:=λ_ _ _ _ _ st h=>Xv st.1.choose_spec h
section
variable{prog:AL}{w:Az}{A:AR}{E:Vq}{s:Ao}
theorem Zk(t:Ak)(l:Ah)(xs:Bj Aj):Meets (Builtin.«enumerate.__new__» ⟨[.type "enumerate",.ref l],[]⟩) (λ_ R s=>Go t s.heap l xs /\
   R (.ok (.ret (.ref (s.heap.push (itO t l)).objs.size))) { s with heap:=(s.heap.push (itO t l)).push { cls:=.type "enumerate",data:=.fields #[.none,.bool Ad,.ref s.heap.objs.size,D1 0,.none,.none] } }):=
 .of_wp λprog w A R s h=>by
  obtain⟨hp,g,d,tk,os⟩:=s;obtain⟨hl,h⟩:=h;have hsub:=sub_enumerate;have hL:Go t (Shared.heap ⟨hp,g,d,tk,os⟩) l xs:=hl
  wp_walk
  refine wpAny_stack_any λst=>Bi ?_
  split
  .rename_i c _ _ _ _ _;cases (c==JS "enumerate")
   .wp_walk using Pe hL
    exact⟨_,rfl,h⟩
   .wp_walk using Pe hL
    exact⟨_,rfl,h⟩
  .wp_walk using Pe hL
   exact⟨_,rfl,h⟩
theorem Zj{xs:Bj Aj}{Q:Vq}(hL:Go t s.heap l xs)(h:∀ h',IsEnum h' (s.heap.objs.size+1) s.heap.objs.size 0 .none->F5 t h' s.heap.objs.size l 0->(∀ b o,s.heap.get? b=Aa o->h'.get? b=Aa o)->Q (.ref (s.heap.objs.size+1)) {s with heap:=h'}):
    Aw (model prog w) A (call (.type "enumerate") [.ref l]) Q E s:=by
  refine callType_new F.called_enumerate (by decide) (F.typeCall_enumerate_1 _) (F.newCall_enumerate_1 _) (λobj=>F.args_object_init_2 obj _) F.entry_enumerate_new (Zk t l xs) ⟨hL,?_⟩
  have hz:(s.heap.push (itO t l)).objs.size=s.heap.objs.size+1:=Ds ..;show _/\_;rw[hz];have he:IsEnum ((s.heap.push (itO t l)).push { cls:=.type "enumerate",data:=.fields #[.none,.bool Ad,.ref s.heap.objs.size,D1 0,.none,.none] }) (s.heap.objs.size+1) s.heap.objs.size 0 .none:=by
    have:=Be (s.heap.push (itO t l)) (o:={ cls:=.type "enumerate",data:=.fields #[.none,.bool Ad,.ref s.heap.objs.size,D1 0,.none,.none] }) rfl;rw[hz]at this;exact this
  exact⟨⟨_,he,rfl⟩,h _ he (kJ (Ax _ (Be _ (Zy _ _)))) λb o x=>Ax _ (Ax _ x)⟩
end
def qI(K:Fg)(ta:TA):TI:=λY H R=>ta Y H λvs H1=>∃ t a xs,vs=[.ref a]/\SqX t K H1 a xs/\(xs.length<=sizeLine->R (Ite K t a) H1)
theorem dL{a:Am}{ta:TA}{tpos:AA}(hg:Gl X "enumerate")(hm:X.mg "enumerate" = Ae)(ha:PA X [a] ta)(hs:Ar [a] X.env=[(Ad,eval a X.env)]):
  PI X (.Tuple es n tpos) (.Call (.Name "enumerate" p) [a] [] pos) (qI X.K ta):=by
 intro pI s Y H R I h;refine Call_ (Kn I hg hm PyProof.Rows.boot_enumerate (Dy (thn (ha pos pI s Y H _ I h) λus s1 ⟨vs,H1,I1,r1,q1⟩=>?_) hs rfl))
 obtain⟨t,c,xs,e,sx,q⟩:=q1;subst e;cases r1 with
 |cons r rr=>
  cases rr;cases r;obtain⟨us,ru,pu,zu⟩:=OQ I1 sx;refine Zj pu λh2 z1 z2 kp=>Xv z1 ?_
  refine⟨s1.heap.objs.size+1,[s1.heap.objs.size,s1.heap.objs.size+1],_,_,H1,rfl,I1.kept (t':=s1.toks) kp,Ye t s1.heap.objs.size c pu.lt,⟨⟨_,z1⟩,z2⟩,λb hb=>?_,q zu⟩
  have hb':s1.heap.objs.size<=b:=by
   simp only[AH,Co,EG]at hb;rcases hb with z|z<;>rw[z]<;>simp
  exact I1.fpOk hb' (I1.hok.fresh hb')
theorem Ri:∀(j:Ai)(xs:Ac D),(DM j xs).length=xs.length
 |_,[]=>rfl
 |j,x::xs=>by rw[DM,Ba,Ri,Ba]
theorem Rj:∀(xs:Ac D)(j:Ai)(i:Af)(d:D),(DM j xs)[i]?=Aa d->∃ x,xs[i]?=Aa x/\d=.tup [.int (j+i),x]
 |[],j,i,d,h=>by simp[DM]at h
 |x::xs,j,0,d,h=>by
  rw[DM]at h;simp only[List.getElem?_cons_zero,En]at h;exact⟨x,rfl,by rw[<-h];simp⟩
 |x::xs,j,i+1,d,h=>by
  rw[DM]at h;simp only[List.getElem?_cons_succ]at h ⊢;obtain⟨y,h1,h2⟩:=Rj xs (j+1) i d h;exact⟨y,h1,by rw[h2];congr 3;omega⟩
section
variable{X:Cx}{CL:ClA}{W:XW}{pos p:AA}{a:Am}{fa:Rho->R D}
end
noncomputable abbrev Vj(h:AE)(z TI TO:Ah)(f0 f1:Aj):Prop:=h.get? z=Aa { cls:=.type "zip",dict:=Ae,data:=.fields #[f0,f1,.bool Ad,.ref TI,.ref TO],slots:=#[] }
noncomputable abbrev Vk(h:AE)(T:Ah)(a b c:Aj):Prop:=h.get? T=Aa { cls:=.type "tuple",data:=.seq #[a,b,c] }
section
variable{prog:AL}{w:Az}{A:AR}{E:Vq}{s:Ao}
def Z_3(t1 t2 t3:Ak)(I l1 l2 l3 i:Af)(h:AE):Prop:=Vk h (I+3) (.ref (I+0)) (.ref (I+1)) (.ref (I+2))/\F5 t1 h (I+0) l1 i/\F5 t2 h (I+1) l2 i/\F5 t3 h (I+2) l3 i/\(∃ a b c,Vk h (I+4) a b c) /\
 (Vj h (I+5) (I+3) (I+4) .none (.bool Ad)\/∃(T1:Af)(f1:Ak),Vj h (I+5) (I+3) (I+4) (D1 T1) (.bool f1))
end
section
variable{prog:AL}{w:Az}{A:AR}{R:G1->Ao->Prop}
end
section
variable{prog:AL}{w:Az}{A:AR}{E:Vq}{s:Ao}
end
theorem Z_3.ty{t1 t2 t3:Ak}{I l1 l2 l3 i:Af}(z:Z_3 t1 t2 t3 I l1 l2 l3 i s.heap):s.TypeIs (.ref (I+5)) "zip" := by
 obtain⟨_,_,_,_,_,hz|⟨_,_,hz⟩⟩:=z
 .exact⟨_,hz,rfl⟩
 .exact⟨_,hz,rfl⟩
theorem Z_3.lt{t1 t2 t3:Ak}{I l1 l2 l3 i:Af}(z:Z_3 t1 t2 t3 I l1 l2 l3 i s.heap):I+5<s.heap.objs.size:=by
 obtain⟨o,h,_⟩:=z.ty;exact AK h
section
variable{prog:AL}{w:Az}{A:AR}{E:Vq}{s:Ao}
end
section
variable{X:Cx}{CL:ClA}{W:XW}{pos p pos' p':AA}{a b c:Am}{fa fb fc:Rho->R D}
end
section
variable{X:Cx}{CL:ClA}{W:XW}{pos p tpos:AA}{a b c:Am}{fa fb fc:Rho->R D}{x:Ag}
end
section
variable{X:Cx}{CL:ClA}{W:XW}{a:Am}{fa:Rho->R D}
end
section
variable{X:Cx}{CL:ClA}{W:XW}{o o' e:Am}{fe:Rho->R D}{i j:Af}{apos cpos apos' cpos' pos:AA}
end
section
variable{X:Cx}{CL:ClA}{W:XW}
theorem jN(I:Inv X pI Y H s){ds:Ac D}(B:AR)(hd:flD n d=Ab)(hs:ds.all (flD n)=Ab)(r:Reps X.K CL H A0 xs ds)(rv:AW xs its)(q:Rep X.K CL H A0 v d)(qv:Bs v u)(hu:B.units+n<BE):∃ e:Aj->Ak,(∀ y,y∈its.toArray->D8 B s y u (e y))/\∀ j (h:j<its.length),e its[j]=eqD (ds.getD j .non) d:=by
 have l1:=rv.length;have l2:=r.length
 have key:∀ y,y∈its->∃ k:Ak,D8 B s y u k/\∀ j (h:j<its.length),its[j]=y->eqD (ds.getD j .non) d=k:=λy hy=>by
  obtain⟨j,hj,rfl⟩:=EM hy;obtain⟨x,rx,qx⟩:=Ik r rv hj;refine⟨eqD (ds.getD j .non) d,(Kg I n _ _ x v _ _ B (HE hs j) hd rx q qx qv hu).2.1,λj' hj' e=>?_⟩
  obtain⟨x',rx',qx'⟩:=Ik r rv hj';rw[e]at qx';have z:=Bs.inj qx qx';subst z;rw[Lj I n _ _ (HE hs j') (HE hs j) rx' rx]
 have key2:∀ y,∃ k:Ak,y∈its->D8 B s y u k/\∀ j (h:j<its.length),its[j]=y->eqD (ds.getD j .non) d=k:=λy=>by
  by_cases hy:y∈its
  .obtain⟨k,hk⟩:=key y hy;exact⟨k,λ_=>hk⟩
  .exact⟨Ab,λh=>absurd h hy⟩
 exact⟨λy=>Vr (key2 y),λy hy=>(DE (key2 y) (by simpa using hy)).1,λj hj=>((DE (key2 its[j]) (FH _)).2 j hj rfl).symm⟩
end
section
variable{X:Cx}
variable{CL:ClA}{W:XW}{pos p pos' p':AA}{a b:Am}{fa fb:Rho->R D}
end
section
variable{X:Cx}{CL:ClA}{W:XW}{e o o' k l:Am}{fe:Rho->R Ov.D}{i ik il:Af}{pos spos spos' tpos:AA}{kt:Af}
end
section
variable{prog:AL}{w:Az}{A:AR}{E:Vq}{s:Ao}
end
section
variable{X:Cx}{pos:AA}{CL:ClA}
end
section
variable{X:Cx}{CL:ClA}{W:XW}
end
end Ov
namespace Ov
open PySem PySem.W PyProof.Rows
variable{p:Bj Af}{m:Af}
def Kr{α:Type}(lt:Af->Af->Ak)(n:Af):KasT α->(α->Prop)->Prop
 |.ret a,Q=>Q a
 |.ask i j k,Q=>i<n/\j<n/\Kr lt n (k (lt i j)) Q
theorem Kr.mono{α:Type}{lt:Af->Af->Ak}{n:Af}{Q Q':α->Prop}:∀{t:KasT α},Kr lt n t Q->(∀ a,Q a->Q' a)->Kr lt n t Q'
 |.ret _,h,k=>k _ h
 |.ask i j f,h,k=>⟨h.1,h.2.1,Kr.mono (t:=f (lt i j)) h.2.2 k⟩
theorem Kr.bind{α β:Type}{lt:Af->Af->Ak}{n:Af}{f:α->KasT β}{Q:β->Prop}:∀{t:KasT α},Kr lt n t (λa=>Kr lt n (f a) Q)->Kr lt n (t.bind f) Q
 |.ret _,h=>h
 |.ask i j k,h=>⟨h.1,h.2.1,Kr.bind (t:=k (lt i j)) h.2.2⟩
structure Sto (lt:Af->Af->Ak) (n:Af):Prop where
 tr:∀ i j k,i<n->j<n->k<n->lt i j=Ab->lt j k=Ab->lt i k=Ab
 tot:∀ i j,i<n->j<n->i≠j->lt i j=Ad->lt j i=Ab
 asy:∀ i j,i<n->j<n->lt i j=Ab->lt j i=Ad
noncomputable def at0(p:Bj Af)(x:Af):Af:=p.getD x 0
structure Pm (n:Af) (p:Bj Af):Prop where
 sz:p.size=n
 lt:∀ x,x<n->at0 p x<n
 inj:∀ x y,x<n->y<n->at0 p x=at0 p y->x=y
section
variable{lt:Af->Af->Ak}{n:Af}
def Qc(lt:Af->Af->Ak)(p:Bj Af)(m:Af):Prop:=∀ x y,x<y->y<m->lt (at0 p x) (at0 p y)=Ab
def Qe(lt:Af->Af->Ak)(p:Bj Af)(m:Af):Prop:=∀ x y,x<y->y<m->lt (at0 p y) (at0 p x)=Ab
theorem Qc.succ(S:Sto lt n)(hp:Pm n p)(h1:1<=m)(hm:m<n)(h:Qc lt p m)(e:lt (at0 p (m-1)) (at0 p m)=Ab):Qc lt p (m+1):=λx y hxy hy=>by
 by_cases hym:y<m
 .exact h x y hxy hym
 .have:y=m:=by omega
  subst this;by_cases hx:x=y-1
  .rw[hx];exact e
  .exact S.tr _ _ _ (hp.lt _ (by omega)) (hp.lt _ (by omega)) (hp.lt _ hm) (h x (y-1) (by omega) (by omega)) e
theorem Qe.succ(S:Sto lt n)(hp:Pm n p)(h1:1<=m)(hm:m<n)(h:Qe lt p m)(e:lt (at0 p m) (at0 p (m-1))=Ab):Qe lt p (m+1):=λx y hxy hy=>by
 by_cases hym:y<m
 .exact h x y hxy hym
 .have:y=m:=by omega
  subst this;by_cases hx:x=y-1
  .rw[hx];exact e
  .exact S.tr _ _ _ (hp.lt _ hm) (hp.lt _ (by omega)) (hp.lt _ (by omega)) e (h x (y-1) (by omega) (by omega))
end
section
variable{prog:AL}{w:Az}{A:AR}{E:Vq}{κ:SortKind}{it:Bj Keyed}
end
section
variable{lt:Af->Af->Ak}{n:Af}
end
def OD(h:AE)(v:Aj)(r:Ac Ai):Prop:=∃ a its,v=.ref a/\KP h a its/\HM its.toList r/\r≠[]
theorem OD.kept{h h':AE}{v:Aj}{r:Ac Ai}(t:OD h v r)(k:∀ b o,h.get? b=Aa o->h'.get? b=Aa o):OD h' v r:=by
 obtain⟨a,its,e,⟨o,ho,q⟩,i,n⟩:=t;exact⟨a,its,e,⟨o,k _ _ ho,q⟩,i,n⟩
section
variable{prog:AL}{w:Az}{A:AR}{E:Vq}{s:Ao}
end
end Ov
section
namespace Ov
open PySem PySem.Spec PyProof.Rows L2
section
variable{X:Cx}{CL:ClA}{W:XW}
end
end Ov
end
section
namespace Ov
open PySem PySem.Spec PyProof.Rows
section
variable{t:SetTable}{hashAt:Af->Ai}{h:Ai}
noncomputable def stand(i b:Af):SetTable.Probe:=⟨i,0,i,b,Ae⟩
end
section
variable{prog:AL}{w:Az}{A:AR}{E:Vq}{s:Ao}{K:Type} [DecidableEq K] {knd:KeyKind prog w K}
end
section
variable{prog:AL}{w:Az}{A:AR}{R:G1->Ao->Prop}{I:Ah}{fp wr:Ac Ah}{G:Bj Ec->Bj Ec->Prop}{n:Af}{P:Af->Aj->Prop}{St:Af->Ao->Prop}
end
section
variable{prog:AL}{w:Az}{A:AR}{E:Vq}{s:Ao}
end
end Ov
end
namespace Ov
open PySem PySem.Spec PyProof.Rows L2
variable{h h':AE}{P:AL}{w:Az}{H H':Hp}{oe:C7}{vs:Bj Aj}{Q:DL->Ao->Prop}{T' C C' OV:Ah}{a0 fv:Aj}{X:Cx}{pI pl:Pn}{Y Y0:L2.St}{K:Fg}{x g z par name qual q x0 x1:Ag}{v:An Aj}{M:FZ}{tk:CI}{fill expr:Ak}{φ:AE->Prop}{CL:ClA}{Fz:Fr}{B A A':Ah->Prop}{U U':Rho}{W:XW}{hs body:Ac AG}{h0:AG}{p1 pos p pos' p2 p3 apos cpos:AA}{fh:Rho->O}{dx od an:An Ah}{up:Af->Ac Af}{CX:CXT}{k c kk:Af}{fd:Bv}{ps N':Ac Ag}{F:Ac D->R D}{Xw:Vq}{xn:Af->Ac D->R Ex}{d d1 d2 d':D}{Rp:Hp->V->D->Prop}{fc:Rho->R Ak}{ev tg elt:Am}{fy fo fe:Rho->R D}{ms:Ac (Af×Af)}{Z:Gam}{D':Ends}{scope:BK}{ts:Ac Af}{us:Ac Aj}{α:Type}{env:Cc}{as:Es}{xs ys:Ac Am}{u:DL}{osl:Bj (An Aj)}
section
variable{X:Cx}
def M5(K:Fg)(H:Hp):Ac V->Ac (Ac Ai)->Prop
 |[],[]=>G4
 |x::xs,k::ks=>(∃ b,x=.ref b/\SqT K H b (k.map V.int))/\M5 K H xs ks
 |_,_=>AU
theorem M5.length{K:Fg}{H:Hp}:∀{xs:Ac V}{ks:Ac (Ac Ai)},M5 K H xs ks->xs.length=ks.length
 |[],[],_=>rfl
 |_::_,_::_,h=>congrArg (· + 1) (M5.length h.2)
 |[],_::_,h=>h.elim
 |_::_,[],h=>h.elim
variable{CL:ClA}{W:XW}{pos p pos' p':AA}{a:Am}{fa:Rho->R D}
end
section
end
section
variable{X:Cx}
variable{CL:ClA}{W:XW}{o e:Am}{fe:Rho->R D}{i:Af}{apos cpos pos:AA}
end
section
open PySem.AutoSeq1 (wpAny_loadPart')
end
section
variable{prog:AL}{w:Az}{A:AR}{R:G1->Ao->Prop}{I S T:Ah}{u v:Aj}{c:Af}{P:Af->Aj->Prop}{St:Af->AE->Prop}{s:Ao}{r q:Ac Ai}
end
section
variable{X:Cx}{CL:ClA}{W:XW}
end
def Hh(e T:Ah)(cls:Aj)(dx:An Ah)(fl:Aj)(h:AE):Prop:=∃ oe vs oT ts a0,h.get? e=Aa oe/\oe.cls=cls/\oe.dict=dx/\vs[0]?=Aa a0/\oe.data=.fields vs/\vs[1]?=Aa (.ref T)/\T≠e/\h.get? T=Aa oT/\oT.data=.fields ts/\ts[3]?=Aa fl
noncomputable abbrev Fly(e T:Ah)(cls:Aj)(dx:An Ah)(h:AE):Prop:=Hh e T cls dx CB h
noncomputable def FM(C:Ah)(dx:An Ah)(t:Ah):C7:={cls:=.ref C,dict:=dx,data:=.fields #[.ref t,.none,.none,.none,.bool Ad,.none]}
structure Shift (ex fs:Ac Ah) (h h':AE):Prop where
 keep:∀ b o,h.get? b=Aa o->b∉ex->b∉fs->h'.get? b=Aa o
 slot:∀ b o,h.get? b=Aa o->b∈fs->∃ sl,h'.get? b=Aa {o with slots:=sl}
theorem Shift.trans{ex fs:Ac Ah}{h1 h2:AE}(a:Shift ex fs h h1)(b:Shift ex fs h1 h2):Shift ex fs h h2:=
 ⟨λc o q n m=>b.keep c o (a.keep c o q n m) n m,λc o q m=>by
  obtain⟨sl,e1⟩:=a.slot c o q m;obtain⟨sl',e2⟩:=b.slot c _ e1 m;exact⟨sl',e2⟩⟩
theorem ObjOk.isThere{a:Ah}:∀(o:HO),L2.ObjOk P w H h a o->∃ ob,h.get? a=Aa ob
 |.lst _,x=>by obtain⟨_,_,_,_,e⟩:=x;exact⟨_,e⟩
 |.tup _,x=>by obtain⟨_,_,_,p⟩:=x;obtain⟨o,e,_⟩:=p;exact⟨_,e⟩
 |.dK _,x=>by obtain⟨_,_,_,_,o,_,_,e,_⟩:=x;exact⟨_,e⟩
 |.dT _,x=>by obtain⟨_,_,_,_,o,_,_,e,_⟩:=x;exact⟨_,e⟩
 |.set _ _,x=>by obtain⟨o,_,_,_,e,_⟩:=x;exact⟨_,e⟩
 |.ins _ _ _,x=>by obtain⟨_,_,_,e,_⟩:=x;exact⟨_,e⟩
 |.own _,x=>x
 |.xd _,x=>by obtain⟨_,⟨_,_,_,e,_⟩,_⟩:=x;exact⟨_,e⟩
 |.met _ _,x=>⟨_,x⟩
 |.rng _ _,x=>by obtain⟨_,_,_,e⟩:=x;exact⟨_,e⟩
 |.frz _ _,x=>⟨_,x.1⟩
 |.tbl _,x=>⟨_,x⟩
 |.ext _,x=>x.2.1
theorem HB{a:Ah}(x:HOk P w H h)(e:h.get? a=Ae):H a=Ae:=by
 cases q:H a with
 |none=>rfl
 |some o=>
  obtain⟨ob,z⟩:=ObjOk.isThere o (x a o q);rw[e]at z;cases z
theorem HOk.shift{ex fs:Ac Ah}(x:HOk P w H h)(sh:Shift ex fs h h')(h1:∀ b∈ex,H b=Ae)(h2:∀ b∈fs,H b=Ae):HOk P w H h':=λa o e=>
 (x a o e).stay (λb u hb q=>by
  have hs:∃ v,H b=Aa v:=by
   rcases hb with rfl|hb
   .exact⟨_,e⟩
   .exact⟨_,hb⟩
  obtain⟨v,hv⟩:=hs;exact sh.keep b u q (λz=>by rw[h1 b z]at hv;cases hv) (λz=>by rw[h2 b z]at hv;cases hv)) (λ_ q=>q) λ_ _ q=>q
theorem Un.shift{fs0 fs ex:Ac Ah}{h0:AE}(u:Un fs0 [] H H' h0 h)(sh:Shift ex fs h h')(h1:∀ b∈ex,h0.get? b=Ae)(h2:∀ b∈fs,b∈fs0\/h0.get? b=Ae):Un fs0 [] H H' h0 h' where
 keep:=λb o q n hb hx=>sh.keep b o (u.keep b o q n hb hx) (λz=>by rw[h1 b z]at q;cases q) λz=>(h2 b z).elim hb λe=>by rw[e]at q;cases q
 slot:=λb o q n hb hx=>by
  obtain⟨sl,e1⟩:=u.slot b o q n hb hx;by_cases hf:b∈fs
  .obtain⟨sl',e2⟩:=sh.slot b _ e1 hf;exact⟨sl',e2⟩
  .exact⟨sl,sh.keep b _ e1 (λz=>by rw[h1 b z]at q;cases q) hf⟩
 free:=u.free
 there:=λb o q hx=>by
  obtain⟨o',e1⟩:=u.there b o q hx;by_cases hf:b∈fs
  .obtain⟨sl',e2⟩:=sh.slot b _ e1 hf;exact⟨_,e2⟩
  .exact⟨o',sh.keep b _ e1 (λz=>by rw[h1 b z]at q;cases q) hf⟩
 tups:=u.tups
 frzs:=u.frzs
 tbls:=u.tbls
theorem eZ(f:Bj Aj->Bj Aj)(o:C7):(EI f o).dict=o.dict:=by
 obtain⟨c,d,dt,sl⟩:=o;cases dt<;>rfl
section
variable{M:FZ}{A:AR}{E:Vq}{s:Ao}{env:Cc}{outer:Ac Cc}{L e T:Ah}{cls:Aj}{dx:An Ah}{base h:AE}
theorem NZ{hd:Aj}{nx:Ak}(hfr:A.frames=Aa (env::outer))(hf:env.frame=Aa L)(ff:s.heap.FunFrames base (env::outer))(he:s.heap.get? e=Aa oe)(dt:oe.data=.fields vs)(hz:1<vs.size)(hQ:∀ h' T' oT ts,h'.get? e=Aa (EI (·.setIfInBounds 1 (.ref T')) oe)->T'≠e->s.heap.get? T'=Ae->h'.get? T'=Aa oT->oT.data=.fields ts->ts[3]?=Aa (D1 L)->Shift [e] (frs (env::outer)) s.heap h'->Q () {s with heap:=h'}):
  Aw M A (do
   let fr <-frameOf env
   let pl <-entryPlaceOf L nx
   let en <-V3 hd fr .none (D1 L) .none pl
   setField (.ref e) 1 en) Q E s:=by
 have nf:e∉frs (env::outer):=λz=>by
  obtain⟨_,o,q,n⟩:=ff.mem z;rw[he]at q;cases q;exact n vs dt
 refine As (wpAny_frameOf_fun hfr ff hf λk1 so=>As (wpAny_entryPlaceOf λpl ip=>?_))
 obtain⟨sz,sm,sl⟩:=so;have e1:k1.get? e=Aa oe:=(sm e nf).trans he;unfold V3;unfold newFields;refine As (Fv ?_ (ip.sizeOk5 _ _ _ _ _));generalize hX:({ cls:=.type "traceback",dict:=Ae,data:=.fields ([hd,.ref L,.none,D1 L,.none]++(if pl.isEmpty then Gc 6 CB else pl)).toArray }:C7)=ob
 have od:ob.data=.fields ([hd,.ref L,.none,D1 L,.none]++(if pl.isEmpty then Gc 6 CB else pl)).toArray:=by rw[<-hX]
 have nl:k1.objs.size≠e:=GX (AK e1);have e2:=Ax ob e1;refine DZ e2 dt hz ?_;have up:∀ b,b≠e->((k1.push ob).update e (EI (·.setIfInBounds 1 (.ref k1.objs.size)))).get? b=(k1.push ob).get? b:=λb nb=>BP _ _ (Cn nb)
 have lf:ob.isFreed=Ad:=by rw[<-hX];rfl
 refine hQ _ k1.objs.size ob _ (Ci _ e2 (Dc (B6 dt _))) nl ?_ ((up _ nl).trans (Be k1 lf)) od ?_ ⟨λb o q n1 n2=>?_,λb o q hb=>?_⟩
 .rw[sz];exact CH (AN _)
 .simp
 .have nb:b≠e:=λz=>n1 (by rw[z];exact AO)
  rw[up b nb];exact Ax ob ((sm b n2).trans q)
 .obtain⟨sl',q'⟩:=sl b o q;have nb:b≠e:=λz=>nf (z ▸ hb)
  exact⟨sl',(up b nb).trans (Ax ob q')⟩
theorem NQ{oT:C7}{ts:Bj Aj}{fl:Aj}(hc:oe.cls=cls)(hx:oe.dict=dx)(h0:vs[0]?=Aa a0)(dt:oe.data=.fields vs)(hz:1<vs.size)(g:h'.get? e=Aa (EI (·.setIfInBounds 1 (.ref T')) oe))(ne:T'≠e)(gT:h'.get? T'=Aa oT)(dT:oT.data=.fields ts)(f3:ts[3]?=Aa fl):Hh e T' cls dx fl h':=
 ⟨_,_,oT,ts,a0,g,(WJ _ _).trans hc,(eZ _ _).trans hx,by rw[Array.getElem?_setIfInBounds_ne (by decide)];exact h0,B6 dt _,by simp[hz],ne,gT,dT,f3⟩
theorem Hz{i:Af}{v:Aj}(q:vs[i]?=Aa v):i<vs.size:=(Array.getElem?_eq_some_iff.mp q).1
theorem Oh(hfr:A.frames=Aa (env::outer))(hf:env.frame=Aa L)(ff:s.heap.FunFrames base (env::outer))(fl:Fly e T cls dx s.heap)(hQ:∀ h' T',Hh e T' cls dx (D1 L) h'->Shift [e,T] (frs (env::outer)) s.heap h'->s.heap.get? T'=Ae->Q () {s with heap:=h'}):Aw M A (DX (.ref e) env) Q E s:=by
 obtain⟨oe,vs,oT,ts,a0,he,hc,hx,h0,dt,h1,ne,hT,dT,h3⟩:=fl;have z3:=Hz h3;unfold DX;simp only[hf];refine As (CV he dt h1 ?_);rw[AC (by simp:(Bc T != CB)=Ab)]
 refine As (CV hT dT h3 ?_);rw[AJ (by simp[D1]:¬ (CB==D1 L)=Ab)]
 refine As (DZ hT dT z3 ?_);have up:∀ b,b≠T->(s.heap.update T (EI (·.setIfInBounds 3 CB))).get? b=s.heap.get? b:=λb nb=>BP _ _ (Cn nb)
 have rcd:∀ b o,s.heap.get? b=Aa o->(∀ us,o.data≠.fields us)->b≠T:=λb o q n z=>by
  rw[z,hT]at q;cases q;exact n ts dT
 refine NZ (base:=base) hfr hf (ff.of_keeps λb o q n=>⟨o,(up b (rcd b o q n)).trans q,rfl⟩) ((up e (Cn ne)).trans he) dt (Hz h1) λh' T' oT' ts' g nT gn gT dT' f3 sh=>?_
 have T0:s.heap.get? T'=Ae:=by
  by_cases z:T'=T
  .rw[z]at gn;rw[Ci _ hT (Dc (B6 dT _))]at gn;cases gn
  .rw[<-up T' z];exact gn
 refine hQ h' T' (NQ hc hx h0 dt (Hz h1) g nT gT dT' f3) ⟨λb o q n1 n2=>?_,λb o q hb=>?_⟩ T0
 .simp only[AH,Co,EG,Gv]at n1;exact sh.keep b o ((up b n1.2).trans q) (by simp[n1.1]) n2
 .obtain⟨_,o',q',n⟩:=ff.mem hb;rw[q]at q';cases q';exact sh.slot b o ((up b (rcd b o q n)).trans q) hb
theorem Lm(fl:Hh e T cls dx fv s.heap)(hQ:∀ h',Fly e T cls dx h'->(∀ b o,b≠T->s.heap.get? b=Aa o->h'.get? b=Aa o)->Q () {s with heap:=h'}):Aw M A (FS (.ref e) Ae) Q E s:=by
 obtain⟨oe,vs,oT,ts,a0,he,hc,hx,h0,dt,h1,ne,hT,dT,h3⟩:=fl;have z3:=Hz h3;unfold FS;refine As (CV he dt h1 ?_);rw[AC (by simp:(Bc T != CB)=Ab)]
 refine DZ hT dT z3 (hQ _ ?_ λb o nb q=>(BP _ _ (Cn nb)).trans q)
 exact⟨oe,vs,_,_,a0,(BP _ _ ne).trans he,hc,hx,h0,dt,h1,ne,Ci _ hT (Dc (B6 dT _)),B6 dT _,by simp[z3]⟩
theorem LS{h1 h2:AE}{ex:Ac Ah}(ff:s.heap.FunFrames base (env::outer))(sh:Shift ex (frs (env::outer)) s.heap h1)(hT:s.heap.get? T'=Ae)(k:∀ b o,b≠T'->h1.get? b=Aa o->h2.get? b=Aa o):Shift ex (frs (env::outer)) s.heap h2:=
 ⟨λb o q n1 n2=>k b o (λz=>by rw[z,hT]at q;cases q) (sh.keep b o q n1 n2),λb o q hb=>let ⟨sl,q'⟩:=sh.slot b o q hb;⟨sl,k b _ (λz=>by rw[z,hT]at q;cases q) q'⟩⟩
theorem Yv(hfr:A.frames=Aa (env::outer))(hf:env.frame=Aa L)(ff:s.heap.FunFrames base (env::outer))(fl:Fly e T cls dx s.heap)(hQ:∀ h' T',Fly e T' cls dx h'->Shift [e,T] (frs (env::outer)) s.heap h'->(T'=T\/s.heap.get? T'=Ae)->Q () {s with heap:=h'}):Aw M A (leaving env (.ref e)) Q E s:=by
 unfold leaving;exact As (Oh hfr hf ff fl λh1 T' f1 sh hT=>Lm f1 λh2 f2 k=>hQ h2 T' f2 (LS ff sh hT k) (.inr hT))
theorem Yk(hfr:A.frames=Aa (env::outer))(hf:env.frame=Aa L)(ff:s.heap.FunFrames base (env::outer))(he:s.heap.get? e=Aa oe)(hc:oe.cls=cls)(hx:oe.dict=dx)(dt:oe.data=.fields vs)(h0:vs[0]?=Aa a0)(h1:vs[1]?=Aa .none)(hQ:∀ h' T',Fly e T' cls dx h'->Shift [e] (frs (env::outer)) s.heap h'->s.heap.get? T'=Ae->Q () {s with heap:=h'}):Aw M A (leaving env (.ref e)) Q E s:=by
 unfold leaving DX;simp only[hf];refine As (As (CV he dt h1 ?_));rw[AJ (by decide)]
 exact NZ (base:=base) hfr hf ff he dt (Hz h1) λh' T' oT ts g nT gn gT dT f3 sh=>Lm (NQ hc hx h0 dt (Hz h1) g nT gT dT f3) λh2 f2 k=>hQ h2 T' f2 (LS ff sh gn k) gn
theorem ZI(hfr:A.frames=Aa (env::outer))(hf:env.frame=Aa L)(ff:s.heap.FunFrames base (env::outer))(fl:Fly e T cls dx s.heap)(hQ:∀ h' T',Fly e T' cls dx h'->Shift [e,T] (frs (env::outer)) s.heap h'->(T'=T\/s.heap.get? T'=Ae)->Q () {s with heap:=h'}):Aw M A (DX (.ref e) env) (λ_ s2=>Aw M A (FS (.ref e) Ae) Q E s2) E s:=
 Oh hfr hf ff fl λh1 T' f1 sh hT=>Lm f1 λh2 f2 k=>hQ h2 T' f2 (LS ff sh hT k) (.inr hT)
theorem Yw{l:Ac Cc}{A':AR}(ff:s.heap.FunFrames base l)(fl:Fly e T cls dx s.heap)(hQ:∀ h' T',Fly e T' cls dx h'->Shift [e,T] (frs l) s.heap h'->(T'=T\/s.heap.get? T'=Ae)->Q () {s with heap:=h'}):Aw M A' (FS (.ref e) Ae) Q E s:=by
 obtain⟨oe,vs,oT,ts,a0,he,hc,hx,h0,dt,h1,ne,hT,dT,h3⟩:=id fl;refine Lm fl λh' f' k=>hQ h' T f' ⟨λb o q n1 n2=>k b o (λz=>n1 (by rw[z];simp)) q,λb o q hb=>⟨o.slots,k b o (λz=>?_) q⟩⟩ (.inl rfl)
 obtain⟨_,o',q',n⟩:=ff.mem hb;rw[z,hT]at q';cases q';exact n ts dT
end
def CXR(P:AL)(w:Az):CXT:=λouter H s E ev s'=>∃ e T cls dx H',ev=.ref e/\s'.os=s.os/\Fn s'.gens/\Un (frs outer) [] H H' s.heap s'.heap/\HOk P w H' s'.heap/\Fly e T cls dx s'.heap/\H' e=Ae/\H' T=Ae/\s.heap.get? e=Ae/\s.heap.get? T=Ae/\E cls dx H'
def LP(X:Cx)(CL:ClA)(W:XW):Prop:=∀ pI Y H s e C dx t x,Inv X pI Y H s->(X.ex=[]->X.s₀.heap.get? e=Ae)->H e=Ae->s.heap.get? e=Aa (FM C dx t)->Eh X.K CL H (.ref C) dx x->W x H->X.xe (.ref e) s
section
variable{P:AL}{w:Az}{K:Fg}{mg:Ag->An Aj}{base:AE}{N:Ac Ag}{qual:Ag}{scope:BK}{f:Ah}{cd:Aj}{A:AR}{outer:Ac Cc}{s:Ao}{H:Hp}{E:XK}{CL:ClA}{W:XW}
theorem Mh{s:Ao}(I:Inv X pI Y H s):∀ b∈frs X.stack,b∈X.fs\/X.s₀.heap.get? b=Ae:=λb hb=>by
 rcases AH.mp (I.stkSub b hb) with z|z
 .exact .inr (by rw[z];exact CH I.ok.above)
 .exact .inl z
theorem HA{s:Ao}{b:Ah}(I:Inv X pI Y H s)(hx:X.ex=[])(h:s.heap.get? b=Ae):X.s₀.heap.get? b=Ae:=by
 cases q:X.s₀.heap.get? b with
 |none=>rfl
 |some o=>
  obtain⟨o',z⟩:=I.base.there b o q (by rw[hx];simp)
  rw[h]at z;cases z
theorem Ub(hE:∀ x cls dx H',W x H'->Eh K CL H' cls dx x->E cls dx H'):∀ A',HH (CXR P w) (E2 (CXR P w) P w K mg base N qual scope f cd A outer s H E) (EKW K CL A' W):=by
 intro A' pI Y H1 s1 ev s2 I h;obtain⟨e,T,cls,dx,H',rfl,os,bare,un,hok,fl,he,hT,ne,nT,x,xr,wx⟩:=h;have I':=I.call' (s':=s2) (ch:=[]) os un hok bare (λb z=>absurd z (by simp))
 have hb0:Un (frs outer) [] H H' s.heap s2.heap:=I'.base;show Aw (model P w) (A.deeper (D7 qual scope s.heap.objs.size f cd)) (leaving (D7 qual scope s.heap.objs.size f cd) (.ref e)) _ _ s2;refine Yv (L:=s.heap.objs.size) I'.ok.frames rfl I'.stack fl λh' T' fl' sh hT'=>?_
 have e0:s.heap.get? e=Ae:=HA I rfl ne;have T0:s.heap.get? T=Ae:=HA I rfl nT;refine⟨e,T',cls,dx,H',rfl,I'.os,bare,Un.shift hb0 sh ?_ (Mh I'),HOk.shift hok sh ?_ I'.stkFree,fl',he,?_,e0,?_,?_⟩
 .intro b hb;rcases AH.mp hb with rfl|hb
  .exact e0
  .rw[Br.mp hb];exact T0
 .intro b hb;rcases AH.mp hb with rfl|hb
  .exact he
  .rw[Br.mp hb];exact hT
 .rcases hT' with rfl|z
  .exact hT
  .exact HB hok z
 .rcases hT' with rfl|z
  .exact T0
  .exact HA I' rfl z
 .exact hE x cls dx H' wx xr
theorem rzR(hE:∀ x cls dx H',W x H'->Eh K CL H' cls dx x->E cls dx H'):LP (E2 (CXR P w) P w K mg base N qual scope f cd A outer s H E) CL W:=by
 intro pI Y H1 s1 e C dx t x I e0 he ge xr hw;have hb0:Un (frs outer) [] H H1 s.heap s1.heap:=I.base;have e0':s.heap.get? e=Ae:=e0 rfl;show Aw (model P w) (A.deeper (D7 qual scope s.heap.objs.size f cd)) (leaving (D7 qual scope s.heap.objs.size f cd) (.ref e)) _ _ s1;refine Yk (cls:=.ref C) (dx:=dx) (L:=s.heap.objs.size) I.ok.frames rfl I.stack ge rfl rfl rfl (a0:=.ref t) rfl rfl λh' T' fl' sh hT'=>?_
 have one:∀{Z_:Ah->Prop},Z_ e->∀ b∈[e],Z_ b:=λ{Z_} z b hb=>by rw[Br.mp hb];exact z
 exact⟨e,T',.ref C,dx,H1,rfl,I.os,I.bare,Un.shift hb0 sh (one e0') (Mh I),HOk.shift I.hok sh (one (Z_:=λb=>H1 b=Ae) he) I.stkFree,fl',he,HB I.hok hT',e0',HA I rfl hT',hE x _ dx H1 hw xr⟩
theorem ownR:Dz (model P w) (E2 (CXR P w) P w K mg base N qual scope f cd A outer s H E).A (E2 (CXR P w) P w K mg base N qual scope f cd A outer s H E).env (E2 (CXR P w) P w K mg base N qual scope f cd A outer s H E).xe:=PassesOwn.leaving
end
noncomputable def veB:Ac Aj:=[.type "ValueError",.type "Exception",.type "BaseException",.type "object"]
noncomputable def Dg(K:Fg)(C:Ah)(v:An Aj):Ak:=match K.lookup C with
  | some ⟨.type "type",_,.cls c,z⟩=>(match c.mro,z.toList with
    |.ref c0::tl,[_,_,_,_,Aa (.builtin nw),_]=>c0==C&&(nw == "ValueError.__new__" && (!c.hasDel&&(PySem.W.tailIn K veB tl&&(Xf K c.ns&&Bl K c.ns "__init__" == Aa v))))
    | _,_=>Ad)
  |_=>Ad
theorem bE(q:IB K C veB "ValueError.__new__" = Ab):Dg K C Ae=Ab:=by
 unfold IB at q;unfold Dg;split at q
 .rename_i dd cd sl ho;split at q
  .rename_i C' bm k0 k1 k2 k3 n k5 hm hs;simp only[Al]at q;obtain⟨⟨⟨⟨⟨h1,h2⟩,h3⟩,h4⟩,h5⟩,h6⟩:=q;simp only[ho,hm,hs,Al];exact⟨h1,h2,h3,h4,h5,h6⟩
  .cases q
 .cases q
structure XcOk (K:Fg) (C:Ah):Prop where
 exc:∃ v,Dg K C v=Ab
 ga:Aq K (.ref C) "__getattribute__" = Aa (Aa (.builtin "BaseException.__getattribute__"))
 gt:Aq K (.ref C) "__getattr__" = Aa Ae
 cl:Aq K (.ref C) "__class__" = Aa (Aa (.builtin "object.__class__"))
 ob:B4 K C (.type "object")=Aa Ab
 be:BB K (.ref C) (.type "BaseException")=Aa Ab
 cs:(Do K C).isSome=Ab
 ve:BR K (.ref C) (.type "ValueError")=Aa Ab
def XAt(e C:Ah)(h:AE):Prop:=∃ o,h.get? e=Aa o/\o.cls=.ref C
theorem iK{N:Ah}{m:Ag->An Aj}{v:Aj}(X:K.In h)(G:h.Ns N m)(q:Bl K N x=Aa (Aa v)):m x=Aa v:=by
 obtain⟨ob,es,ep,g,dt,_,fd⟩:=G;unfold Bl at q;split at q
 .rename_i es' n' sl lk;have g':=X _ _ lk;rw[g]at g';cases g';cases dt;split at q
  .rename_i hf;cases q;rw[<-fd];unfold nsFind findBy;rw[<-Vm,hf];rfl
  .by_cases z:(es.toList.any λy=>y.refKey)=Ab
   .rw[AC z]at q;cases q
   .rw[AJ z]at q;cases q
 .cases q
theorem Le{h0:AE}(X0:K.In h0)(q:Dg K C v=Ab):
  ∃ bm N nm qn bs hd sn sub ab col dd k0 k1 k2 k3 k5 mN,(∀ h:AE,K.In h->h.get? C=Aa (BQ nm qn C N bs bm hd sn sub ab col dd k0 k1 k2 k3 k5 "ValueError.__new__")/\h.Ns N mN/\DF h veB bm)/\mN "__init__" = v/\bm.contains (.type "BaseException")=Ab:=by
 unfold Dg at q;split at q
 .rename_i dd cd sl ho;split at q
  .rename_i C' bm k0 k1 k2 k3 n k5 hm hs;simp only[Al,AB,Bm]at q;obtain⟨rfl,rfl,hdel,ht,hok,hni⟩:=q;obtain⟨nm,bs,mro,ns,qn,hd,sn,sub,ab,col,del⟩:=cd;dsimp only at hm hdel hok hni;subst hm hdel;have hsl:sl=#[k0,k1,k2,k3,Aa (.builtin "ValueError.__new__"),k5]:=by
    obtain⟨l⟩:=sl;simp only at hs;rw[hs]
   subst hsl;have kN:∃ o,K.lookup ns=Aa o:=by
    unfold Xf at hok;split at hok
    .rename_i z;exact⟨_,z⟩
    .cases hok
   obtain⟨oN,hoN⟩:=kN;have nsAt:∀ h:AE,K.In h->h.Ns ns (h0.nsMap ns):=λh X=>by
    obtain⟨o,es,ep,e1,r⟩:=Heap.Ns.of_isNs (W9 X0 hok);have e2:=X0 _ _ hoN;rw[e1]at e2;cases e2;exact⟨_,es,ep,X _ _ hoN,r⟩
   refine⟨bm,ns,nm,qn,bs,hd,sn,sub,ab,col,dd,k0,k1,k2,k3,k5,h0.nsMap ns,λh X=>⟨X _ _ ho,nsAt h X,Xg X ht⟩,?_,(Xg X0 ht).hasType (by decide)⟩
   cases v with
   |none=>exact PySem.W.nsMap_none_of_in X0 hok hni
   |some u=>exact iK X0 (.of_isNs (W9 X0 hok)) hni
  .cases q
 .cases q
theorem eV(X:K.In h)(q:Dg K C v=Ab):
  ∃ bm N nm qn bs hd sn sub ab col dd k0 k1 k2 k3 k5 mN,h.get? C=Aa (BQ nm qn C N bs bm hd sn sub ab col dd k0 k1 k2 k3 k5 "ValueError.__new__")/\h.Ns N mN/\mN "__init__" = v/\DF h veB bm:=by
 obtain⟨bm,N,nm,qn,bs,hd,sn,sub,ab,col,dd,k0,k1,k2,k3,k5,mN,ho,hi,_⟩:=Le X q;obtain⟨o1,o2,o3⟩:=ho h X;exact⟨bm,N,nm,qn,bs,hd,sn,sub,ab,col,dd,k0,k1,k2,k3,k5,mN,o1,o2,hi,o3⟩
section
variable{prog:AL}{w:Az}{A:AR}{E:Vq}{h:AE}{g:Bj Ec}{d:Hq}{t:Af}{os:GP}{K:Fg}{e C:Ah}
theorem Jb(p:XAt e C h):PySem.W.Looks M h (typeOf (.ref e)) (.ref C):=by
 obtain⟨o,h1,h2⟩:=p;exact h2 ▸ (PySem.W.Looks.ld h1).andThen .now
theorem Y_0{R:G1->Ao->Prop}{tp:Aj}(X:K.In h)(p:XAt e C h)(hm:B4 K C (.type "object")=Aa Ab)(hq:R (.ok (.ret (.ref C))) ⟨h,g,d,t,os⟩):
  Ep (model prog w) A (.call (.builtin "getset_descriptor.__get__") ⟨[.builtin "object.__class__",.ref e,tp],[]⟩) R ⟨h,g,d,t,os⟩:=by
 have L0:=Jb (M:=model prog w) p;have L1:=PySem.W.looks_mroIn (M:=model prog w) X hm;refine DT PySem.W.KF.slot_gs.plain PySem.W.KF.entry_gs (PySem.W.KF.slot_gs.check _ _ _ _ _ _ _ _ PySem.W.KF.type_class (PySem.W.KF.args_gs _ _ _) ?_);unfold Builtin.«getset_descriptor.__get__» Builtin.Getset_descriptor.descrGet;rw[PySem.W.dga_obj];refine As (Bi ?_);unfold Builtin.Getset_descriptor.descrGetter Builtin.Getset_descriptor.descrCheckInstance Builtin.Getset_descriptor.descrNameAndClass HZ;simp only[PySem.W.KF.owner_class]
 repeat lk
 refine⟨Gs _ (by decide+kernel),codeAny_builtin PySem.W.KF.entry_class ?_⟩
 unfold Builtin.«object.__class__» shownTypeOf
 repeat lk
 exact hq
theorem XX{Q:Fin->Ao->Prop}(X:K.In h)(x:XcOk K C)(p:XAt e C h)(hq:Q (.done (.ret (.ref C))) ⟨h,g,d,t,os⟩):
  Aw (model prog w) A (Builtin.«object.__getattribute__» ⟨[.ref e,.str "__class__" tk],[]⟩) Q E ⟨h,g,d,t,os⟩:=by
 have L0:=Jb (M:=model prog w) p;have L1:=B8 (M:=model prog w) X x.cl;have hT5:(⟨h,g,d,t,os⟩:Ao).TypeIs (.builtin "object.__class__") "getset_descriptor" := WD;have f5:=WD;have f6:=F.slot_gs_get.lookup;have f7:=F.slot_gs_set.lookup
 repeat (any_goals (first|assumption|with_reducible refine L0.at ?_|with_reducible refine L1.at ?_|wp_step))
 refine Y_0 X p x.ob ?_
 repeat (any_goals (first|assumption|wp_step))
theorem Qt{nameV:Aj}(X:K.In h)(x:XcOk K C)(p:XAt e C h)(hq:Q () ⟨h,g,d,t,os⟩):Aw M A (FL "BaseException.__getattribute__" ⟨[.ref e,nameV],[]⟩) Q E ⟨h,g,d,t,os⟩:=by
 have hk:builtinKind "BaseException.__getattribute__" = Aa .slot:=by decide+kernel
 have hsplit:splitId "BaseException.__getattribute__" = Aa ("BaseException", "__getattribute__"):=by decide+kernel
 have L0:=Jb (M:=M) p;have L1:=Xe (M:=M) X x.be;have ha:=F.args_bexc_ga (.ref e) nameV;simp only[FL,hk,hsplit];refine As ?_
 .unfold HZ
  repeat (first|(with_reducible refine As (L0.at ?_))|(with_reducible refine L1.at ?_)|wp_step)
  exact hq
theorem bF{Q:Vq}(X:K.In h)(x:XcOk K C)(p:XAt e C h)(hq:Q (.ref C) ⟨h,g,d,t,os⟩):Aw (model prog w) A (getAttrBy (.ref e) (.str "__class__" tk) fill expr) Q E ⟨h,g,d,t,os⟩:=by
 have L0:=Jb (M:=model prog w) p;have L1:=B8 (M:=model prog w) X x.ga;have L2:=B8 (M:=model prog w) X x.gt;have f3:=Ft.ga.bind (.ref e);have hx0:(expr&&IT (Cq "BaseException.__getattribute__"))=Ad:=by cases expr<;>rfl
 have hx2:(Cq "BaseException.__getattribute__" == Cq "object.__getattribute__")=Ad:=by decide+kernel
 have hx1:(IT (Bc C)&&Cq "BaseException.__getattribute__" == Cq "object.__getattribute__")=Ad:=by rw[hx2];rfl
 repeat (any_goals (first|assumption|with_reducible refine L0.at ?_|with_reducible refine L1.at ?_|with_reducible refine L2.at ?_|wp_step))
 refine DT Ft.ga.plain Wv (Qt X x p (XX X x p ?_))
 repeat (any_goals (first|assumption|wp_step))
theorem Yb{Q:An Aj->Ao->Prop}(X:K.In h)(x:XcOk K C)(p:XAt e C h)(hq:Q (Aa (.ref C)) ⟨h,g,d,t+1,os⟩):Aw (model prog w) A (getAttr? (.ref e) "__class__") Q E ⟨h,g,d,t,os⟩:=by
 unfold getAttr? getAttrBy?
 repeat (any_goals (first|assumption|with_reducible apply bF X x p|wp_step))
end
theorem Rb{e C:Ah}(x:XcOk K C):PySem.W.KitX K (.ref e) (.ref C) (XAt e C) where
 ty:=λM h _ p=>Jb p
 it:=λM h X _=>by
  obtain⟨cd,hc⟩:=Ch.mp x.cs;unfold Do at hc;split at hc
  .rename_i c' d' cd' sl' ho;intro A' Q' E' s' k q;unfold isType loadHead;exact As (Xr (k _ _ (X _ _ ho)) (Bi q))
  .cases hc
 ne:=λh tp dd its n sl X htp=>by
  obtain⟨cd,hc⟩:=Ch.mp x.cs;refine Bool.eq_false_iff.mpr λq=>?_
  have e:C=tp:=IA (AB.mp q);subst e;unfold Do at hc;split at hc
  .rename_i c' d' cd' sl' ho;have z:=(X _ _ ho).symm.trans htp;cases z
  .cases hc
 ca:=λ{_ _ _ _ _ s} X p k=>by
  obtain⟨h,g,d,t,os⟩:=s;exact Yb X x p k
theorem Y_1{A:AR}{E:Vq}{g:Bj Ec}{d:Hq}{t:Af}{os:GP}{e C C':Ah}{b:Ak}{Q:Ak->Ao->Prop}(X:K.In h)(p:XAt e C h)(x':XcOk K C')(hs:BB K (.ref C) (.ref C')=Aa b)(hq:Q b ⟨h,g,d,t,os⟩):Aw M A (excMatches (.ref e) (.ref C')) Q E ⟨h,g,d,t,os⟩:=by
 obtain⟨bm,N,nm,qn,bs,hd,sn,sub,ab,col,dd,k0,k1,k2,k3,k5,mN,hC',_,_,T⟩:=eV X x'.exc.choose_spec;have hcB:(Bc C'::bm).contains (.type "BaseException")=Ab:=by rw[Gr,T.hasType (show veB.contains (.type "BaseException")=Ab by decide),ID]
 have L0:=Jb (M:=M) p;have L1:=Xe (M:=M) X hs;have f:=tc_notTuple;unfold excMatches
 repeat (first|(with_reducible refine As (L0.at ?_))|(with_reducible refine L1.at ?_)|(with_reducible refine As (L1.at ?_))|with_reducible refine B0 hC' ?_|(with_reducible refine EO hC' ?_;rw[hcB])|wp_step)
 all_goals first|exact hq|(cases b<;>(wp_walk;exact hq))
def FN(X:Cx)(pI:Pn)(e:Ah):Prop:=e≠X.env.locals/\(∀ x c,X.env.cells.lookup x=Aa c->c≠e)/\(∀ p∈X.pn++pI,p.1≠e)/\X.s₀.heap.get? e=Ae
section
variable{X:Cx}{pI:Pn}{Y:L2.St}{H:Hp}{s:Ao}{e:Ah}
theorem Jx(I:Inv X pI Y H s)(hx:X.ex=[])(h:s.heap.get? e=Ae):FN X pI e:=by
 refine⟨?_,λx c q z=>?_,λp hp z=>?_,HA I hx h⟩
 .rintro rfl;obtain⟨m,⟨o,_,_,ho,_⟩,_⟩:=I.loc;rw[h]at ho;cases ho
 .obtain⟨v,o,ho,_⟩:=I.cell x c q;rw[z,h]at ho;cases ho
 .obtain⟨q,_⟩:=I.pin p hp;rw[z,h]at q;cases q
theorem Q1{ex:Ac Ah}(I:Inv X pI Y H s)(hx:X.ex=[])(sh:Shift ex (frs X.stack) s.heap h')(ha:∀ b∈ex,FN X pI b)(hH:∀ b∈ex,H b=Ae):Inv X pI Y H {s with heap:=h'}:=by
 have kp:∀ b o,s.heap.get? b=Aa o->b∉ex->∃ sl,h'.get? b=Aa {o with slots:=sl}:=λb o q n=>by
  by_cases hb:b∈frs X.stack
  .exact sh.slot b o q hb
  .exact⟨o.slots,sh.keep b o q n hb⟩
 have cellK:∀ x c,X.env.cells.lookup x=Aa c->∀ v,s.heap.IsCell c v->h'.IsCell c v:=λx c q v ⟨o,ho,hd⟩=>by
  obtain⟨sl,z⟩:=kp c o ho λz=>(ha c z).2.1 x c q rfl
  exact⟨_,z,hd⟩
 refine⟨I.ok,I.os,I.bare,?_,?_,λx c q=>?_,I.free,I.freeC,λp hp=>?_,HOk.shift I.hok sh hH I.stkFree,I.len⟩
 .have b0:=I.base;rw[hx]at b0 ⊢;exact Un.shift b0 sh (λb hb=>(ha b hb).2.2.2) (Mh I)
 .obtain⟨m,⟨o,es,ep,ho,r⟩,hl⟩:=I.loc;obtain⟨sl,z⟩:=kp _ o ho λz=>(ha _ z).1 rfl
  refine⟨m,⟨_,es,ep,z,r⟩,λi x v e1 e2 e3=>?_⟩
  obtain⟨u,ru,l⟩:=hl i x v e1 e2 e3;refine⟨u,ru,?_⟩;rcases l with l|⟨k,c,q,z⟩
  .exact .inl l
  .exact .inr ⟨k,c,q,cellK x c q _ z⟩
 .obtain⟨v,z⟩:=I.cell x c q;exact⟨v,cellK x c q v z⟩
 .obtain⟨q,n,ne,nf,d⟩:=I.pin p hp;exact⟨sh.keep p.1 p.2 q (λz=>(ha p.1 z).2.2.1 p hp rfl) (λz=>(AH.mp (I.stkSub p.1 z)).elim ne nf),n,ne,nf,d⟩
theorem QY(I:Inv X pI Y H s)(hx:X.ex=[])(ha:FN X pI e)(hH:H e=Ae)(ho:∃ o,s.heap.get? e=Aa o)(p:φ s.heap)(hφ:∀ h1 h2:AE,φ h1->(∀ o,h1.get? e=Aa o->h2.get? e=Aa o)->φ h2):Inv X pI Y (upd H e (.ext φ)) s:=by
 have ne:∀ b o,H b=Aa o->b≠e:=λb o q z=>by rw[z,hH]at q;cases q
 refine⟨I.ok,I.os,I.bare,⟨I.base.keep,I.base.slot,λb o q n hb=>?_,I.base.there,λb xs q=>?_,λb o u q=>?_,λb ps q=>?_⟩,I.loc,I.cell,?_,λx c q=>?_,λp hp=>?_,λb o q=>?_,I.len⟩
 .rw[Bb λz=>by rw[z,ha.2.2.2]at q;cases q]
  exact I.base.free b o q n hb
 .have:=I.base.tups b xs q;rw[Bb (ne _ _ this)];exact this
 .have:=I.base.frzs b o u q;rw[Bb (ne _ _ this)];exact this
 .obtain⟨more,this⟩:=I.base.tbls b ps q;exact⟨more,by rw[Bb (ne _ _ this)];exact this⟩
 .rw[Bb λz=>ha.1 z.symm];exact I.free
 .rw[Bb (ha.2.1 x c q)];exact I.freeC x c q
 .obtain⟨q,n,r⟩:=I.pin p hp;exact⟨q,by rw[Bb (ha.2.2.1 p hp)];exact n,r⟩
 .by_cases hb:b=e
  .subst hb;rw[C8]at q;cases q;exact⟨p,ho,hφ⟩
  .rw[Bb hb]at q;exact(I.hok b o q).stay (λc v hc z=>z) (λc z=>by rw[Bb (ne _ _ z)];exact z) λc zs z=>by rw[Bb (ne _ _ z)];exact z
theorem YD{i:Af}{n:Ag}{m:Ag->An Aj}{tk:Af}(I:Inv X pI Y H s)(hN:X.N.Nodup)(hi:X.N[i]?=Aa n)(hn:s.heap.Ns X.env.locals m)(hn':h'.Ns X.env.locals (λx=>if x=n then v else m x))(hs:Eo X.env.locals s.heap h'):Inv X pI (Y.set i Ae) H {s with heap:=h',toks:=tk}:=by
 obtain⟨m0,hn0,hl⟩:=I.loc;have em:m0=m:=by
  obtain⟨o,es,ep,h1,h2,_,h3⟩:=hn0;obtain⟨o',es',ep',h1',h2',_,h3'⟩:=hn;rw[h1]at h1';cases h1';rw[h2]at h2';cases h2'
  funext y
  rw[<-h3,<-h3']
 subst em;obtain⟨oL,_,_,hoL,_⟩:=id hn;have lt:∀ b o,X.s₀.heap.get? b=Aa o->b≠X.env.locals:=λb o q=>Bp (AI (AK q) I.ok.above)
 refine⟨I.ok,I.os,I.bare,⟨λb o q n hb hx=>?_,λb o q n hb hx=>?_,I.base.free,λb o q hx=>?_,I.base.tups,I.base.frzs,I.base.tbls⟩,⟨_,hn',λj y v' e1 e2 e3=>?_⟩,λy c q=>?_,I.free,I.freeC,λp hp=>?_,λb ob q=>?_,by rw[AM];exact I.len⟩
 .exact(hs.2 b (lt b o q)).trans (I.base.keep b o q n hb hx)
 .obtain⟨sl,e1⟩:=I.base.slot b o q n hb hx;exact⟨sl,(hs.2 b (lt b o q)).trans e1⟩
 .obtain⟨o',e1⟩:=I.base.there b o q hx;exact⟨o',(hs.2 b (lt b o q)).trans e1⟩
 .by_cases hj:i=j
  .subst hj;have:=ES e2;cases this
  .rw[By hj]at e2;obtain⟨u',r',q⟩:=hl j y v' e1 e2 e3;refine⟨u',r',?_⟩;rcases q with ⟨k,e⟩|⟨k,c,e,z⟩
   .refine .inl ⟨k,?_⟩;have:y≠n:=λe=>hj (Oe hN hi (e ▸ e1))
    simp[this,e]
   .exact .inr ⟨k,c,e,z.sameBut hs (I.cne y c e)⟩
 .obtain⟨w',z⟩:=I.cell y c q;exact⟨w',z.sameBut hs (I.cne y c q)⟩
 .obtain⟨q,n,ne,nf,d⟩:=I.pin p hp;exact⟨(hs.2 p.1 ne).trans q,n,ne,nf,d⟩
 .refine(I.hok b ob q).stay (λc w' hc z=>(hs.2 c ?_).trans z) (λ_ q=>q) λ_ _ q=>q
  rintro rfl;have hfree:=I.free;rcases hc with z|hc
  .rw[<-z,hfree]at q;cases q
  .rw[hfree]at hc;cases hc
end
noncomputable def Cx.hot(X:Cx)(e:Ah):Cx:={X with A:=X.A.mark (Aa (.ref e)),calm:=Ad,xe:=λ_ _=>AU}
section
variable{X:Cx}{pI:Pn}{Y:L2.St}{H:Hp}{s:Ao}{e:Ah}
theorem iH(ok:X.Ok):(Cx.hot X e).Ok:=⟨ok.mod,ok.kind,ok.glob,ok.blt,ok.above,ok.inj,ok.has,ok.cab,λz=>(nomatch z),ok.frames,ok.stk,ok.exf,ok.bs,ok.bsz,ok.noex,ok.exfs,ok.funs,ok.frf⟩
theorem R5(I:Inv X pI Y H s)(e:Ah):Inv (Cx.hot X e) pI Y H s:=⟨iH I.ok,I.os,I.bare,I.base,I.loc,I.cell,I.free,I.freeC,I.pin,I.hok,I.len⟩
theorem ZB(ok:X.Ok)(I:Inv (Cx.hot X e) pI Y H s):Inv X pI Y H s:=⟨ok,I.os,I.bare,I.base,I.loc,I.cell,I.free,I.freeC,I.pin,I.hok,I.len⟩
theorem Sx.unset(x:Sx K CL Fz B U Y H)(i:Af):Sx K CL Fz B (U.set i Ae) (Y.set i Ae) H:=by
 have get:∀(j:Af)(y:D×Ak),(U.set i Ae)[j]?=Aa (Aa y)->i≠j/\U[j]?=Aa (Aa y):=λj y h=>by
  by_cases hj:i=j
  .subst hj;have:=ES h;cases this
  .exact⟨hj,by rw[By hj]at h;exact h⟩
 have sub:∀ a,Bg B (U.set i Ae) (Y.set i Ae) a->Bg B U Y a:=λa h=>by
  rcases h with h|⟨j,d,h1,h2⟩
  .exact .inl h
  .obtain⟨hj,h1⟩:=get j _ h1;rw[By hj]at h2;exact .inr ⟨j,d,h1,h2⟩
 refine⟨⟨λj d h=>?_,λj d h hn=>?_,by rw[AM,AM];exact x.len⟩,λa h=>x.aok a (sub a h),λj d a h1 h2=>?_,λj k d f a h1 h2 h3 h4=>?_,x.same,by rw[AM,AM];exact x.len,λj h=>?_⟩
 .obtain⟨hj,h1⟩:=get j _ h;obtain⟨v,q,r⟩:=x.good.sh j d h1;exact⟨v,by rw[By hj];exact q,Rep.sub sub _ r⟩
 .obtain⟨hj,h1⟩:=get j _ h;obtain⟨a,xs,ds,q,z,ha,hh,rr⟩:=x.good.ow j d h1 hn;exact⟨a,xs,ds,by rw[By hj];exact q,z,.inr ⟨j,d,h,by rw[By hj];exact q⟩,hh,Reps.sub sub _ rr⟩
 .obtain⟨hj,h1⟩:=get j _ h1;rw[By hj]at h2;exact x.new j d a h1 h2
 .obtain⟨hj,h1⟩:=get j _ h1;obtain⟨hk,h2⟩:=get k _ h2;rw[By hj]at h3;rw[By hk]at h4;exact x.dis j k d f a h1 h2 h3 h4
 .obtain⟨hj,h1⟩:=get j _ h;obtain⟨a,xs,p1,p2,p3⟩:=x.pin j h1;exact⟨a,xs,p1,by rw[By hj];exact p2,p3⟩
end
def Iy(e C:Ah)(dx:An Ah)(h:AE):Prop:=∃ o,h.get? e=Aa o/\o.cls=.ref C/\o.dict=dx/\∃ us,o.data=.fields us
noncomputable def JI(X:Cx)(CL:ClA)(pI:Pn)(Y:L2.St)(H:Hp)(y:Ex)(Xw:Vq):Prop:=
 ∀ s' H' e T cls dx,Inv X pI Y H' s'->Ay H H'->Fly e T cls dx s'.heap->H' e=Ae->H' T=Ae->FN X pI e->FN X pI T->Eh X.K CL H' cls dx y->Xw (.ref e) s'
def STB(X:Cx)(CL:ClA)(body:Ac AG)(f:Rho->O):Prop:=∀ Fz B pI s Y H D U (Xw:Vq),Dz (model X.prog X.w) X.A X.env Xw->Inv X pI Y H s->Sx X.K CL Fz B U Y H ->
  (match f U with
   |.exn y U'=>U'=U->JI X CL pI Y H y Xw
   | o=>Bw X.K CL Fz B (λ_ _=>AU) o D)->(∀ y U',f U=.exn y U'->U'=U)->Aw (model X.prog X.w) X.A (execs body X.env) (SP X pI D) Xw s
noncomputable def UG(up:Af->Ac Af)(c i:Af)(o:O)(fh:Rho->O):O:=match o with
  | .exn y U'=>if (up y.c).contains c=Ab then (match fh (U'.set i (Aa (.exc y.c y.fs,Ad))) with
      |.next U''=>.next (U''.set i Ae)
      |.ret d f=>.ret d f
      | _=>.bad) else .bad
  |o=>o
theorem eP{i:Af}{g n:Ag}{hp:AA}{b:Ak}{rest:Ac EH}{s1:Ao}{D:Ends}{e T1:Ah}{y:Ex}(hx:X.ex=[])(hN:X.N.Nodup)(hi:X.N[i]?=Aa n)(hl:X.env.scope.names.lookup n=Aa .local)(hg:Gl X g)(hm:X.mg g=Aa (.ref C'))(hdb:(g==("__debug__" : Ag))=Ad)(xc:XcOk X.K C')(hsu:BB X.K (.ref C) (.ref C')=Aa b)(hh:∀ e,SSs (Cx.hot X e) CL (λ_ _=>AU) (h0::hs) fh)(I1:Inv X pI Y H' s1)(fl1:Fly e T1 (.ref C) dx s1.heap)(ae:FN X pI e)(aT1:FN X pI T1)(he:H' e=Ae)(HT1:H' T1=Ae)(gx:Sx X.K CL Fz B U' Y H')(hcl:CL y.c=Aa C)(xr:Eh X.K CL H' (.ref C) dx y)(p2:b=Ab->Bw X.K CL Fz B W (hdO i y U' fh) D)(p3:b=Ad->Aw (model X.prog X.w) X.A (Jt (.ref e) X.env rest) (SP X pI D) X.xe s1):Aw (model X.prog X.w) X.A (Jt (.ref e) X.env (.ExceptHandler (Aa (.Name g p1)) (Aa n) (h0::hs) hp::rest)) (SP X pI D) X.xe s1:=by
 obtain⟨Cx0,hcl0,ecl,hfs⟩:=xr (Bg B U' Y) gx.aok;have xat:∀{h:AE}{T:Ah},Fly e T (.ref C) dx h->XAt e C h:=λ{h T} z=>by
  obtain⟨oe,_,_,_,_,z1,z2,_⟩:=z;exact⟨oe,z1,z2⟩
 have xad:∀{h:AE}{T:Ah},Fly e T (.ref C) dx h->Iy e C dx h:=λ{h T} z=>by
  obtain⟨oe,vs,_,_,_,z1,z2,z3,_,z4,_⟩:=z;exact⟨oe,z1,z2,z3,vs,z4⟩
 have two:∀{T:Ah}{Z_:Ah->Prop},Z_ e->Z_ T->∀ b∈[e,T],Z_ b:=λ{T Z_} h1 h2 b hb=>by
  rcases AH.mp hb with rfl|hb
  .exact h1
  .rw[Br.mp hb];exact h2
 refine wpAny_handleBy_cons (codeAny_handlers_test (Gy (X:=Cx.hot X e) (R5 I1 e) hg hm ?_ hdb)) (by intro q;cases q)
 refine Y_1 (K:=X.K) I1.kIn (xat fl1) xc hsu ?_;cases b with
 |false=>exact p3 rfl
 |true=>
 have p2:=p2 rfl;refine codeAny_handlers_suite_as ?_;refine Yw (base:=X.base) (l:=X.stack) I1.stack fl1 λh3 T3 fl3 sh3 hT3=>?_
 have I3:=Q1 I1 hx sh3 (two ae aT1) (two (Z_:=λb=>H' b=Ae) he HT1)
 obtain⟨oe,oeg,oec⟩:=xad fl3;have I3':=QY (φ:=Iy e C dx) I3 hx ae he ⟨oe,oeg⟩ ⟨oe,oeg,oec⟩ λh1 h2 ⟨o,q1,q2⟩ k=>⟨o,k o q1,q2⟩
 have sm3:Ay H' (upd H' e (.ext (Iy e C dx))):=λb o q=>by rw[Bb λz=>by rw[z,he]at q;cases q];exact q
 refine N9 (X:=Cx.hot X e) (i:=i) (v:=.ref e) (R5 I3' e) hN hi (.inl hl) rfl (λs4 I4=>?_) (.inr hl)
 have x3:=gx.grow sm3;have nA:¬ Bg B U' Y e:=λz=>by
  obtain⟨xs,q⟩:=x3.aok e z;rw[C8]at q;cases q
 have rp:Rep X.K CL (upd H' e (.ext (Iy e C dx))) (Bg B U' Y) (.ref e) (.exc y.c y.fs):=by
  refine⟨e,C,Iy e C dx,rfl,nA,hcl,C8,λh ⟨o,z1,z2,_⟩=>⟨o,z1,z2⟩,?_⟩
  rcases hfs with z|⟨d,vs,ed,nd,hd,rf⟩
  .exact .inl z
  .exact .inr ⟨d,vs,nd,sm3 _ _ hd,Repf.kp (Kp.of sm3) _ rf,λh ⟨o,z1,_,z3,z4⟩=>⟨o,z1,z3.trans ed,z4⟩⟩
 have x4:=x3.set i rp;have fin:∀{s5:Ao}{Y5:L2.St}{H5:Hp}{Q:DL->Ao->Prop},Inv (Cx.hot X e) pI Y5 H5 s5->(∀ s6,Inv X pI (Y5.set i Ae) H5 s6->Q () s6)->Aw (model X.prog X.w) X.A (do bindName X.env n .none;unbindBehindTheSuite X.env n hp) Q X.xe s5:=λ{s5 Y5 H5 Q} I5 k=>by
  have I5':=ZB I1.ok I5;obtain⟨m,hn,_⟩:=id I5'.loc;refine wpAny_nameGoes_keeps hl hn (by rw[I1.ok.kind];rfl) λh6 v6 hn6 sb6=>?_
  exact k _ (YD I5' hN hi hn hn6 sb6)
 refine A5 (hh e Fz B pI s4 _ _ {nx:=λY5 H5=>D.nx (Y5.set i Ae) H5,rt:=D.rt} I4 ⟨_,x4,?_⟩) (λf s5 hf=>?_) λ_ _ z=>AV z
 .unfold hdO at p2;cases ef:fh (U'.set i (Aa (.exc y.c y.fs,Ad))) with
  |next U''=>rw[ef]at p2;exact λY5 H5 x5=>p2 _ _ (x5.unset i)
  |ret d b=>rw[ef]at p2;exact p2
  |brk _=>rw[ef]at p2;exact p2.elim
  |cont _=>rw[ef]at p2;exact p2.elim
  |exn _ _=>rw[ef]at p2;exact p2.elim
  |bad=>rw[ef]at p2;exact p2.elim
 .cases f with
  |next=>
   obtain⟨Y5,H5,I5,q⟩:=hf;exact fin I5 λs6 I6=>⟨_,H5,I6,q⟩
  |ret u=>
   obtain⟨v,Y5,H5,I5,r,q⟩:=hf;exact fin I5 λs6 I6=>⟨v,_,H5,I6,r,q⟩
  |brk=>obtain⟨_,_,_,q⟩:=hf;exact AV q
  |cont=>obtain⟨_,_,_,q⟩:=hf;exact AV q
def Vl(X:Cx)(CL:ClA)(up:Af->Ac Af)(g:Ag)(c:Af):Prop:=∃ C',Gl X g/\X.mg g=Aa (.ref C')/\(g==("__debug__" : Ag))=Ad/\XcOk X.K C'/\∀ c' C,CL c'=Aa C->BB X.K (.ref C) (.ref C')=Aa ((up c').contains c)
theorem Y_3{y:Ex}{Q:Flow->Ao->Prop}{hd:Ac EH}(hx:X.ex=[])(hst:X.stack=X.env::X.outer)(hfm:X.env.frame=Aa X.env.locals)(k:∀ e T1 cls dx H' s1,Inv X pI Y H' s1->Ay H H'->Fly e T1 cls dx s1.heap->FN X pI e->FN X pI T1->H' e=Ae->H' T1=Ae->Eh X.K CL H' cls dx y->Aw (model X.prog X.w) X.A (Jt (.ref e) X.env hd) Q X.xe s1):JI X CL pI Y H y (λev s1=>Aw (model X.prog X.w) X.A (DX ev X.env) (λ_ s2=>Aw (model X.prog X.w) X.A (FS ev Ae) (λ_ s3=>Aw (model X.prog X.w) X.A (Jt ev X.env hd) Q X.xe s3) X.xe s2) X.xe s1):=by
 intro s' H' e T cls dx I' sm fl he hT ae aT xr;have two:∀{T:Ah}{Z_:Ah->Prop},Z_ e->Z_ T->∀ b∈[e,T],Z_ b:=λ{T Z_} h1 h2 b hb=>by
  rcases AH.mp hb with rfl|hb
  .exact h1
  .rw[Br.mp hb];exact h2
 have hfr:X.A.frames=Aa (X.env::X.outer):=by rw[<-hst];exact I'.ok.frames
 refine ZI (base:=X.base) hfr hfm (by rw[<-hst];exact I'.stack) fl λh1 T1 fl1 sh1 hT1=>?_
 rw[<-hst]at sh1;exact k e T1 cls dx H' _ (Q1 I' hx sh1 (two ae aT) (two (Z_:=λb=>H' b=Ae) he hT)) sm fl1 ae (hT1.elim (λz=>z ▸ aT) λz=>Jx I' hx z) he (hT1.elim (λz=>z ▸ hT) λz=>HB I'.hok z) xr
theorem fU{c i:Af}{g n:Ag}{hp:AA}{fb:Rho->O}(hx:X.ex=[])(hst:X.stack=X.env::X.outer)(hfm:X.env.frame=Aa X.env.locals)(hN:X.N.Nodup)(hi:X.N[i]?=Aa n)(hl:X.env.scope.names.lookup n=Aa .local)(h1:Vl X CL up g c)(hb:STB X CL body fb)(hρ:∀ U y U',fb U=.exn y U'->U'=U)(hh:∀ e,SSs (Cx.hot X e) CL (λ_ _=>AU) (h0::hs) fh):SS X CL W (.Try body [.ExceptHandler (Aa (.Name g p1)) (Aa n) (h0::hs) hp] [] [] pos) (λU=>UG up c i (fb U) fh):=λFz B pI s Y H D I ⟨U,x,p⟩=>by
 refine wpAny_Try_except (A5 (hb Fz B pI s Y H D U _ PassesOwn.looking I x ?_ (hρ U)) (λf s1 hf=>?_) λ_ _ z=>z)
 .dsimp only at p;cases eb:fb U with
  |exn y U'=>
   rw[eb]at p;intro e0;subst e0;have p2:Bw X.K CL Fz B W (if (up y.c).contains c=Ab then hdO i y U' fh else .bad) D:=p
   refine Y_3 hx hst hfm λe T1 cls dx H' s1 I1 sm fl1 ae aT1 he HT1 xr=>?_
   have gx:=x.grow sm;obtain⟨C,hcl,rfl,_⟩:=xr (Bg B U' Y) gx.aok;obtain⟨C',hg,hm,hdb,xc,hup⟩:=h1;refine eP (W:=W) hx hN hi hl hg hm hdb xc (hup y.c C hcl) hh I1 fl1 ae aT1 he HT1 gx hcl xr (λhc=>?_) (λhc=>?_)
   .rw[AC hc]at p2;exact p2
   .rw[AJ (by rw[hc];exact At)]at p2;exact p2.elim
  |next U'=>rw[eb]at p;exact p
  |ret d b=>rw[eb]at p;exact p
  |brk U'=>rw[eb]at p;exact p
  |cont U'=>rw[eb]at p;exact p
  |bad=>rw[eb]at p;exact p.elim
 .cases f with
  |next=>exact E7 hf
  |ret u=>exact hf
  |brk=>exact hf
  |cont=>exact hf
theorem Q3{f:Ah}{sp:Sp}{E:XK}{e:Am}{es:Ac Am}{t:TA}(F:FnOk X.prog X.w X.K X.mg X.base CX k f fd ps sp)(hr:Room k X.A)(hg:Gl X x)(hm:X.mg x=Aa (.ref f))(hk:Bf X.K (.ref f)=Ab)(hb:DB X.K fd ps [])(hx:∀ pI H s e s',Inv X pI Y0 H s->CX X.stack H s E e s'->X.xe e s')(ha:PA X (e::es) t)(hdb:(x==("__debug__" : Ag))=Ad)(he:Ar (e::es) X.env=(Ad,eval e X.env)::Ar es X.env)(hpl:(Bu pos (Ar es X.env)).any (·.1)=Ad):PE X (.Call (.Name x p) (e::es) [] pos) (λY H Q=>Y=Y0/\t Y H λvs H1=>sp vs H1 Q E):=by
 intro pI s Y H Q I ⟨e0,h⟩;subst e0;refine Cm (Gy I hg hm ?_ hdb);refine CC (h₀:=X.base) I.ok.mod.kin hk (thn (ha pos pI s Y H _ I h) λus s1 ⟨vs,H1,I1,r,q⟩=>⟨I1.kIn,?_⟩) he hpl
 have hl:us.length=ps.length:=by rw[<-r.length];exact F.len _ _ _ _ q
 have hb':FR s1 fd ⟨us,[]⟩ (ps.zip us):=by
  have:=hb s1 us I1.kIn (by rw[BA];exact hl)
  rw[BA]at this;exact this
 refine D9 (DA (F.run X.A X.stack s1 H1 ⟨us,[]⟩ us vs Q E hr I1.env0 hb' r q) λr s' hq=>?_)
 cases r with
 |error e=>exact hx pI H1 s1 e s' I1 hq
 |ok fl=>
  cases fl with
  |ret u=>exact I1.after hq
  |next=>exact AV hq
  |brk=>exact AV hq
  |cont=>exact AV hq
def G8(K:Fg)(CL:ClA)(Rp:Hp->V->D->Prop)(E0:XK)(H:Hp)(r:R D)(Q:VK):Prop:=match r with
  |.ok d=>∀ v H',Ay H H'->Rp H' v d->Q v H'
  |.exn y=>∀ cls dx H',Ay H H'->Eh K CL H' cls dx y->E0 cls dx H'
  |.bad=>AU
theorem Lc{k n:Af}{fr:Ak}{f:Ah}{e:Am}{es:Ac Am}{fs ft:Rho->R (Ac D)}{sh:Rho->Ak}{E0:XK}(G:FnOk X.prog X.w X.K X.mg X.base CX k f fd ps (spD X.K CL n fr F))(hr:Room k X.A)(hg:Gl X x)(hm:X.mg x=Aa (.ref f))(hk:Bf X.K (.ref f)=Ab)(hb:DB X.K fd ps [])(hx:∀ pI H s e s',Inv X pI Y0 H s->CX X.stack H s E0 e s'->X.xe e s')(ha:SA X CL (λ_ _=>AU) (e::es) fs)(hat:SAT X CL (λ_ _=>AU) (e::es) ft)(hst:∀ U,sh U=Ab->ft U=fs U)(hn:∀ U ds,ft U=.ok ds->ds.length=n)(hnx:∀ U y,ft U≠.exn y)(hdb:(x==("__debug__" : Ag))=Ad)(he:Ar (e::es) X.env=(Ad,eval e X.env)::Ar es X.env)(hpl:∀ pos,(Bu pos (Ar es X.env)).any (·.1)=Ad)(A:Ah->Prop):PE X (.Call (.Name x p) (e::es) [] pos) (λY H Q=>Y=Y0/\AOk H A/\∃ U,Good X.K CL A U Y H/\G8 X.K CL (DN X.K CL fr H A) E0 H ((ft U).bind λds=>(F ds).bind λd=>if sh U=Ab then .ok d else if FP fr d=Ab then .ok d else .bad) Q):=λpI s Y H Q I ⟨e0,hA,U,gd,q⟩=>by
 by_cases hs:sh U=Ab
 .rw[hst U hs]at q;refine Q3 G hr hg hm hk hb hx (ha A) hdb he (hpl _) pI s Y H Q I ⟨e0,hA,U,gd,?_⟩;cases e1:fs U with
  |bad=>rw[e1]at q;exact q
  |exn y=>exact absurd (by rw[hst U hs];exact e1) (hnx U y)
  |ok ds=>
   rw[e1]at q;intro vs H1 s1 r1;refine⟨ds,A,by rw[r1.length];exact hn U ds (by rw[hst U hs];exact e1),hA.same s1,r1,?_⟩
   have q':G8 X.K CL (DN X.K CL fr H A) E0 H ((F ds).bind λd=>if sh U=Ab then .ok d else if FP fr d=Ab then .ok d else .bad) Q:=q
   cases e2:F ds with
   |ok d=>
    rw[e2,R.bind_ok,AC hs]at q';exact λv H2 s2 r2=>q' v H2 (s1.trans s2) ⟨r2.1,λz ds' e'=>let ⟨a,xs,z1,z2,z3⟩:=r2.2 z ds' e';⟨a,xs,z1,s1.free z2,z3⟩⟩
   |exn y=>
    rw[e2]at q';exact λcls dx H2 s2 xr=>q' cls dx H2 (s1.trans s2) xr
   |bad=>rw[e2]at q';exact q'.elim
 .refine Q3 G hr hg hm hk hb hx (hat A) hdb he (hpl _) pI s Y H Q I ⟨e0,hA,U,gd,?_⟩;cases e1:ft U with
  |bad=>rw[e1]at q;exact q
  |exn y=>exact absurd e1 (hnx U y)
  |ok ds=>
   rw[e1]at q;intro vs H1 s1 r1;refine⟨ds,A0,by rw[r1.plain.length];exact hn U ds e1,λ_ z=>z.elim,r1.plain,?_⟩
   have q':G8 X.K CL (DN X.K CL fr H A) E0 H ((F ds).bind λd=>if sh U=Ab then .ok d else if FP fr d=Ab then .ok d else .bad) Q:=q
   cases e2:F ds with
   |ok d=>
    rw[e2,R.bind_ok,AJ hs]at q';split at q'
    .rename_i hc;exact λv H2 s2 r2=>q' v H2 (s1.trans s2) (SQ hA (s1.trans s2) hc ⟨r2.1,λz ds' e'=>let ⟨a,xs,z1,z2,z3⟩:=r2.2 z ds' e';⟨a,xs,z1,s1.free z2,z3⟩⟩)
    .exact q'.elim
   |exn y=>
    rw[e2]at q';exact λcls dx H2 s2 xr=>q' cls dx H2 (s1.trans s2) xr
   |bad=>rw[e2]at q';exact q'.elim
noncomputable def Cx.pw(X:Cx)(pI:Pn)(Xw:Vq):Cx:={X with pn:=X.pn++pI,xe:=Xw}
section
variable{X:Cx}{pI pins':Pn}{Y:L2.St}{H:Hp}{s:Ao}{Xw:Vq}
theorem Uf(ok:X.Ok):(Cx.pw X pI Xw).Ok:=⟨ok.mod,ok.kind,ok.glob,ok.blt,ok.above,ok.inj,ok.has,ok.cab,ok.hd,ok.frames,ok.stk,ok.exf,ok.bs,ok.bsz,ok.noex,ok.exfs,ok.funs,ok.frf⟩
theorem Jc(I:Inv X pI Y H s)(Xw:Vq):Inv (Cx.pw X pI Xw) [] Y H s:=⟨Uf I.ok,I.os,I.bare,I.base,I.loc,I.cell,I.free,I.freeC,λp hp=>I.pin p (by
 rcases Hm.mp hp with z|z
 .exact z
 .exact absurd z (by simp)),I.hok,I.len⟩
theorem Jw(ok:X.Ok)(I:Inv (Cx.pw X pI Xw) pins' Y H s):Inv X pI Y H s:=⟨ok,I.os,I.bare,I.base,I.loc,I.cell,I.free,I.freeC,λp hp=>I.pin p (Ey _ hp),I.hok,I.len⟩
theorem J7(ok:X.Ok){D:Ends}{f:Flow}{s':Ao}(h:SP (Cx.pw X pI Xw) pins' D f s'):SP X pI D f s':=by
 cases f with
 |next=>obtain⟨Y',H',I,q⟩:=h;exact⟨Y',H',Jw ok I,q⟩
 |brk=>obtain⟨Y',H',I,q⟩:=h;exact⟨Y',H',Jw ok I,q⟩
 |cont=>obtain⟨Y',H',I,q⟩:=h;exact⟨Y',H',Jw ok I,q⟩
 |ret u=>obtain⟨v,Y',H',I,r,q⟩:=h;exact⟨v,Y',H',Jw ok I,r,q⟩
end
section
variable{X:Cx}{CL:ClA}{k n:Af}{fr:Ak}{f:Ah}{fd:Bv}{ps:Ac Ag}{F:Ac D->R D}{x:Ag}{p pos pos2:AA}{e:Am}{es:Ac Am}{fs ft:Rho->R (Ac D)}{sh:Rho->Ak}
theorem Ow{y:Ex}(hx:X.ex=[])(ok:X.Ok)(q:JI X CL pI Y H y Xw):∀ pins' H1 s1 e s',Inv (Cx.pw X pI Xw) pins' Y H1 s1->CXR X.prog X.w (Cx.pw X pI Xw).stack H1 s1 (λcls dx H'=>Eh X.K CL H' cls dx y/\Ay H H') e s'->(Cx.pw X pI Xw).xe e s':=by
 intro pins' H1 s1 ev s' J h;obtain⟨e,T,cls,dx,H',rfl,os,bare,un,hok,fl,he,hT,ne,nT,xr,sm⟩:=h;have J':=Jw ok J;have J2:=J'.call' (s':=s') (ch:=[]) os un hok bare (λb z=>absurd z (by simp))
 exact q s' H' e T cls dx J2 sm fl he hT (Jx J' hx ne) (Jx J' hx nT) xr
theorem Ox:∀ pins' H1 s1 e s',Inv (Cx.pw X pI Xw) pins' Y H1 s1->CXR X.prog X.w (Cx.pw X pI Xw).stack H1 s1 (λ_ _ _=>AU) e s'->(Cx.pw X pI Xw).xe e s':=by
 intro pins' H1 s1 ev s' J h;obtain⟨e,T,cls,dx,H',rfl,os,bare,un,hok,fl,he,hT,ne,nT,w⟩:=h;exact w.elim
variable(hx0:X.ex=[])(G:FnOk X.prog X.w X.K X.mg X.base (CXR X.prog X.w) k f fd ps (spD X.K CL n fr F))(hr:Room k X.A)(hg:Gl X x)(hm:X.mg x=Aa (.ref f))
    (hk:Bf X.K (.ref f)=Ab) (hb:DB X.K fd ps []) (hst:∀ U,sh U=Ab->ft U=fs U) (hn:∀ U ds,ft U=.ok ds->ds.length=n) (hnx:∀ U y,ft U≠.exn y)
    (hdb:(x==("__debug__" : Ag))=Ad) (he:Ar (e::es) X.env=(Ad,eval e X.env)::Ar es X.env) (hpl:∀ pos,(Bu pos (Ar es X.env)).any (·.1)=Ad)
    (ha:∀ pI Xw,Dz (model X.prog X.w) X.A X.env Xw->SA (Cx.pw X pI Xw) CL (λ_ _=>AU) (e::es) fs/\SAT (Cx.pw X pI Xw) CL (λ_ _=>AU) (e::es) ft)
include hx0 G hr hg hm hk hb hst hn hnx hdb he hpl ha
theorem Y_7(hs:CF (.Call (.Name x p) (e::es) [] pos) Ae pos2.line X.env=pure Ad):STB X CL [.Expr (.Call (.Name x p) (e::es) [] pos) pos2] (λU=>O.of U ((ft U).bind λds=>(F ds).bind λd=>if sh U=Ab then .ok d else if FP fr d=Ab then .ok d else .bad) λ_=>.next U):=by
 intro Fz B pI s Y H D U Xw own I sx q _;obtain⟨ha1,ha2⟩:=ha pI Xw own;dsimp only at q;cases er:(ft U).bind λds=>(F ds).bind λd=>if sh U=Ab then .ok d else if FP fr d=Ab then .ok d else .bad with
 |bad=>rw[er]at q;exact q.elim
 |exn y=>
  rw[er]at q;have key:=Lc (X:=Cx.pw X pI Xw) (p:=p) (pos:=pos) (Y0:=Y) (fr:=fr) (F:=F) (n:=n) (sh:=sh) G hr hg hm hk hb (Ow hx0 I.ok (q rfl)) ha1 ha2 hst hn hnx hdb he hpl (Bg B U Y);refine A5 (Ig (Jz (pos:=pos2) key hs) [] s Y H D (Jc I Xw) ⟨rfl,sx.aok,U,sx.good,?_⟩) (λ_ _ z=>J7 I.ok z) λ_ _ z=>z
  rw[er];exact λcls dx H' sm xr=>⟨xr,sm⟩
 |ok d=>
  rw[er]at q;have key:=Lc (X:=Cx.pw X pI Xw) (p:=p) (pos:=pos) (Y0:=Y) (fr:=fr) (F:=F) (n:=n) (sh:=sh) (E0:=λ_ _ _=>AU) G hr hg hm hk hb Ox ha1 ha2 hst hn hnx hdb he hpl (Bg B U Y)
  refine A5 (Ig (Jz (pos:=pos2) key hs) [] s Y H D (Jc I Xw) ⟨rfl,sx.aok,U,sx.good,?_⟩) (λ_ _ z=>J7 I.ok z) λ_ _ z=>z
  rw[er];exact λv H' sm r=>q Y H' (sx.grow sm)
theorem aP{i:Af}{m:Ag}(hN:X.N.Nodup)(hi:X.N[i]?=Aa m)(hl:Loc X.env.scope m)(hf:X.fn m=Ab\/X.env.scope.names.lookup m=Aa .local)(hs:CF (.Call (.Name x p) (e::es) [] pos) (Aa (.Name m pos')) pos2.line X.env=pure Ad):STB X CL [.Assign [.Name m pos'] (.Call (.Name x p) (e::es) [] pos) pos2] (λU=>O.of U ((ft U).bind λds=>(F ds).bind λd=>if sh U=Ab then .ok d else if FP fr d=Ab then .ok d else .bad) λd=>.next (U.set i (Aa (d,Ad)))):=by
 intro Fz B pI s Y H D U Xw own I sx q _;obtain⟨ha1,ha2⟩:=ha pI Xw own;dsimp only at q;cases er:(ft U).bind λds=>(F ds).bind λd=>if sh U=Ab then .ok d else if FP fr d=Ab then .ok d else .bad with
 |bad=>rw[er]at q;exact q.elim
 |exn y=>
  rw[er]at q;have key:=Lc (X:=Cx.pw X pI Xw) (p:=p) (pos:=pos) (Y0:=Y) (fr:=fr) (F:=F) (n:=n) (sh:=sh) G hr hg hm hk hb (Ow hx0 I.ok (q rfl)) ha1 ha2 hst hn hnx hdb he hpl (Bg B U Y);refine A5 (Ig (Lu (X:=Cx.pw X pI Xw) (i:=i) (pos:=pos2) hN hi hl key hs hf) [] s Y H D (Jc I Xw) ⟨rfl,sx.aok,U,sx.good,?_⟩) (λ_ _ z=>J7 I.ok z) λ_ _ z=>z
  rw[er];exact λcls dx H' sm xr=>⟨xr,sm⟩
 |ok d=>
  rw[er]at q;have key:=Lc (X:=Cx.pw X pI Xw) (p:=p) (pos:=pos) (Y0:=Y) (fr:=fr) (F:=F) (n:=n) (sh:=sh) (E0:=λ_ _ _=>AU) G hr hg hm hk hb Ox ha1 ha2 hst hn hnx hdb he hpl (Bg B U Y)
  refine A5 (Ig (Lu (X:=Cx.pw X pI Xw) (i:=i) (pos:=pos2) hN hi hl key hs hf) [] s Y H D (Jc I Xw) ⟨rfl,sx.aok,U,sx.good,?_⟩) (λ_ _ z=>J7 I.ok z) λ_ _ z=>z
  rw[er];exact λv H' sm r=>q _ H' ((sx.grow sm).set i r.1)
end
section
variable{X:Cx}{CL:ClA}{W:XW}
theorem Y_9{np cpos pos:AA}{e:Am}{es:Ac Am}{fs:Rho->R (Ac D)}(hcalm:X.calm=Ab)(rz:LP X CL W)(hg:Gl X g)(hm:X.mg g=Aa (.ref C))(hdb:(g==("__debug__" : Ag))=Ad)(xc:Dg X.K C Ae=Ab)(hcl:CL c=Aa C)(ha:SA X CL W (e::es) fs)(hxn:∀ ds,xn c ds=.bad\/xn c ds=.ok ⟨c,[]⟩)(he:Ar (e::es) X.env=(Ad,eval e X.env)::Ar es X.env)(hpl:∀ pos,(Bu pos (Ar es X.env)).any (·.1)=Ad)(hz:∀ U ds,fs U=.ok ds->ds.length<=100000):SS X CL W (.Raise (Aa (.Call (.Name g np) (e::es) [] cpos)) Ae pos) (λU=>O.of U (noX (fs U)) λxs=>O.of U (xn c xs) λx=>.exn x U):=λFz B pI s Y H D I ⟨U,x,p⟩=>by
 dsimp only at p;cases e1:fs U with
 |bad=>rw[e1]at p;exact p.elim
 |exn y=>rw[e1]at p;exact p.elim
 |ok ds=>
  rw[e1]at p;have p2:Bw X.K CL Fz B W (O.of U (xn c ds) λx=>.exn x U) D:=p
  rcases hxn ds with e2|e2
  .rw[e2]at p2;exact p2.elim
  .rw[e2]at p2;have p3:∀ H,(∀ b o,Fz b o->H b=Aa o)->W ⟨c,[]⟩ H:=p2;obtain⟨bm,N,nm,qn,bs,hd,sn,sub,ab,col,dd,k0,k1,k2,k3,k5,mN,hob,hni,hbase⟩:=Le I.kIn xc;refine wpAny_Raise_call_subT (bmB:=veB) (nm:=nm) (q:=qn) (C:=C) (N:=N) (bs:=bs) (bm:=bm) (hdct:=hd) (sn:=sn) (sub:=sub) (ab:=ab) (col:=col) (dd:=dd) (k0:=k0) (k1:=k1) (k2:=k2) (k3:=k3) (k5:=k5) (mN:=mN) C5 hbase (I.ok.hd hcalm) (by rw[he];show (Ad||(Bu cpos (Ar es X.env)).any (·.1))=Ad;rw[hpl];rfl) hni ?_
   refine Gy I hg hm ⟨rfl,?_⟩ hdb;have q1:=ha (Bg B U Y) cpos pI s Y H (λvs H1=>Ay H H1/\vs.length=ds.length) I ⟨x.aok,U,x.good,by rw[e1];exact λvs H1 s1 r1=>⟨s1,r1.length⟩⟩
   rw[he]at q1 ⊢;refine EA (A5 q1 (λus s2 ⟨vs,H2,I2,r2,s2',hl⟩=>⟨rfl,?_⟩) λ_ _ z=>z)
   obtain⟨o1,o2,o3⟩:=hob _ I2.kIn;refine⟨?_,o1,o2,o3,λh' ev hmade=>?_⟩
   .rw[<-r2.length,hl,BZ];have:=hz U ds e1;omega
   .obtain⟨t,ge,_⟩:=hmade.there;have I3:Inv X pI Y H2 {s2 with heap:=h'}:=I2.kept (t':=s2.toks) hmade.keeps
    exact rz pI Y H2 _ ev C Ae t ⟨c,[]⟩ I3 (λhx=>HA I2 hx hmade.new) (HB I2.hok hmade.new) ge (λA _=>⟨C,hcl,rfl,.inl rfl⟩) (p3 H2 λb o z=>s2' _ _ (x.same b o z))
def Ls(K:Fg)(CL:ClA)(up:Af->Ac Af)(c':Af)(C':Ah):Prop:=∀ c C,CL c=Aa C->BR K (.ref C) (.ref C')=Aa ((up c).contains c')
theorem Re{s:Ao}{a C:Ah}{cv:Aj}{b:Ak}{Q:VK}(I:Inv X pI Y H s)(ha:H a=Aa (.ext φ))(hφ:∀ h,φ h->∃ o,h.get? a=Aa o/\o.cls=.ref C)(xc:XcOk X.K C)(e:BR X.K (.ref C) cv=Aa b)(q:Q (.bl b) H):
  Aw (model X.prog X.w) X.A (call (.builtin "isinstance") [.ref a,cv]) (EP X pI Y Q) X.xe s:=by
 have p:XAt a C s.heap:=hφ _ (I.hok a _ ha).1;exact B7 (Rb xc) I.kIn p e (by intro z;cases z) λtk=>⟨.bl b,H,I.tok tk,rfl,q⟩
theorem QO:∀(Cs:Ac Ah){its:Ac Aj},AW (Cs.map V.ref) its->its=Cs.map Bc
 |[],_,rv=>by cases rv;rfl
 |c::cs,_,rv=>by
  cases rv with
  |cons h1 h2=>rw[QO cs h2];cases h1;rfl
theorem bW{s:Ao}{a C tp:Ah}{Cs:Ac Ah}{b:Ak}{Q:VK}(I:Inv X pI Y H s)(ha:H a=Aa (.ext φ))(hφ:∀ h,φ h->∃ o,h.get? a=Aa o/\o.cls=.ref C)(xc:XcOk X.K C)(ht:H tp=Aa (.tup (Cs.map V.ref)))(e:HP X.K (.ref C) (Cs.map Bc)=Aa b)(q:Q (.bl b) H):
  Aw (model X.prog X.w) X.A (call (.builtin "isinstance") [.ref a,.ref tp]) (EP X pI Y Q) X.xe s:=by
 have p:XAt a C s.heap:=hφ _ (I.hok a _ ha).1;obtain⟨_,its,rv,⟨o,ho,hc,n,hd⟩⟩:=I.hok tp _ ht;have ei:its=Cs.map Bc:=QO Cs rv;subst ei;obtain⟨cls,dd,dat,sl⟩:=o;have hc':cls=.type "tuple" := hc;have hd':dat=.seq (E9 (Cs.map Bc)) n:=hd;subst hc' hd';exact PySem.W.kia_tup (Rb xc) I.kIn p ho e (by intro z;cases z) λtk=>⟨.bl b,H,I.tok tk,rfl,q⟩
theorem R4{K:Fg}{up:Af->Ac Af}{c:Af}{C:Ah}(h:CL c=Aa C):∀(cs:Ac (Af×Ah)),(∀ p∈cs,Ls K CL up p.1 p.2)->HP K (.ref C) ((cs.map λq:Af×Ah=>q.2).map Bc)=Aa (cs.any λp=>(up c).contains p.1)
  |[],_=>rfl
  |p::cs,hk=>by
    have h1:=hk p AO c C h;have h2:=R4 h cs λq hq=>hk q (AF _ hq)
    show (match BR K (.ref C) (.ref p.2) with
      |some Ab=>Aa Ab
      |some Ad=>HP K (.ref C) ((cs.map λq:Af×Ah=>q.2).map Bc)
      | none=>Ae)=_
    rw[h1,Vx];cases (up c).contains p.1 with
    |true=>rfl
    |false=>rw[h2];rfl
theorem Of{ks:Ac Ki}{Q:VK}(hk:ks.all Dv=Ab)(hne:ks≠[])(p:AS Rp W H (Ej up ks d) Q):∃ c fs,d=.exc c fs/\AS Rp W H (.ok (.bl (ks.any λk=>kiD up k d))) Q:=by
 have ha:ks.any Dv=Ab:=by
  cases ks with
  |nil=>exact absurd rfl hne
  |cons k ks=>simp only[CZ,Al]at hk;simp[Vx,hk.1]
 cases d with
 | exc c fs=>exact⟨c,fs,rfl,by
   have p':AS Rp W H (if ks.all Dv=Ab then .ok (.bl (ks.any λk=>kiD up k (.exc c fs))) else .bad) Q:=p
   rw[AC hk]at p';exact p'⟩
 |obj c fs=>exact AV p
 |dic _=>exact AV p
 |non=>simp only[Ej,ha,GU]at p;exact AV p
 |bl _=>simp only[Ej,ha,GU]at p;exact AV p
 |int _=>simp only[Ej,ha,GU]at p;exact AV p
 |str _=>simp only[Ej,ha,GU]at p;exact AV p
 |tup _=>simp only[Ej,ha,GU]at p;exact AV p
 |lst _=>simp only[Ej,ha,GU]at p;exact AV p
theorem Ol{v:V}{fs:Ac (Ag×D)}(r:Cr K CL H A v (.exc c fs)):∃ a C φ,v=.ref a/\CL c=Aa C/\H a=Aa (.ext φ)/\∀ h,φ h->∃ o,h.get? a=Aa o/\o.cls=.ref C:=by
 rcases r with ⟨a,C,φ,e,_,hc,hH,hφ,_⟩|⟨a,xs,ds,_,z,_⟩
 .exact⟨a,C,φ,e,hc,hH,hφ⟩
 .cases z
variable{a:Am}{fa:Rho->R D}{up:Af->Ac Af}{x:Ag}{p p2 pos:AA}
theorem TD{c':Af}(hxc:∀ c C,CL c=Aa C->XcOk X.K C)(hg:Gl X "isinstance")(hm:X.mg "isinstance" = Ae)(hg2:Gl X x)(hm2:X.mg x=Aa (.ref C'))(hkit:Ls X.K CL up c' C')(hdb:(x==("__debug__" : Ag))=Ad)(ha:ST X CL W a fa)(he:Ar [a,.Name x p2] X.env=(Ad,eval a X.env)::Ar [.Name x p2] X.env):SE X CL W (.Call (.Name "isinstance" p) [a,.Name x p2] [] pos) (λU=>(fa U).bind λx=>Ej up [.cls c'] x):=λA=>
 PE.weak (Ka (r:=λxs H Q=>∃ a C φ c,xs=[.ref a,.ref C']/\CL c=Aa C/\H a=Aa (.ext φ)/\(∀ h,φ h->∃ o,h.get? a=Aa o/\o.cls=.ref C)/\Q (.bl ((up c).contains c')) H) (λpI s Y H xs us Q I r ⟨b,C,φ,c,e,hc,hH,hφ,q⟩=>by
   subst e;obtain⟨u,w',rfl,r1,r2⟩:=Ks r;cases r1;cases r2;exact Re I hH hφ (hxc c C hc) (hkit c C hc) q)
  hg hm E4 (DU (ha A) (DU (Om (v:=.ref C') hg2 hm2 rfl hdb) Fe rfl) he) (by decide) (by decide) he rfl) λY H Q ⟨hA,U,g,q⟩=>⟨hA,U,g,AS.bind q λd v H1 _ s1 r1 p1=>by
   obtain⟨c,fs,rfl,p2⟩:=Of (by rfl) (by simp) p1
   obtain⟨b,C,φ,rfl,hc,hH,hφ⟩:=Ol r1;refine⟨b,C,φ,c,rfl,hc,hH,hφ,p2 _ H1 (Ay.refl H1) ?_⟩;exact congrArg V.bl (DH _).symm⟩
theorem TC(hxc:∀ c C,CL c=Aa C->XcOk X.K C)(hg:Gl X "isinstance")(hm:X.mg "isinstance" = Ae)(hg2:Gl X "ValueError")(hm2:X.mg "ValueError" = Ae)(ha:ST X CL W a fa)(he:Ar [a,.Name "ValueError" p2] X.env=(Ad,eval a X.env)::Ar [.Name "ValueError" p2] X.env):SE X CL W (.Call (.Name "isinstance" p) [a,.Name "ValueError" p2] [] pos) (λU=>(fa U).bind λx=>Ej up [.verr] x):=λA=>
 PE.weak (Ka (r:=λxs H Q=>∃ a C φ c,xs=[.ref a,.ty "ValueError"]/\CL c=Aa C/\H a=Aa (.ext φ)/\(∀ h,φ h->∃ o,h.get? a=Aa o/\o.cls=.ref C)/\Q (.bl Ab) H) (λpI s Y H xs us Q I r ⟨b,C,φ,c,e,hc,hH,hφ,q⟩=>by
   subst e;obtain⟨u,w',rfl,r1,r2⟩:=Ks r;cases r1;cases r2;exact Re I hH hφ (hxc c C hc) (hxc c C hc).ve q)
  hg hm E4 (DU (ha A) (DU (Si (v:=.ty "ValueError") hg2 hm2 PyProof.Rows.Boot.«ValueError» rfl (by decide) (by decide)) Fe rfl) he) (by decide) (by decide) he rfl) λY H Q ⟨hA,U,g,q⟩=>⟨hA,U,g,AS.bind q λd v H1 _ s1 r1 p1=>by
   obtain⟨c,fs,rfl,p2⟩:=Of (by rfl) (by simp) p1
   obtain⟨b,C,φ,rfl,hc,hH,hφ⟩:=Ol r1;refine⟨b,C,φ,c,rfl,hc,hH,hφ,p2 _ H1 (Ay.refl H1) ?_⟩;exact congrArg V.bl (DH _).symm⟩
theorem eK(up:Af->Ac Af)(c:Af)(fs:Ac (Ag×D))(cs:Ac (Af×Ah)):((cs.map λq=>Ki.cls q.1).any λk=>kiD up k (.exc c fs))=cs.any λq=>(up c).contains q.1:=List.any_map
def U_0(Cs:Ac Ah):TA:=λ_ H Q=>Q (Cs.map V.ref) H
theorem gF{ts:Ac Am}{cs:Ac (Af×Ah)}(hxc:∀ c C,CL c=Aa C->XcOk X.K C)(hg:Gl X "isinstance")(hm:X.mg "isinstance" = Ae)(hts:PA X ts (U_0 (cs.map λq:Af×Ah=>q.2)))(hne:cs≠[])(hl:cs.length<=1000)(hkit:∀ q∈cs,Ls X.K CL up q.1 q.2)(ha:ST X CL W a fa)(he:Ar [a,.Tuple ts kk p2] X.env=(Ad,eval a X.env)::Ar [.Tuple ts kk p2] X.env):SE X CL W (.Call (.Name "isinstance" p) [a,.Tuple ts kk p2] [] pos) (λU=>(fa U).bind λx=>Ej up (cs.map λq=>.cls q.1) x):=λA=>
 PE.weak (Ka (r:=λxs H Q=>∃ a C φ c tp,xs=[.ref a,.ref tp]/\CL c=Aa C/\H a=Aa (.ext φ)/\(∀ h,φ h->∃ o,h.get? a=Aa o/\o.cls=.ref C)/\H tp=Aa (.tup ((cs.map λq:Af×Ah=>q.2).map V.ref))/\Q (.bl (cs.any λq=>(up c).contains q.1)) H) (λpI s Y H xs us Q I r ⟨b,C,φ,c,tp,e,hc,hH,hφ,ht,q⟩=>by
   subst e;obtain⟨u,w',rfl,r1,r2⟩:=Ks r;cases r1;cases r2;exact bW I hH hφ (hxc c C hc) ht (R4 hc cs hkit) q)
  hg hm E4 (DU (ha A) (DU (S6 hts) Fe rfl) he) (by decide) (by decide) he rfl) λY H Q ⟨hA,U,g,q⟩=>⟨hA,U,g,AS.bind q λd v H1 _ s1 r1 p1=>by
   have hk:(cs.map λq=>Ki.cls q.1).all Dv=Ab:=by simp[Vw,Dv]
   obtain⟨c,fs,rfl,p2⟩:=Of hk (by simpa using hne) p1
   obtain⟨b,C,φ,rfl,hc,hH,hφ⟩:=Ol r1;refine⟨by rw[CA,CA,BZ];omega,λt ht=>?_⟩
   have hbt:b≠t:=FA hH ht;refine⟨b,C,φ,c,t,rfl,hc,by rw[Bb hbt];exact hH,hφ,C8,p2 _ _ (ET ht _) ?_⟩
   exact congrArg V.bl (eK up c fs cs).symm⟩
end
theorem OP(q:Dg K C v=Ab):∃ dd cd sl bm,K.lookup C=Aa ⟨.type "type",dd,.cls cd,sl⟩/\cd.mro=.ref C::bm:=by
 unfold Dg at q;split at q
 .rename_i dd cd sl ho;split at q
  .rename_i C' bm k0 k1 k2 k3 n k5 hm hs;simp only[Al,AB,Bm]at q;obtain⟨rfl,_⟩:=q;exact⟨dd,cd,sl,bm,ho,hm⟩
  .cases q
 .cases q
theorem Mi(q:Dg K C v=Ab):∃ cd bm,Do K C=Aa cd/\cd.mro=.ref C::bm:=by
 obtain⟨dd,cd,sl,bm,h1,h2⟩:=OP q;exact⟨cd,bm,by unfold Do;rw[h1],h2⟩
theorem SK(q:Dg K C v=Ab):Dd K (.ref C)=Aa (.type "type"):=by
 obtain⟨dd,cd,sl,bm,h1,h2⟩:=OP q;show (K.lookup C).map _=_;rw[h1];rfl
theorem cW{v:Ak}{i i':An Aj}(q:Dg K C i=Ab)(q':Dg K C' i'=Ab)(su:BB K (.ref C) (.ref C')=Aa v):BR K (.ref C) (.ref C')=Aa v:=by
 unfold BR;by_cases e:C=C'
 .subst e;obtain⟨cd,bm,h1,h2⟩:=Mi q;have su':B4 K C (.ref C)=Aa v:=su;have:v=Ab:=by
   unfold B4 at su';rw[h1,VQ,h2,AJ (by simp)]at su'
   rw[<-Bk su'];simp
  rw[AC (by simp),this]
 .rw[AJ (λz=>e (IA (AB.mp z)))]
  obtain⟨cd,bm,h1,h2⟩:=Mi q';show (if ((Do K C').isSome&&Dd K (.ref C')==Aa (.type "type"))=Ab then BB K (.ref C) (.ref C') else Ae)=_
  rw[h1,SK q',AC (by simp),su]
theorem kX(exc:Dg K C v=Ab)(ga:Aq K (.ref C) "__getattribute__" = Aa (Aa (.builtin "BaseException.__getattribute__")))(gt:Aq K (.ref C) "__getattr__" = Aa Ae)(cl:Aq K (.ref C) "__class__" = Aa (Aa (.builtin "object.__class__")))(ob:B4 K C (.type "object")=Aa Ab)(be:BB K (.ref C) (.type "BaseException")=Aa Ab)(sv:BB K (.ref C) (.type "ValueError")=Aa Ab):XcOk K C:=by
 obtain⟨cd,bm,h1,h2⟩:=Mi exc;refine⟨⟨v,exc⟩,ga,gt,cl,ob,be,by rw[h1];rfl,?_⟩
 unfold BR;rw[AJ (λz=>by cases AB.mp z)]
 have hm:Xb "ValueError" = Ab:=by decide+kernel
 show (if Xb "ValueError" = Ab then BB K (.ref C) (.type "ValueError") else Ae)=_
 rw[AC hm,sv]
noncomputable abbrev M4:CXT:=λ_ _ _ _ _ _=>AU
structure HotOk (P:AL) (w:Az) (K:Fg) (mg:Ag->An Aj) (base:AE) (k:Af) (f:Ah) (fd:Bv) (ps:Ac Ag) (sp:Sp):Prop where
 len:∀ vs H Q E,sp vs H Q E->vs.length=ps.length
 run:∀(A:AR)(ev:Ah)(outer:Ac Cc)(s:Ao)(H:Hp)(args:Args)(us:Ac Aj)(vs:Ac V)(Q:VK)(E:XK),Room k A->Env0 P w K mg base (A.mark (Aa (.ref ev))) outer s H->FR s fd args (ps.zip us)->AW vs us->sp vs H Q E ->
  Ep (model P w) (A.mark (Aa (.ref ev))) (.call (.ref f) args) (CR M4 outer P w H s Q E) s
theorem Zx{v:Ak}{i:An Aj}(q:Dg K C i=Ab)(mr:B4 K C' (.type "object")=Aa Ab)(ty:Dd K (.ref C')=Aa (.type "type"))(su:BB K (.ref C) (.ref C')=Aa v):BR K (.ref C) (.ref C')=Aa v:=by
 unfold BR;by_cases e:C=C'
 .subst e;obtain⟨cd,bm,h1,h2⟩:=Mi q;have su':B4 K C (.ref C)=Aa v:=su;have:v=Ab:=by
   unfold B4 at su';rw[h1,VQ,h2,AJ (by simp)]at su'
   rw[<-Bk su'];simp
  rw[AC (by simp),this]
 .rw[AJ (λz=>e (IA (AB.mp z)))]
  show (if ((Do K C').isSome&&Dd K (.ref C')==Aa (.type "type"))=Ab then BB K (.ref C) (.ref C') else Ae)=_
  have cs:(Do K C').isSome=Ab:=by
   unfold B4 at mr;cases e1:Do K C' with
   |none=>rw[e1]at mr;cases mr
   |some cd=>rfl
  rw[cs,ty,AC (by simp),su]
def spH(K:Fg)(CL:ClA)(n:Af)(fr:Ak)(F:Ac D->R D):Sp:=λvs H Q _=>∃(ds:Ac D)(A:Ah->Prop),vs.length=n/\AOk H A/\Reps K CL H A vs ds/\(match F ds with
  |.ok d=>∀ v H',Ay H H'->DN K CL fr H A H' v d->Q v H'
  |.exn _=>AU
  | .bad=>AU)
section
variable{X:Cx}{CL:ClA}{ev:Ah}
theorem aO{t:Am}{xs ys:Ac AG}{fx fy:Rho->O}(hc:∀ pI Xw,Dz (model X.prog X.w) X.A X.env Xw->SB (Cx.pw X pI Xw) CL (λ_ _=>AU) t fc)(hnx:∀ U y,fc U≠.exn y)(hx:STB X CL xs fx)(hy:STB X CL ys fy):STB X CL [.If t xs ys pos] (λU=>O.of U (fc U) λb=>if b=Ab then fx U else fy U):=by
  intro Fz B pI s Y H D U Xw own I sx q hρ;dsimp only at q hρ;cases ec:fc U with
  |bad=>rw[ec]at q;exact q.elim
  |exn y=>exact absurd ec (hnx U y)
  |ok b=>
    rw[ec]at q hρ;have key:=hc pI Xw own (Bg B U Y) [] s Y H (λb' H'=>b'=b/\Ay H H') (Jc I Xw) ⟨sx.aok,U,sx.good,by rw[ec];exact λH' sm=>⟨rfl,sm⟩⟩
    refine G3 (thn (wpAny_If (Q:=SP X pI D) (thn key λb' s1 ⟨H1,I1,e,sm⟩=>?_)) (λf s1 z=>by
      cases f with
      |next=>exact E7 z
      |ret v=>exact z
      |brk=>exact z
      | cont=>exact z))
    subst e;have J:=Jw I.ok I1;have up:∀{y:Ex},JI X CL pI Y H y Xw->JI X CL pI Y H1 y Xw:=λ{y} w s' H' e T cls dx a1 a2=>w s' H' e T cls dx a1 (sm.trans a2)
    have lift:∀{o:O},(match o with
       |.exn y U'=>U'=U->JI X CL pI Y H y Xw
       |o=>Bw X.K CL Fz B (λ_ _=>AU) o D)->(match o with
       |.exn y U'=>U'=U->JI X CL pI Y H1 y Xw
       | o=>Bw X.K CL Fz B (λ_ _=>AU) o D):=λ{o} z=>by
      cases o with
      |exn y U'=>exact λe=>up (z e)
      |next _=>exact z
      |ret _ _=>exact z
      |brk _=>exact z
      |cont _=>exact z
      |bad=>exact z
    cases b' with
    |true=>exact hx Fz B pI s1 Y H1 D U Xw own J (sx.grow sm) (lift q) hρ
    |false=>exact hy Fz B pI s1 Y H1 D U Xw own J (sx.grow sm) (lift q) hρ
end
section
variable{M:FZ}{A:AR}{E:Vq}{s:Ao}{env:Cc}{nm q:Ag}{C N:Ah}{bs bm bmB:Ac Aj}{hdct:Ak}{sn:Ac Ag}{sub:Ac Aj}{ab:Ak}{col:An Ak}{dd:An Ah}{k0 k1 k2 k3 k5:An Aj}{B newId initId:CK}
theorem aC{x:F0 Aj}{Q:Flow->Ao->Prop}(hb:bm.contains (.type "BaseException")=Ab)(hh:A.handled=Ae)(h:Aw M A x (λv s'=>∃ e t dx,v=.ref e/\s'.heap.get? C=Aa (BQ nm q C N bs bm hdct sn sub ab col dd k0 k1 k2 k3 k5 newId)/\s'.heap.get? e=Aa (FM C dx t)/\E (.ref e) s') E s):Aw M A (raiseStmt env (Aa x) Ae) Q E s:=by
 have hB:(Bc C::bm).contains (.type "BaseException")=Ab:=by rw[Gr,hb,ID]
 unfold raiseStmt;refine As (A5 h (λv s' z=>?_) λ_ _ z=>z)
 obtain⟨e,t,dx,rfl,gC,ge,hE⟩:=z;obtain⟨hp,g,d,tk,os⟩:=s';unfold FM at ge
 repeat (first|(with_reducible refine B0 ge ?_)|(with_reducible refine B0 gC ?_)|(with_reducible refine EO gC ?_;rw[hB])|wp_step)
 exact wpAny_raiseNew_none hh hE
end
section
variable{prog:AL}{w:Az}{A:AR}{E:Vq}{h:AE}{g:Bj Ec}{d:Hq}{t:Af}{os:GP}
variable{nm q:Ag}{C N fI:Ah}{bs bm bmB:Ac Aj}{hdct:Ak}{sn:Ac Ag}{sub:Ac Aj}{ab:Ak}{col:An Ak}{dd:An Ah}{k0 k1 k2 k3 k5:An Aj}{B newId initId:CK}{mN:Ag->An Aj}{rest:Ac Aj}{oI:C7}
theorem bD{Q:Fin->Ao->Prop}(F:GZ B newId initId bmB)(T:DF h bmB bm)(gC:h.get? C=Aa (BQ nm q C N bs bm hdct sn sub ab col dd k0 k1 k2 k3 k5 newId))(hn:h.Ns N mN)(hi:mN "__init__" = Aa (.ref fI))(gI:h.get? fI=Aa oI)(cI:oI.cls=.type "function")(hl:rest.length<=sizeLine)(hq:∀ h' e,HN h h' e (.ref C) rest->Aw (model prog w) A (call (.ref fI) (.ref e::rest)) (λr s'=>r=.none/\Q (.done (.ret (.ref e))) s') E ⟨h',g,d,t,os⟩):Aw (model prog w) A (Builtin.«type.__call__» ⟨.ref C::rest,[]⟩) Q E ⟨h,g,d,t,os⟩:=by
 repeat (first|(with_reducible refine B0 gC ?_)|(with_reducible refine wpAny_madeBy_exc gC ?_)|wp_step)
 refine codeAny_call_builtin_code (Gs _ F.quiet) (wpAny_check_new_subT F T gC (codeAny_exc_new_subT F T gC ?_ hl));show Aw _ _ _ _ _ _;have kp:∀ b o,h.get? b=Aa o->((h.push { cls:=.type "tuple",data:=.seq rest.toArray }).push {cls:=.ref C,data:=.fields #[.ref h.objs.size,.none,.none,.none,.bool Ad,.none]}).get? b=Aa o:=λb o z=>Ax _ (Ax _ z)
 have ge:((h.push { cls:=.type "tuple",data:=.seq rest.toArray }).push {cls:=.ref C,data:=.fields #[.ref h.objs.size,.none,.none,.none,.bool Ad,.none]}).get? (h.objs.size+1)=Aa {cls:=.ref C,data:=.fields #[.ref h.objs.size,.none,.none,.none,.bool Ad,.none]}:=by heap_get
 have gt:((h.push { cls:=.type "tuple",data:=.seq rest.toArray }).push {cls:=.ref C,data:=.fields #[.ref h.objs.size,.none,.none,.none,.bool Ad,.none]}).get? h.objs.size=Aa { cls:=.type "tuple",data:=.seq rest.toArray }:=Ax _ (WH rfl rfl);generalize (h.push { cls:=.type "tuple",data:=.seq rest.toArray }).push {cls:=.ref C,data:=.fields #[.ref h.objs.size,.none,.none,.none,.bool Ad,.none]}=h2 at *;have gC2:=kp _ _ gC;have gI2:=kp _ _ gI;have hn2:h2.Ns N mN:=let ⟨o,es,ep,z,r⟩:=hn;⟨o,es,ep,kp _ _ z,r⟩
 have T2:=T.keeps (h':=h2) kp;have cC:(Bc C::bm).contains (.ref C)=Ab:=by simp
 unfold HZ
 repeat (first|(with_reducible refine B0 ge ?_)|(with_reducible refine EO gC2 ?_;rw[cC])|wp_step)
 show Aw _ _ (typeLookup (.ref C) _) _ _ _;refine wpAny_typeLookup_tail gC2 hn2 T2 F.mroIs F.init.lookup ?_;rw[hi];refine EK (As ?_);unfold bindSpecial;refine As (wpAny_typeOf (T := "function") ⟨_,gI2,cI⟩ ?_);rw[AC (by decide)]
 refine Bi (As (A5 (hq h2 (h.objs.size+1) ⟨kp,CH (Hw _),h.objs.size,ge,CH (AN _),gt⟩) (λr s' z=>?_) λ_ _ z=>z))
 obtain⟨rfl,z⟩:=z
 wp_walk
 exact z
theorem RC{Q:Vq}(F:GZ B newId initId bmB)(T:DF h bmB bm)(gC:h.get? C=Aa (BQ nm q C N bs bm hdct sn sub ab col dd k0 k1 k2 k3 k5 newId))(hn:h.Ns N mN)(hi:mN "__init__" = Aa (.ref fI))(gI:h.get? fI=Aa oI)(cI:oI.cls=.type "function")(hl:rest.length<=sizeLine)(hq:∀ h' e,HN h h' e (.ref C) rest->Aw (model prog w) (A.under (.builtin "type.__call__" ⟨.ref C::rest,[]⟩)) (call (.ref fI) (.ref e::rest)) (λr s'=>r=.none/\Q (.ref e) s') E ⟨h',g,d,t,os⟩):Aw (model prog w) A (call (.ref C) rest) Q E ⟨h,g,d,t,os⟩:=by
 have l1:=tc_lookup;have l2:=tc_bind (.ref C);have ty:(⟨h,g,d,t,os⟩:Ao).TypeIs (.ref C) "type" := ⟨_,gC,rfl⟩;refine D9 (codeAny_of_tree ?_);show Aw _ _ (callAny (.ref C) _) _ _ _
 repeat (any_goals (first|assumption|(with_reducible refine B0 gC ?_)|wp_step))
 refine⟨rfl,codeAny_call_builtin_at (Gs _ (by decide+kernel)) entry_typeCall (wpAny_check_type_call_sub gC (bD F T gC hn hi gI cI hl λh' e m=>?_))⟩
 exact hq h' e m
end
section
variable{prog:AL}{w:Az}{A:AR}{E:Vq}{s:Ao}{env:Cc}
variable{nm q:Ag}{C N fI:Ah}{bs bm bmB:Ac Aj}{hdct:Ak}{sn:Ac Ag}{sub:Ac Aj}{ab:Ak}{col:An Ak}{dd:An Ah}{k0 k1 k2 k3 k5:An Aj}{B newId initId:CK}{mN:Ag->An Aj}
theorem YY{Q:Flow->Ao->Prop}{np cpos pos:AA}{args:Ac Am}(F:GZ B newId initId bmB)(hb:bm.contains (.type "BaseException")=Ab)(hh:A.handled=Ae)(hp:(Bu cpos (Ar args env)).any (·.1)=Ad)(hi:mN "__init__" = Aa (.ref fI))(h:Aw (model prog w) A (eval (.Name x np) env) (λf s1=>f=.ref C/\Aw (model prog w) A (evalArgs (.ref C) Ab (Bu cpos (Ar args env)) [])
   (λa s2=>a.kw=[]/\a.pos.length<=sizeLine/\s2.heap.get? C=Aa (BQ nm q C N bs bm hdct sn sub ab col dd k0 k1 k2 k3 k5 newId)/\s2.heap.Ns N mN/\DF s2.heap bmB bm/\(∃ oI,s2.heap.get? fI=Aa oI/\oI.cls=.type "function") /\
    ∀ h' e,HN s2.heap h' e (.ref C) a.pos->Aw (model prog w) (A.under (.builtin "type.__call__" ⟨.ref C::a.pos,[]⟩)) (call (.ref fI) (.ref e::a.pos)) (λr s'=>r=.none/\∃ t dx,s'.heap.get? C=Aa (BQ nm q C N bs bm hdct sn sub ab col dd k0 k1 k2 k3 k5 newId)/\s'.heap.get? e=Aa (FM C dx t)/\E (.ref e) s') E {s2 with heap:=h'}) E s1) E s):Aw (model prog w) A (exec (.Raise (Aa (.Call (.Name x np) args [] cpos)) Ae pos) env) Q E s:=by
 rw[arm_exec_Raise]
 try simp only[evalOpt,Fl]
 refine As (DK (aC (nm:=nm) (q:=q) (C:=C) (N:=N) (bs:=bs) (bm:=bm) (hdct:=hdct) (sn:=sn) (sub:=sub) (ab:=ab) (col:=col) (dd:=dd) (k0:=k0) (k1:=k1) (k2:=k2) (k3:=k3) (k5:=k5) (newId:=newId) hb hh ?_));refine As (A5 (wpAny_Call_ofName (A5 h (λf s1 z=>?_) λ_ _ z=>z)) (λv s3 z=>As (DK (Bi z))) λ_ _ z=>z)
 obtain⟨rfl,z⟩:=z;unfold callWith;refine As (EK (A5 z (λa s2 y=>As (DK ?_)) λ_ _ y=>y))
 obtain⟨us,kw⟩:=a;obtain⟨hk,hl,gC,hn,T,⟨oI,gI,cI⟩,k⟩:=y;obtain rfl:kw=[]:=hk;obtain⟨hp2,g,d,tk,os⟩:=s2;simp only[hp];refine As (wpAny_keeperOf_exc gC (As (RC F T gC hn hi gI cI hl λh' e m=>A5 (k h' e m) (λr s' y=>?_) λ_ _ y=>y)))
 obtain⟨rfl,t,dx,c1,c2,c3⟩:=y;exact⟨rfl,As (EK (wpAny_point (Bi ⟨e,t,dx,rfl,c1,c2,c3⟩)))⟩
end
section
variable{prog:AL}{w:Az}{A:AR}{E:Vq}{h:AE}{g:Bj Ec}{d:Hq}{tk0:Af}{os:GP}
variable{nm q:Ag}{C N e t:Ah}{dx:An Ah}{bs bm bmB:Ac Aj}{hdct:Ak}{sn:Ac Ag}{sub:Ac Aj}{ab:Ak}{col:An Ak}{dd:An Ah}{k0 k1 k2 k3 k5:An Aj}{B newId initId:CK}
theorem gO{Q:Vq}(F:GZ B newId initId bmB)(T:DF h bmB bm)(gC:h.get? C=Aa (BQ nm q C N bs bm hdct sn sub ab col dd k0 k1 k2 k3 k5 newId))(ge:h.get? e=Aa (FM C dx t))(hq:∀ h' t',(∀ b o,b≠e->h.get? b=Aa o->h'.get? b=Aa o)->h'.get? e=Aa (FM C dx t')->Q .none ⟨h',g,d,tk0,os⟩):Aw (model prog w) A (call (.builtin initId) [.ref e,.str z tk]) Q E ⟨h,g,d,tk0,os⟩:=by
 refine D9 (DT F.init.plain F.initEntry (wpAny_check_init_subT F T gC ge rfl ?_));unfold FM at ge
 wp_walk
 refine hq _ h.objs.size (λb o nb z=>(BP _ _ (Cn nb)).trans (Ax _ z)) ?_
 rw[Ci _ (Ax _ ge) rfl];rfl
end
noncomputable def xbd:Af->Af
 |0=>4
 |n+1=>8*xbd n+19
theorem R6:∀ n:Fin 100,(Ap (toString ((n.val:Af):Ai))).length<=4:=by decide+kernel
theorem Tt{α:Type}(f:α->Af){m:Af}:∀ l:Ac α,(∀ x∈l,f x<=m)->(l.map f).sum<=l.length*m
 |[],_=>by simp
 |x::l,h=>by
  have h1:=h x AO;have h2:=Tt f l λy hy=>h y (AF _ hy)
  rw[B2,List.sum_cons,Ba,Nat.succ_mul];omega
section
variable{X:Cx}{CL:ClA}{pI:Pn}{Y:L2.St}{H:Hp}{s:Ao}
structure Shw (h:AE) (n:Af) (u:Aj) (pd:JP):Prop where
 rd:Reads h u pd []
 sh:pd.showable=Ab
 nd:pd.hasDict=Ad
 dp:pd.depth<=n
 ln:pd.shown.length<=xbd n
inductive ShwA (h:AE) (n:Af):Ac Aj->Ac JP->Prop where
 |nil:ShwA h n [] []
 |cons {u:Aj} {pd:JP} {us:Ac Aj} {pds:Ac JP}:Shw h n u pd->ShwA h n us pds->ShwA h n (u::us) (pd::pds)
theorem RA{h:AE}{n:Af}:∀{us:Ac Aj}{pds:Ac JP},ShwA h n us pds->ReadsAll h us pds []/\WN pds=Ab/\WM pds=Ad/\Hr pds<=n/\(∀ t∈DG pds,t.length<=xbd n)/\(DG pds).length=us.length
 |[],[],_=>⟨.nil,rfl,rfl,Dh _,(λ_ h=>nomatch h),rfl⟩
 |u::us,pd::pds,.cons h1 h2=>by
  obtain⟨a,b,c,d,e,f⟩:=RA h2;refine⟨.cons h1.rd a,?_,?_,?_,?_,?_⟩
  .show (pd.showable&&WN pds)=Ab;rw[h1.sh,b];rfl
  .show (pd.hasDict||WM pds)=Ad;rw[h1.nd,c];rfl
  .show max pd.depth (Hr pds)<=n;exact Nat.max_le.mpr ⟨h1.dp,d⟩
  .intro t ht;rcases AH.mp ht with rfl|ht
   .exact h1.ln
   .exact e t ht
  .show (DG pds).length+1=us.length+1;rw[f]
theorem kY(I:Inv X pI Y H s):∀(n:Af){d:D}{v:V}{u:Aj},xfD n d=Ab->Rep X.K CL H A v d->Bs v u->∃ pd,Shw s.heap n u pd:=by
 intro n
 induction n with
 |zero=>
  intro d v u hx r rv;cases d with
  |int i=>
   have e:v=.int i:=r;subst e;obtain⟨t,rfl⟩:=rv;simp only[xfD,Al,AD]at hx;refine⟨.int i,.int i t,?_,rfl,AN _,?_⟩
   .show decide (i.natAbs.log2<1920)=Ab;refine Fp (D6 (GW _) (by omega))
   .have:=R6 ⟨i.toNat,by omega⟩
    rw[show ((i.toNat:Af):Ai)=i by omega]at this
    exact this
  |_=>exact absurd (show Ad=Ab from hx) At
 |succ n ih0=>
  intro d v u hx r rv;cases d with
  |tup ds=>
   obtain⟨a,xs,rfl,_,sq,rs⟩:=r;cases rv;obtain⟨its,vs,⟨o,ho,hc,m,hd⟩,hz⟩:=I.tuple sq;simp only[xfD,Al,Ca]at hx;have key:∀{xs:Ac V}{ds:Ac D}{its:Ac Aj},(∀ d∈ds,xfD n d=Ab)->Reps X.K CL H A xs ds->AW xs its->∃ pds,ShwA s.heap n its pds:=λ{xs}=>by
    induction xs with
    |nil=>
     intro ds its _ rs vs;cases vs;exact⟨[],.nil⟩
    |cons x xs ih=>
     intro ds its hd rs vs;cases ds with
     |nil=>exact rs.elim
     |cons d ds=>
      cases vs with
      |cons v1 v2=>
       obtain⟨pd,h1⟩:=ih0 (hd d AO) rs.1 v1;obtain⟨pds,h2⟩:=ih (λe he=>hd e (AF _ he)) rs.2 v2
       exact⟨pd::pds,.cons h1 h2⟩
   obtain⟨pds,hf⟩:=key hx.2 rs vs;obtain⟨p1,p2,p3,p4,p5,p6⟩:=RA hf;have l8:its.length<=8:=by
    have h8:=Nat.ble_eq.mp hx.1;rw[<-vs.length,rs.length];exact h8
   refine⟨.tuple pds,.tuple ho hc hd (by simpa using p1),p2,p3,?_,?_⟩
   .show Hr pds+1<=n+1;omega
   .show (tupleText (DG pds)).length<=8*xbd n+19;have h1:=tupleText_len_le (DG pds);have h2:=Tt (λt:Ag=>t.length) (DG pds) p5
    have h3:(DG pds).length*xbd n<=8*xbd n:=Nat.mul_le_mul_right _ (by omega)
    omega
  |_=>exact absurd (show Ad=Ab from hx) At
end
section
variable{X:Cx}{CL:ClA}
def tFs(K:Fg)(CL:ClA)(i:Af):TE:=λY H Q=>∃ v d A n,Y[i]?=Aa (Aa v)/\Rep K CL H A v d/\xfD n d=Ab/\n<=2/\∀ t:Ag,Q (.str t) H
def tFm(K:Fg)(CL:ClA)(i:Af):TE:=λY H Q=>∃ v d A n,Y[i]?=Aa (Aa v)/\Rep K CL H A v d/\xfD n d=Ab/\n<=2/\∀ t:Ag,t.length<=500->Q (.str t) H
theorem S8{e:Am}{i:Af}(hu:X.A.units+64<BE)(hg:X.A.guards=Aa [])(he:PE X e (Eu i)):PE X (.FormattedValue e (-1) Ae p1) (tFm X.K CL i):=by
 intro pI s Y H Q I ⟨v,d,A,n,hv,r,hx,hn,q⟩;refine wpAny_FormattedValue_plain (thn (he pI s Y H (λx H1=>x=v/\H1=H) I ⟨v,hv,rfl,rfl⟩) λu s1 ⟨x,H1,I1,r1,e1,e2⟩=>?_)
 subst e1 e2;have zl:sizeLine ≥ 2000:=by decide
 obtain⟨pd,sw⟩:=kY I1 n hx r r1;have hn':n=0\/n=1\/n=2:=by omega
 have xb:xbd n<=500:=by rcases hn' with rfl|rfl|rfl<;>decide
 have ln:=sw.ln;have dp:=sw.dp;cases d with
 |int j=>
  have e:x=.int j:=r;subst e;obtain⟨t,rfl⟩:=r1;cases n with
  |zero=>
   have hx':(decide (0<=j)&&decide (j<100))=Ab:=hx;rw[Al,AD,AD]at hx';have il:=R6 ⟨j.toNat,by omega⟩
   rw[show ((j.toNat:Af):Ai)=j by omega]at il
   exact formatField_int_small (D6 (GW _) (by omega)) ⟨.str _,H1,I1.tok _,⟨_,rfl⟩,q _ (Cp il (by omega))⟩
  |succ n=>cases hx
 |tup ds=>
  obtain⟨a,xs,rfl,_,sq,rs⟩:=r;cases r1;refine formatField_of_reads sw.rd sw.sh (λz=>by rw[sw.nd]at z;cases z) hg (by omega) (λ_ _ z=>z) (λh' tk1 tk2 kp=>?_) (by omega)
  exact⟨.str pd.shown,H1,I1.kept kp,⟨_,rfl⟩,q _ (by omega)⟩
 |_=>cases n<;>cases hx
theorem dM{e:Am}{i:Af}(hu:X.A.units+64<BE)(hg:X.A.guards=Aa [])(hz:z.length<=1000)(he:PE X e (Eu i)):PE X (.JoinedStr [.FormattedValue e (-1) Ae p1,.Constant (.str z) k p2] p3) (tFs X.K CL i):=by
 intro pI s Y H Q I ⟨v,d,A,n,hv,r,hx,hn,q⟩;have zl:sizeLine ≥ 2000:=by decide
 refine Xn ?_;show Aw (model X.prog X.w) X.A (eval (.FormattedValue e (-1) Ae p1) X.env) (λv s1=>∃ y t,v=.str y t/\(Dm++y).length<=sizeLine/\Joins (model X.prog X.w) X.A X.xe [eval (.Constant (.str z) k p2) X.env] (Dm++y) _ s1) X.xe s
 refine thn (S8 (CL:=CL) hu hg he pI s Y H (λx H1=>∃ y:Ag,x=.str y/\y.length<=500/\H1=H) I ⟨v,d,A,n,hv,r,hx,hn,λt ht=>⟨t,rfl,ht,rfl⟩⟩) λu s1 ⟨x,H1,I1,r1,y,e1,hy,e2⟩=>?_
 subst e1 e2;obtain⟨t1,rfl⟩:=r1;have l0:(Dm++y).length<=500:=by
  rw[FG];have:Dm.length=0:=rfl;omega
 refine⟨y,t1,rfl,by omega,?_⟩
 show Aw (model X.prog X.w) X.A (eval (.Constant (.str z) k p2) X.env) _ X.xe s1;refine thn (Mt (X:=X) pI _ Y H1 (λx H2=>x=.str z/\H2=H1) I1 ⟨rfl,rfl⟩) λu2 s2 ⟨x2,H2,I3,r3,e3,e4⟩=>?_
 subst e3 e4;obtain⟨t3,rfl⟩:=r3;have l1:(Dm++y++z).length<=sizeLine:=by
  rw[FG];omega
 exact⟨z,t3,rfl,l1,l1,⟨.str _,H2,I3.tok _,⟨_,rfl⟩,q _⟩⟩
theorem ZN{e:Am}{i:Af}{z':Ag}{k':Af}{p0:AA}(hu:X.A.units+64<BE)(hg:X.A.guards=Aa [])(hz':z'.length<=400)(hz:z.length<=1000)(he:PE X e (Eu i)):PE X (.JoinedStr [.Constant (.str z') k' p0,.FormattedValue e (-1) Ae p1,.Constant (.str z) k p2] p3) (tFs X.K CL i):=by
 intro pI s Y H Q I ⟨v,d,A,n,hv,r,hx,hn,q⟩;have zl:sizeLine ≥ 2000:=by decide
 refine Xn ?_;show Aw (model X.prog X.w) X.A (eval (.Constant (.str z') k' p0) X.env) (λv s1=>∃ y t,v=.str y t/\(Dm++y).length<=sizeLine/\Joins (model X.prog X.w) X.A X.xe [eval (.FormattedValue e (-1) Ae p1) X.env,eval (.Constant (.str z) k p2) X.env] (Dm++y) _ s1) X.xe s
 refine thn (Mt (X:=X) pI _ Y H (λx H2=>x=.str z'/\H2=H) I ⟨rfl,rfl⟩) λu0 s0 ⟨x0,H0,I0,r0,e0,e00⟩=>?_
 subst e0 e00;obtain⟨t0,rfl⟩:=r0;have le:(Dm++z').length<=400:=by
  rw[FG];have:Dm.length=0:=rfl;omega
 refine⟨z',t0,rfl,by omega,?_⟩
 show Aw (model X.prog X.w) X.A (eval (.FormattedValue e (-1) Ae p1) X.env) _ X.xe s0;refine thn (S8 (CL:=CL) hu hg he pI s0 Y H0 (λx H1=>∃ y:Ag,x=.str y/\y.length<=500/\H1=H0) I0 ⟨v,d,A,n,hv,r,hx,hn,λt ht=>⟨t,rfl,ht,rfl⟩⟩) λu s1 ⟨x,H1,I1,r1,y,e1,hy,e2⟩=>?_
 subst e1 e2;obtain⟨t1,rfl⟩:=r1;have l0:(Dm++z'++y).length<=900:=by
  rw[FG];omega
 refine⟨y,t1,rfl,by omega,?_⟩
 show Aw (model X.prog X.w) X.A (eval (.Constant (.str z) k p2) X.env) _ X.xe s1;refine thn (Mt (X:=X) pI _ Y H1 (λx H2=>x=.str z/\H2=H1) I1 ⟨rfl,rfl⟩) λu2 s2 ⟨x2,H2,I3,r3,e3,e4⟩=>?_
 subst e3 e4;obtain⟨t3,rfl⟩:=r3;have l1:(Dm++z'++y++z).length<=sizeLine:=by
  rw[FG];omega
 exact⟨z,t3,rfl,l1,l1,⟨.str _,H2,I3.tok _,⟨_,rfl⟩,q _⟩⟩
structure FsOk (par:Ag) (j:Am):Prop where
 st:∀ env,Ar [j] env=[(Ad,eval j env)]
 pe:∀(X:Cx)(CL:ClA)(i:Af),X.A.units+64<BE->X.A.guards=Aa []->(∀ p,PE X (.Name par p) (Eu i))->PE X j (tFs X.K CL i)
theorem kS{p4:AA}(hz:z.length<=1000):FsOk par (.JoinedStr [.FormattedValue (.Name par p1) (-1) Ae p2,.Constant (.str z) k p3] p4):=⟨λ_=>rfl,λ_ _ _ hu hg he=>dM hu hg hz (he _)⟩
theorem ZG{z':Ag}{k':Af}{p0 p4:AA}(hz':z'.length<=400)(hz:z.length<=1000):FsOk par (.JoinedStr [.Constant (.str z') k' p0,.FormattedValue (.Name par p1) (-1) Ae p2,.Constant (.str z) k p3] p4):=⟨λ_=>rfl,λ_ _ _ hu hg he=>ZN hu hg hz' hz (he _)⟩
end
def XEx(e C:Ah)(dx:An Ah)(t:Ah):AE->Prop:=λh=>h.get? e=Aa (FM C dx t)
theorem Mq{e C:Ah}{t:Ah}:∀ h1 h2:AE,XEx e C dx t h1->(∀ o,h1.get? e=Aa o->h2.get? e=Aa o)->XEx e C dx t h2:=λ_ _ p k=>k _ p
section
variable{X:Cx}{CL:ClA}{C:Ah}{nm q:Ag}{N:Ah}{bs bm:Ac Aj}{hdct:Ak}{sn:Ac Ag}{sub:Ac Aj}{ab:Ak}{col:An Ak}{dd:An Ah}{k0 k1 k2 k3 k5:An Aj}
theorem YV{np apos cpos:AA}{es ej:Am}{i j:Af}(hob:∀ h:AE,X.K.In h->h.get? C=Aa (BQ nm q C N bs bm hdct sn sub ab col dd k0 k1 k2 k3 k5 "ValueError.__new__")/\DF h veB bm)(hg:Gl X g)(hm:X.mg g=Aa (.ref OV))(hdb:(g==("__debug__" : Ag))=Ad)(s1:BY X.K (.ref OV) "__getattribute__" = Aa (Aa (.builtin "type.__getattribute__")))(s2:E6 X.K OV (.type "type")=Ab)(s3:E5 X.K (.ref OV) (.type "type") "__init__" = Aa (.val (.builtin "ValueError.__init__")))(hline:(apos.endLine==cpos.line)=Ab)(he:PE X es (Eu i))(hj:PE X ej (tFs X.K CL j))(sA:Ar [es,ej] X.env=(Ad,eval es X.env)::Ar [ej] X.env)(sB:Ar [ej] X.env=[(Ad,eval ej X.env)]):
  PE X (.Call (.Attribute (.Name g np) "__init__" apos) [es,ej] [] cpos) (λY H Q=>∃ e dx t v d A n,Y[i]?=Aa (Aa (.ref e))/\H e=Aa (.ext (XEx e C dx t))/\Y[j]?=Aa (Aa v)/\Rep X.K CL H A v d/\xfD n d=Ab/\n<=2/\∀ t',Q .non (upd H e (.ext (XEx e C dx t')))):=by
 have st1:Ar [es,ej] X.env=[(Ad,eval es X.env),(Ad,eval ej X.env)]:=by rw[sA,sB]
 intro pI s Y H Q I ⟨e,dx,t,v,d,A,n,h1,h2,h3,r,hx,hn,hq⟩;rw[IC];refine As (show Aw (model X.prog X.w) X.A (eval (.Name g np) X.env) _ X.xe s from Gy I hg hm ?_ hdb)
 refine As (DK ?_);have form:HR ([es,ej].length+([]:Ac D4).length) (Bu cpos (Ar [es,ej] X.env)) (G2 cpos (FF [] X.env))=Ab:=by
  rw[st1];rfl
 have mpos:EJ Ab (.Name g np) X.env apos cpos=pure cpos:=by
  unfold EJ;simp[hline]
 unfold JU;rw[form];refine As (EK (PySem.W.method_cls I.kIn s1 (PySem.W.cls_value I.kIn s2 s3 rfl ?_)));refine As (Gq mpos ?_);have I1:=I.tok (s.toks+1);have pa:PA X [es,ej] _:=DU he (DU hj Fe sB) sA;have hA:=pa cpos pI {s with toks:=s.toks+1} Y H (λxs H'=>H'=H/\∃ z,xs=[.ref e,.str z]) I1 ⟨_,h1,⟨v,d,A,n,h3,r,hx,hn,λz=>⟨rfl,z,rfl⟩⟩⟩
 rw[st1]at hA ⊢;refine FD rfl (EA (thn hA λus s2 ⟨xs,H2,I2,rv,e2,z,ex⟩=>?_))
 subst e2 ex;obtain⟨u1,u2,rfl,ru1,ru2⟩:=Ks rv;cases ru1;obtain⟨tk,rfl⟩:=ru2;obtain⟨gC,T⟩:=hob _ I2.kIn;have ge:XEx e C dx t s2.heap:=(I2.hok e _ h2).1;obtain⟨hp,g2,d2,tk2,os2⟩:=s2;refine gO C5 T gC ge λh' t' kp ge'=>?_
 refine⟨.non,_,I2.write (x:=e) (e:=e) (o:=.ext (XEx e C dx t')) (t':=tk2) (by rw[h2];exact trivial) (.inl rfl) kp ⟨_,ge'⟩ ⟨ge',⟨_,ge'⟩,Mq⟩,rfl,hq t'⟩
end
theorem XQ{bmB bm:Ac Aj}(T:DF h bmB bm){self:Aj}{what:Ag}(hb:refuseLoop self what bmB=pure ()):refuseLoop self what bm=pure ():=by
 induction T with
 |base=>exact hb
 |own _ _ _ _ ih=>rw[Xm];exact ih
section
variable{prog:AL}{w:Az}{A:AR}{E:Vq}{h:AE}{g:Bj Ec}{d:Hq}{tk0:Af}{os:GP}{K:Fg}
variable{nm q:Ag}{C N e t:Ah}{bs bm bmB:Ac Aj}{sn:Ac Ag}{sub:Ac Aj}{ab:Ak}{col:An Ak}{dd:An Ah}{k0 k1 k2 k3 k5:An Aj}{B newId sa owner:CK}
theorem bG{Q:Fin->Ao->Prop}{v:Aj}(X:K.In h)(SF:JR B bmB sa owner)(T:DF h bmB bm)(gC:h.get? C=Aa (BQ nm q C N bs bm Ab sn sub ab col dd k0 k1 k2 k3 k5 newId))(hf:Aq K (.ref C) name=Aa Ae)(ge:h.get? e=Aa (FM C Ae t))(hq:∀ h' dx tk',(∀ b o,b≠e->h.get? b=Aa o->h'.get? b=Aa o)->h'.get? e=Aa (FM C (Aa dx) t)->h.get? dx=Ae->h'.Ns1 dx (λy=>if y=name then Aa v else Ae)->Q (.done (.ret .none)) ⟨h',g,d,tk',os⟩):Aw (model prog w) A (Builtin.«object.__setattr__» ⟨[.ref e,.str name tk,v],[]⟩) Q E ⟨h,g,d,tk0,os⟩:=by
  have pass:=XQ T (SF.passes (.ref e));have L1:=B8 (M:=model prog w) X hf;obtain⟨o,ho⟩:∃ o,FM C Ae t=o:=⟨_,rfl⟩;rw[ho]at ge;have oc:o.cls=.ref C:=by rw[<-ho];rfl
  unfold Builtin.«object.__setattr__»
  repeat (first|rw[refuse_eq]|(rw[Xm,pass])|(with_reducible refine B0 ge ?_;rw[oc])|(with_reducible refine wpAny_mroOf_exc gC ?_)|(with_reducible refine L1.at ?_)|(with_reducible refine As (L1.at ?_))|wp_step)
  have od:o.dict=Ae:=by rw[<-ho];rfl
  have odt:o.data=.fields #[.ref t,.none,.none,.none,.bool Ad,.none]:=by rw[<-ho];rfl
  rw[od,odt,AJ (by simp[typeHasDict])]
  let D:C7:={ cls:=.type "dict",data:=.dict #[] }
  have g1:(h.push D).get? e=Aa o:=Ax _ ge;have ne:e≠h.objs.size:=Bp (AK ge);refine As (wpAny_alloc' ?_);refine As (wpAny_update' g1 ?_);refine Bi ?_
  let U_:C7->C7:=λo=>{cls:=o.cls,dict:=Aa h.objs.size,data:=o.data,slots:=o.slots}
  have gD:((h.push D).update e U_).get? h.objs.size=Aa D:=(WI _ _ _ _ ne.symm).trans (WH rfl rfl);have nD:((h.push D).update e U_).Ns h.objs.size (λ_=>Ae):=⟨_,#[],_,gD,rfl,λz hz=>absurd hz (by simp),λ_=>rfl⟩
  change Aw _ _ (VY h.objs.size (.str name tk) name v) _ _ _;unfold VY Builtin.ObjectAttr.newKeyGuard;refine As (Bi (As (wpAny_nsSet1 (WF nD) λk hk hs=>?_)))
  obtain⟨oD,eD,pD,q1,q2,q3⟩:=hk.count (Within.cons name v Within.nil);have le:oD.data.pastItsLine=Ae:=by
    rw[q2];refine Xk (Cp q3 ?_);rw[Ba,List.length_nil,BZ];omega
  refine As (Xs q1 le ?_)
  wp_walk
  refine hq k h.objs.size _ (λb ob nb hb=>?_) ?_ (CH (AN _)) hk
  · rw[hs.2 b (Bp (AK hb)),WI _ _ _ _ nb];exact Ax _ hb
  · rw[hs.2 e ne];have:Aa (FM C (Aa h.objs.size) t)=Aa (U_ o):=by rw[<-ho];rfl
    rw[this];exact Ci _ g1 (by rw[<-ho];rfl)
end
section
variable{prog:AL}{w:Az}{A:AR}{E:Vq}{h:AE}{g:Bj Ec}{d:Hq}{tk0:Af}{os:GP}{K:Fg}
variable{nm q:Ag}{C N e t:Ah}{bs bm bmB:Ac Aj}{sn:Ac Ag}{sub:Ac Aj}{ab:Ak}{col:An Ak}{dd:An Ah}{k0 k1 k2 k3 k5:An Aj}{B newId sa owner:CK}
theorem bH{o:C7}{a b:Aj}(SF:JR B bmB sa owner)(T:DF h bmB bm)(gC:h.get? C=Aa (BQ nm q C N bs bm Ab sn sub ab col dd k0 k1 k2 k3 k5 newId))(ge:h.get? e=Aa o)(hc:o.cls=.ref C)(hq:Q () ⟨h,g,d,tk0,os⟩):Aw M A (FL sa ⟨[.ref e,a,b],[]⟩) Q E ⟨h,g,d,tk0,os⟩:=by
 have hb:(Bc C::bm).contains (.type owner)=Ab:=by rw[Gr,T.hasType SF.hasOwner,ID]
 have ha:=SF.args (.ref e) a b;simp only[FL,SF.kind,SF.split];refine As ?_;unfold HZ
 repeat (first|(with_reducible refine B0 ge ?_;rw[hc])|(with_reducible refine EO gC ?_;rw[hb])|wp_step)
 unfold argsOk at ha;split
 .rename_i sig hs;rw[hs]at ha;refine Gq ha ?_;exact hq
 .exact Bi hq
theorem gM{v:Aj}(X:K.In h)(SF:JR B bmB sa owner)(T:DF h bmB bm)(gC:h.get? C=Aa (BQ nm q C N bs bm Ab sn sub ab col dd k0 k1 k2 k3 k5 newId))(hf:Aq K (.ref C) name=Aa Ae)(hs:Aq K (.ref C) "__setattr__" = Aa (Aa (.builtin sa)))(ge:h.get? e=Aa (FM C Ae t))(hq:∀ h' dx tk',(∀ b o,b≠e->h.get? b=Aa o->h'.get? b=Aa o)->h'.get? e=Aa (FM C (Aa dx) t)->h.get? dx=Ae->h'.Ns1 dx (λy=>if y=name then Aa v else Ae)->Q () ⟨h',g,d,tk',os⟩):Aw (model prog w) A (JY (.ref e) name v) Q E ⟨h,g,d,tk0,os⟩:=by
 have f3:=SF.slot.bind (.ref e);have L1:=B8 (M:=model prog w) X hs;obtain⟨o,ho⟩:∃ o,FM C Ae t=o:=⟨_,rfl⟩;have oc:o.cls=.ref C:=by rw[<-ho];rfl
 have ge':=ge;rw[ho]at ge';unfold JY IQ specialOf
 repeat (any_goals (first|assumption|(with_reducible refine B0 ge' ?_;rw[oc])|(with_reducible refine As (L1.at ?_))|(with_reducible refine L1.at ?_)|wp_step))
 refine DT SF.slot.plain SF.entry (bH SF T gC ge' oc (bG X SF T gC hf ge λh' dx tk' k1 k2 k3 k4=>?_))
 repeat (any_goals (first|assumption|wp_step))
 exact hq h' dx tk' k1 k2 k3 k4
end
section
variable{X:Cx}{pI:Pn}{Y:L2.St}{H:Hp}{s:Ao}{e:Ah}
theorem Ot{o:HO}(I:Inv X pI Y H s)(ha:FN X pI e)(hH:H e=Ae)(ho:ObjOk X.prog X.w (upd H e o) s.heap e o):Inv X pI Y (upd H e o) s:=by
 have ne:∀ b o,H b=Aa o->b≠e:=λb o q z=>by rw[z,hH]at q;cases q
 refine⟨I.ok,I.os,I.bare,⟨I.base.keep,I.base.slot,λb o q n hb=>?_,I.base.there,λb xs q=>?_,λb o u q=>?_,λb ps q=>?_⟩,I.loc,I.cell,?_,λx c q=>?_,λp hp=>?_,λb o q=>?_,I.len⟩
 .rw[Bb λz=>by rw[z,ha.2.2.2]at q;cases q]
  exact I.base.free b o q n hb
 .have:=I.base.tups b xs q;rw[Bb (ne _ _ this)];exact this
 .have:=I.base.frzs b o u q;rw[Bb (ne _ _ this)];exact this
 .obtain⟨more,this⟩:=I.base.tbls b ps q;exact⟨more,by rw[Bb (ne _ _ this)];exact this⟩
 .rw[Bb λz=>ha.1 z.symm];exact I.free
 .rw[Bb (ha.2.1 x c q)];exact I.freeC x c q
 .obtain⟨q,n,r⟩:=I.pin p hp;exact⟨q,by rw[Bb (ha.2.2.1 p hp)];exact n,r⟩
 .by_cases hb:b=e
  .subst hb;rw[C8]at q;cases q;exact ho
  .rw[Bb hb]at q;exact(I.hok b o q).stay (λc v hc z=>z) (λc z=>by rw[Bb (ne _ _ z)];exact z) λc zs z=>by rw[Bb (ne _ _ z)];exact z
theorem ZA(I:Inv X pI Y H s)(hH:H e=Aa (.ext φ))(h0:X.s₀.heap.get? e=Ae)(h1:X.ex=[]->G4):Inv X pI Y (λb=>if b=e then Ae else H b) s:=by
 have get:∀ b o,(if b=e then Ae else H b)=Aa o->b≠e/\H b=Aa o:=λb o q=>by
  by_cases z:b=e
  .rw[AC z]at q;cases q
  .rw[AJ z]at q;exact⟨z,q⟩
 have put:∀ b o,H b=Aa o->o≠.ext φ->(if b=e then Ae else H b)=Aa o:=λb o q n=>by
  by_cases z:b=e
  .rw[z,hH]at q;cases q;exact absurd rfl n
  .rw[AJ z];exact q
 have non:∀ b,H b=Ae->(if b=e then Ae else H b)=Ae:=λb q=>by
  by_cases z:b=e
  .rw[AC z]
  .rw[AJ z];exact q
 refine⟨I.ok,I.os,I.bare,⟨λb o q n hb hx=>?_,I.base.slot,λb o q n hb=>?_,I.base.there,λb xs q=>?_,λb o u q=>?_,λb ps q=>?_⟩,I.loc,I.cell,non _ I.free,λx c q=>non _ (I.freeC x c q),λp hp=>?_,λb o q=>?_,I.len⟩
 .exact I.base.keep b o q n hb hx
 .exact non b (I.base.free b o q n hb)
 .exact put b _ (I.base.tups b xs q) (by intro z;cases z)
 .exact put b _ (I.base.frzs b o u q) (by intro z;cases z)
 .obtain⟨more,this⟩:=I.base.tbls b ps q;exact⟨more,put b _ this (by intro z;cases z)⟩
 .obtain⟨q,n,r⟩:=I.pin p hp;exact⟨q,non _ n,r⟩
 .obtain⟨nb,q⟩:=get b o q;exact(I.hok b o q).stay (λc v hc z=>z) (λc z=>put c _ z (by intro z;cases z)) λc zs z=>put c _ z (by intro z;cases z)
end
section
variable{X:Cx}{C:Ah}{nm q:Ag}{N:Ah}{bs bm:Ac Aj}{sn:Ac Ag}{sub:Ac Aj}{ab:Ak}{col:An Ak}{dd:An Ah}{k0 k1 k2 k3 k5:An Aj}
theorem dG{i j:Af}{f:Ag}{eo:Am}{p8 p10:AA}(hob:∀ h:AE,X.K.In h->h.get? C=Aa (BQ nm q C N bs bm Ab sn sub ab col dd k0 k1 k2 k3 k5 "ValueError.__new__")/\DF h veB bm)(hx:X.ex=[])(hf:Aq X.K (.ref C) f=Aa Ae)(hs:Aq X.K (.ref C) "__setattr__" = Aa (Aa (.builtin "object.__setattr__")))(he:PE X eo (Eu i))(hv:PE X ev (Eu j))(sw:CF ev (Aa (.Attribute eo f p8)) p10.line X.env=pure Ad):PS X (.Assign [.Attribute eo f p8] ev p10) (λD Y H=>∃ e t v,Y[i]?=Aa (Aa (.ref e))/\H e=Aa (.ext (XEx e C Ae t))/\Y[j]?=Aa (Aa v)/\∀ dx,H dx=Ae->dx≠e->D.nx Y (upd (upd H e (.ext (XEx e C (Aa dx) t))) dx (.xd [(f,v)]))):=by
 intro pI s Y H D I ⟨e,t,v,h1,h2,h3,hq⟩;refine Xl (thn (hv pI s Y H (λx H1=>x=v/\H1=H) I ⟨v,h3,rfl,rfl⟩) λu s1 ⟨x,H1,I1,r1,e1,e2⟩=>?_) sw
 subst e1 e2;refine thn (he pI s1 Y H1 (λx H2=>x=.ref e/\H2=H1) I1 ⟨_,h1,rfl,rfl⟩) λu2 s2 ⟨x2,H2,I2,r2,e3,e4⟩=>?_
 subst e3 e4;cases r2;obtain⟨gC,T⟩:=hob _ I2.kIn;have ge:XEx e C Ae t s2.heap:=(I2.hok e _ h2).1;obtain⟨hp,g2,d2,tk2,os2⟩:=s2;refine gM I2.kIn PySem.F.store_ValueError T gC hf hs ge λh' dx tk' kp ge' nd ns=>?_
 have nH:H2 dx=Ae:=HB I2.hok nd;have nde:dx≠e:=λz=>by rw[z,h2]at nH;cases nH
 have ap:FN X pI dx:=Jx I2 hx nd;have I3:=I2.write (x:=e) (e:=e) (o:=.ext (XEx e C (Aa dx) t)) (t':=tk') (by rw[h2];exact trivial) (.inl rfl) kp ⟨_,ge'⟩ ⟨ge',⟨_,ge'⟩,Mq⟩
 have I4:=Ot (o:=.xd [(f,x)]) I3 ap (by rw[Bb nde];exact nH) ⟨_,ns,λy=>by
  by_cases z:y=f
  .subst z;rw[AC rfl];simp only[BX,Dx];exact r1
  .rw[AJ z];have:(y==f)=Ad:=by simp[z]
   simp only[BX,this]
   trivial⟩
 exact⟨Y,_,I4,hq dx nH nde⟩
end
noncomputable def FO(K:Fg)(C:Ah):Ak:=match K.lookup C with
  |some ⟨_,_,.cls c,_⟩=>c.hasDict
  |_=>Ad
noncomputable def P5(g par f:Ag)(j:Am)(np apos p1 cpos p6 p7 p8 p9 p10:AA):Ac AG:=
 [.Expr (.Call (.Attribute (.Name g np) "__init__" apos) [.Name "self" p1,j] [] cpos) p6,.Assign [.Attribute (.Name "self" p7) f p8] (.Name par p9) p10]
inductive XIn (K:Fg) (mg:Ag->An Aj) (C:Ah) (f:Ag):Prop
 |mk {fI OV:Ah} {x qual g par:Ag} {j:Am} {st:AG} {fd:Bv} {np apos p1 cpos p6 p7 p8 p9 p10:AA} (xc:Dg K C (Aa (.ref fI))=Ab) (dc:FO K C=Ab) (fn:Fun K x qual st fI fd) (ty:Dd K (.ref fI)=Aa (.type "function"))
  (S:FnScope ["self",par] ["self",par] (BF st)) (l1:(BF st).names.lookup ("self" : Ag)=Aa .local) (l2:(BF st).names.lookup par=Aa .local) (bd:DB K fd ["self",par] []) (body:Ef st=P5 g par f j np apos p1 cpos p6 p7 p8 p9 p10)
  (gl:(BF st).names.lookup g=Aa .globalImplicit) (mo:mg g=Aa (.ref OV)) (dg:(g==("__debug__" : Ag))=Ad) (dp:(par==("__debug__" : Ag))=Ad) (dq:(par==("__classdict__" : Ag))=Ad)
  (s1:BY K (.ref OV) "__getattribute__" = Aa (Aa (.builtin "type.__getattribute__"))) (s2:E6 K OV (.type "type")=Ab) (s3:E5 K (.ref OV) (.type "type") "__init__" = Aa (.val (.builtin "ValueError.__init__")))
  (hl:(apos.endLine==cpos.line)=Ab) (hz:FsOk par j) (hf:Aq K (.ref C) f=Aa Ae) (hs:Aq K (.ref C) "__setattr__" = Aa (Aa (.builtin "object.__setattr__"))):XIn K mg C f
section
variable{P:AL}{w:Az}{K:Fg}{mg:Ag->An Aj}{base:AE}{CL:ClA}{C fI OV:Ah}{x qual g par f:Ag}{j:Am}{st:AG}{fd:Bv}{np apos p1 cpos p6 p7 p8 p9 p10:AA}
variable{nm q:Ag}{N:Ah}{bs bm:Ac Aj}{sn:Ac Ag}{sub:Ac Aj}{ab:Ak}{col:An Ak}{dd:An Ah}{k0 k1 k2 k3 k5:An Aj}
theorem R7(hob:∀ h:AE,K.In h->h.get? C=Aa (BQ nm q C N bs bm Ab sn sub ab col dd k0 k1 k2 k3 k5 "ValueError.__new__")/\DF h veB bm)(fn:Fun K x qual st fI fd)(S:FnScope ["self",par] ["self",par] (BF st))(l1:(BF st).names.lookup ("self" : Ag)=Aa .local)(l2:(BF st).names.lookup par=Aa .local)(bd:DB K fd ["self",par] [])(body:Ef st=P5 g par f j np apos p1 cpos p6 p7 p8 p9 p10)(gl:(BF st).names.lookup g=Aa .globalImplicit)(mo:mg g=Aa (.ref OV))(dg:(g==("__debug__" : Ag))=Ad)(dp:(par==("__debug__" : Ag))=Ad)(dq:(par==("__classdict__" : Ag))=Ad)(s1:BY K (.ref OV) "__getattribute__" = Aa (Aa (.builtin "type.__getattribute__")))(s2:E6 K OV (.type "type")=Ab)(s3:E5 K (.ref OV) (.type "type") "__init__" = Aa (.val (.builtin "ValueError.__init__")))(hl:(apos.endLine==cpos.line)=Ab)(hz:FsOk par j)(hf:Aq K (.ref C) f=Aa Ae)(hs:Aq K (.ref C) "__setattr__" = Aa (Aa (.builtin "object.__setattr__"))){A:AR}{outer:Ac Cc}{s:Ao}{E:XK}{e t:Ah}{v:V}{u:Aj}{n:Af}(hh:A.handled=Ae)(hdp:A.depth<HU)(hun:A.units+70<BE)(hgd:A.guards=Aa [])(e0:Env0 P w K mg base A outer s H)(he:H e=Aa (.ext (XEx e C Ae t)))(rp:Rep K CL H B v d)(hx:xfD n d=Ab)(hn:n<=2)(r:Bs v u):Ep (model P w) A (.call (.ref fI) ⟨[.ref e,u],[]⟩) (CR M4 outer P w H s (λy H'=>y=.non/\∃ t' dx,H dx=Ae/\dx≠e/\H'=upd (upd H e (.ext (XEx e C (Aa dx) t'))) dx (.xd [(f,v)])) E) s:=by
 obtain⟨oc,od,kV,doc,pm,an,cdv,ct,osl,rfl,lk,hcd⟩:=fn.ex;have KX:K.In s.heap:=e0.mod.kin.keeps λb o e=>(e0.bs b o e).1
 have lim:s.heap.NoLimit:=e0.mod.nolimit.keeps λb o e=>(e0.bs b o e).1
 have hkind:∀ y∈(["self",par]:Ac Ag).zip [Bc e,u],(BF st).names.lookup y.1=Aa .local\/((BF st).names.lookup y.1=Aa .cell/\((CN (s.heap.objs.size+1) (BF st).names []).lookup y.1).isSome=Ab):=λy hy=>by
  refine .inl ?_;rcases AH.mp hy with rfl|hy
  .exact l1
  .rw[Br.mp hy];exact l2
 have rv:AW [.ref e,v] [.ref e,u]:=.cons rfl (.cons r .nil);refine Xh hdp (KX _ _ lk) rfl S.co S.gen rfl (W7 KX hcd) (bd s [.ref e,u] KX rfl _ _ _ _ ?_);refine Xu S.kind hkind λenv hen s1' x=>?_
 subst hen;refine⟨lim.keeps x.toInCall.keep,codeAny_func ?_⟩;have I:Inv (E2 M4 P w K mg base ["self",par] qual (BF st) fI cdv A outer s H E) [] (start ["self",par] [.ref e,v]) H s1':=QZ S hh e0 rfl rv x;generalize hX:E2 M4 P w K mg base ["self",par] qual (BF st) fI cdv A outer s H E=X at I;have pself:∀ p,PE X (.Name "self" p) (Eu 0):=λp=>by rw[<-hX];exact Kk rfl (.inl l1)
 have ppar:∀ p,PE X (.Name par p) (Eu 1):=λp=>by rw[<-hX];exact Kk rfl (.inl l2) dp dq
 have st1:=YV (X:=X) (CL:=CL) (C:=C) (g:=g) (np:=np) (apos:=apos) (cpos:=cpos) (i:=0) (j:=1) (OV:=OV) (by rw[<-hX];exact hob) (by rw[<-hX];exact gl) (by rw[<-hX];exact mo) dg (by rw[<-hX];exact s1) (by rw[<-hX];exact s2) (by rw[<-hX];exact s3) hl (pself p1)
  (hz.pe X CL 1 (by rw[<-hX];show A.units+3+64<BE;omega) (by rw[<-hX];exact hgd) ppar) rfl (hz.st _)
 have st2:=dG (X:=X) (p8:=p8) (p10:=p10) (by rw[<-hX];exact hob) (by rw[<-hX];rfl) (by rw[<-hX];exact hf) (by rw[<-hX];exact hs) (pself p7) (ppar p9) rfl
 have all:=IV (Jz (pos:=p6) st1 rfl) (Ig st2);have hk:=all [] s1' _ H {nx:=λ_ H'=>∃ t' dx,H dx=Ae/\dx≠e/\H'=upd (upd H e (.ext (XEx e C (Aa dx) t'))) dx (.xd [(f,v)]),rt:=λ_ _=>AU} I ⟨e,Ae,t,v,d,B,n,rfl,he,rfl,by rw[<-hX];exact rp,hx,hn,λt'=>⟨e,t',v,rfl,C8,rfl,λdx h1 h2=>⟨t',dx,by rw[Bb h2]at h1;exact h1,h2,by rw[Oy]⟩⟩⟩
 rw[body];refine A5 (by rw[<-hX]at hk;exact hk) (λfl s' hfl=>?_) λev s' hev=>hev
 cases fl with
 |next=>
  obtain⟨Y',H',J,w'⟩:=hfl;exact⟨.non,H',J.os,J.bare,J.base,J.hok,rfl,rfl,w'⟩
 |ret y=>obtain⟨_,_,_,_,_,w'⟩:=hfl;exact w'.elim
 |brk=>obtain⟨_,_,_,w'⟩:=hfl;exact w'.elim
 |cont=>obtain⟨_,_,_,w'⟩:=hfl;exact w'.elim
end
theorem T4:∀(n m:Af)(d:D),xfD n d=Ab->n+1<=m->nlD m d=Ab
 |0,m+1,.int i,_,_=>rfl
 |n+1,m+1,.tup ds,h,hm=>by
  have h':(CO ds.length 8&&ds.all (xfD n))=Ab:=h;rw[Al]at h';show ds.all (nlD m)=Ab;rw[Ca]at h' ⊢;exact λx hx=>T4 n m x (h'.2 x hx) (by omega)
 |0,_,.tup _,h,_=>nomatch h
 |n+1,_,.int _,h,_=>nomatch h
section
variable{X:Cx}{CL:ClA}{W:XW}
def KB(xn:Af->Ac D->R Ex)(c:Af)(f:Ag)(ds:Ac D):Prop:=∃ d n,ds=[d]/\xfD n d=Ab/\n<=2/\xn c ds=.ok ⟨c,[(f,d)]⟩
theorem Yi{np cpos pos:AA}{e:Am}{es:Ac Am}{fs:Rho->R (Ac D)}(hcalm:X.calm=Ab)(hx:X.ex=[])(hr:Room k X.A)(rz:LP X CL W)(hg:Gl X g)(hm:X.mg g=Aa (.ref C))(hdb:(g==("__debug__" : Ag))=Ad)(hcl:CL c=Aa C)(ha:SA X CL W (e::es) fs)(hxn:∀ ds,xn c ds=.bad\/(xn c ds=.ok ⟨c,[]⟩/\Dg X.K C Ae=Ab)\/∃ f,XIn X.K X.mg C f/\KB xn c f ds)(he:Ar (e::es) X.env=(Ad,eval e X.env)::Ar es X.env)(hpl:∀ pos,(Bu pos (Ar es X.env)).any (·.1)=Ad)(hz:∀ U ds,fs U=.ok ds->ds.length<=100000):SS X CL W (.Raise (Aa (.Call (.Name g np) (e::es) [] cpos)) Ae pos) (λU=>O.of U (noX (fs U)) λxs=>O.of U (xn c xs) λx=>.exn x U):=λFz B pI s Y H D I ⟨U,x,p⟩=>by
 have hpl':(Bu cpos (Ar (e::es) X.env)).any (·.1)=Ad:=by rw[he];show (Ad||(Bu cpos (Ar es X.env)).any (·.1))=Ad;rw[hpl];rfl
 cases e1:fs U with
 |bad=>dsimp only at p;rw[e1]at p;exact p.elim
 |exn y=>dsimp only at p;rw[e1]at p;exact p.elim
 |ok ds=>
  rcases hxn ds with e2|⟨e2,xc⟩|⟨f,xi,d,n,rfl,xf,hn,e2⟩
  .dsimp only at p;rw[e1]at p;have p2:Bw X.K CL Fz B W (O.of U (xn c ds) λx=>.exn x U) D:=p
   rw[e2]at p2;exact p2.elim
  .refine Y_9 (fs:=fs) (xn:=λ_ ds'=>match xn c ds' with | .ok ⟨_,[]⟩=>.ok ⟨c,[]⟩|_=>.bad) hcalm rz hg hm hdb xc hcl ha (λds'=>by
    split
    .exact .inr rfl
    .exact .inl rfl) he hpl hz Fz B pI s Y H D I ⟨U,x,?_⟩
   dsimp only at p ⊢;rw[e1]at p ⊢;have p2:Bw X.K CL Fz B W (O.of U (xn c ds) λx=>.exn x U) D:=p
   rw[e2]at p2;show Bw X.K CL Fz B W (O.of U (match xn c ds with | .ok ⟨_,[]⟩=>(.ok ⟨c,[]⟩:R Ex)|_=>.bad) λx=>.exn x U) D
   rw[e2];exact p2
  .dsimp only at p;rw[e1]at p;have p2:Bw X.K CL Fz B W (O.of U (xn c [d]) λx=>.exn x U) D:=p
   rw[e2]at p2;have p3:∀ H,(∀ b o,Fz b o->H b=Aa o)->W ⟨c,[(f,d)]⟩ H:=p2;cases xi with
   |mk xc dc fn ty S l1 l2 bd body gl mo dg dp dq w1 w2 w3 hl hz0 hf hs=>
    rename_i fI OV x0 qual g0 par j0 st fd np0 apos q1 cpos0 q6 q7 q8 q9 q10;obtain⟨bm,N,nm,qn,bs,hd,sn,sub,ab,col,dd,k0,k1,k2,k3,k5,mN,hob,hni,hbase⟩:=Le I.kIn xc;have hdt:hd=Ab:=by
     unfold FO at dc;split at dc
     .rename_i c0 d0 cd sl lk;have g1:=I.kIn _ _ lk;rw[(hob _ I.kIn).1]at g1;unfold BQ at g1;cases g1;exact dc
     .cases dc
    subst hdt;have hob2:∀ h:AE,X.K.In h->h.get? C=Aa (BQ nm qn C N bs bm Ab sn sub ab col dd k0 k1 k2 k3 k5 "ValueError.__new__")/\DF h veB bm:=λh z=>⟨(hob h z).1,(hob h z).2.2⟩
    refine YY (bmB:=veB) (nm:=nm) (q:=qn) (C:=C) (N:=N) (fI:=fI) (bs:=bs) (bm:=bm) (hdct:=Ab) (sn:=sn) (sub:=sub) (ab:=ab) (col:=col) (dd:=dd) (k0:=k0) (k1:=k1) (k2:=k2) (k3:=k3) (k5:=k5) (mN:=mN) C5 hbase (I.ok.hd hcalm) hpl' hni ?_;refine Gy I hg hm ⟨rfl,?_⟩ hdb;have q1:=ha (Bg B U Y) cpos pI s Y H (λvs H1=>Ay H H1/\Reps X.K CL H1 (Bg B U Y) vs [d]) I ⟨x.aok,U,x.good,by rw[e1];exact λvs H1 s1 r1=>⟨s1,r1⟩⟩
    rw[he]at q1 ⊢;refine EA (A5 q1 (λus s2 ⟨vs,H2,I2,r2,sm2,rps⟩=>⟨rfl,?_⟩) λ_ _ z=>z)
    cases vs with
    |nil=>exact rps.elim
    |cons v vs=>
     cases vs with
     |cons=>exact rps.2.elim
     |nil=>
      obtain⟨u,rfl,ru⟩:=Je r2;obtain⟨o1,o2,o3⟩:=hob _ I2.kIn;obtain⟨oc,od,kV,doc,pm,an,cdv,ct,osl,efd,lk,hcd⟩:=fn.ex;have coc:oc=.type "function" := by
       have ty':(X.K.lookup fI).map _=_:=ty;rw[lk]at ty';exact Bk ty'
      refine⟨by rw[BZ];show 1<=_;omega,o1,o2,o3,⟨_,I2.kIn _ _ lk,coc⟩,λh' e0 made=>?_⟩
      obtain⟨t,ge,_⟩:=made.there;have I3:Inv X pI Y H2 {s2 with heap:=h'}:=I2.kept (t':=s2.toks) made.keeps
      have ap:FN X pI e0:=Jx I2 hx made.new;have n0:H2 e0=Ae:=HB I2.hok made.new;have I4:=Ot (o:=.ext (XEx e0 C Ae t)) I3 ap n0 ⟨ge,⟨_,ge⟩,Mq⟩;have sm4:Ay H2 (upd H2 e0 (.ext (XEx e0 C Ae t))):=λb o z=>by rw[Bb λy=>by rw[y,n0]at z;cases z];exact z
      have ru0:=hr.mono (Dh k);have run:=R7 (P:=X.prog) (w:=X.w) (mg:=X.mg) (base:=X.base) (CL:=CL) (E:=λ_ _ _=>AU) (B:=Bg B U Y) (H:=upd H2 e0 (.ext (XEx e0 C Ae t))) (t:=t) hob2 fn S l1 l2 bd body gl mo dg dp dq w1 w2 w3 hl hz0 hf hs (A:=X.A.under (.builtin "type.__call__" ⟨.ref C::[u],[]⟩)) (outer:=X.stack) hr.hd (by rw[NL];have:=ru0.dp;omega) (by rw[NK];have:=ru0.un;omega) hr.gd (I4.env0.make C [u] []) C8 (Rep.same sm4 rps.1) xf hn ru
      refine D9 (DA run λr s' hq=>?_)
      cases r with
      |error _=>exact AV hq
      |ok fl=>
       cases fl with
       |next=>exact AV hq
       |brk=>exact AV hq
       |cont=>exact AV hq
       |ret u'=>
        obtain⟨v',H5,I5,rr,ev,t',dx,ndx,dne,eH⟩:=I4.after hq;subst ev;cases rr;have nd2:H2 dx=Ae:=by rw[Bb dne]at ndx;exact ndx
        rw[Oy]at eH;have H5e:H5 e0=Aa (.ext (XEx e0 C (Aa dx) t')):=by rw[eH,Bb (Cn dne),C8]
        have ge5:XEx e0 C (Aa dx) t' s'.heap:=(I5.hok e0 _ H5e).1;have I6:=ZA I5 H5e ap.2.2.2 λ_=>trivial
        have H6d:(if dx=e0 then Ae else H5 dx)=Aa (.xd [(f,v)]):=by rw[AJ dne,eH,C8]
        have sm6:Ay H2 (λb=>if b=e0 then Ae else H5 b):=λb o z=>by
         have nb:b≠e0:=λy=>by rw[y,n0]at z;cases z
         have nb2:b≠dx:=λy=>by rw[y,nd2]at z;cases z
         show (if b=e0 then Ae else H5 b)=Aa o
         rw[AJ nb,eH,Bb nb2,Bb nb];exact z
        refine⟨rfl,t',Aa dx,(hob2 _ I6.kIn).1,ge5,rz pI Y _ s' e0 C (Aa dx) t' ⟨c,[(f,d)]⟩ I6 (λhx=>HA I2 hx made.new) (AC rfl) ge5 (λA hA=>⟨C,hcl,rfl,.inr ⟨dx,[(f,v)],rfl,λz=>?_,H6d,⟨rfl,?_⟩,trivial⟩⟩) (p3 _ λb o z=>sm6 _ _ (sm2 _ _ (x.same b o z)))⟩
        .obtain⟨ys,q⟩:=hA dx z;have q':(if dx=e0 then Ae else H5 dx)=Aa (.lst ys):=q
         rw[H6d]at q';cases q'
        .exact MK hA 5 d (T4 n 5 d xf (by omega)) (Rep.sub (λ_ z=>z.elim) _ (Rep.same sm6 rps.1))
end
section
variable{prog:AL}{w:Az}{A:AR}{E:Vq}{h:AE}{g:Bj Ec}{d:Hq}{t:Af}{os:GP}{K:Fg}{e C dx:Ah}{f:Ag}{mA:Ag->An Aj}{v:Aj}
theorem OL(p:Iy e C (Aa dx) h):XAt e C h:=let ⟨o,a,b,_⟩:=p;⟨o,a,b⟩
theorem X9{Q:Fin->Ao->Prop}(X:K.In h)(hf:Aq K (.ref C) f=Aa Ae)(hd:FO K C=Ab)(p:Iy e C (Aa dx) h)(hn:h.Ns1 dx mA)(hv:mA f=Aa v)(hq:Q (.done (.ret v)) ⟨h,g,d,t,os⟩):Aw (model prog w) A (Builtin.«object.__getattribute__» ⟨[.ref e,.str f tk],[]⟩) Q E ⟨h,g,d,t,os⟩:=by
 have L0:=Jb (M:=model prog w) (OL p);have L1:=B8 (M:=model prog w) X hf;obtain⟨o,ge,oc,od,us,dt⟩:=p;unfold FO at hd;split at hd
 .rename_i c' d' cd' sl' lk;have gC:=X _ _ lk;unfold Builtin.«object.__getattribute__»
  repeat (any_goals (first|assumption|with_reducible refine L0.at ?_|with_reducible refine L1.at ?_|wp_step))
  rw[dt];unfold instanceDict
  repeat (first|(with_reducible refine B0 ge ?_;rw[oc])|with_reducible refine B0 gC ?_|wp_step)
  rw[od]
  repeat (first|(with_reducible refine wpAny_nsGet hn.ns ?_;rw[hv])|wp_step)
  exact hq
 .cases hd
theorem gJ{Q:Vq}(X:K.In h)(x:XcOk K C)(hf:Aq K (.ref C) f=Aa Ae)(hd:FO K C=Ab)(p:Iy e C (Aa dx) h)(hn:h.Ns1 dx mA)(hv:mA f=Aa v)(hh:handedOut v=pure v)(hq:Q v ⟨h,g,d,t,os⟩):Aw (model prog w) A (getAttrBy (.ref e) (.str f tk) fill expr) Q E ⟨h,g,d,t,os⟩:=by
 have L0:=Jb (M:=model prog w) (OL p);have L1:=B8 (M:=model prog w) X x.ga;have L2:=B8 (M:=model prog w) X x.gt;have f3:=Ft.ga.bind (.ref e);have hx0:(expr&&IT (Cq "BaseException.__getattribute__"))=Ad:=by cases expr<;>rfl
 have hx2:(Cq "BaseException.__getattribute__" == Cq "object.__getattribute__")=Ad:=by decide+kernel
 have hx1:(IT (Bc C)&&Cq "BaseException.__getattribute__" == Cq "object.__getattribute__")=Ad:=by rw[hx2];rfl
 repeat (any_goals (first|assumption|with_reducible refine L0.at ?_|with_reducible refine L1.at ?_|with_reducible refine L2.at ?_|wp_step))
 refine DT Ft.ga.plain Wv (Qt X x (OL p) (X9 X hf hd p hn hv ?_))
 repeat (any_goals (first|assumption|wp_step))
 all_goals trace_state
theorem YZ{b:Ak}{Q:Vq}(X:K.In h)(x:XcOk K C)(hf:Aq K (.ref C) f=Aa Ae)(hd:FO K C=Ab)(p:Iy e C (Aa dx) h)(hn:h.Ns1 dx mA)(hv:mA f=Aa v)(hh:handedOut v=pure v)(hq:Q v ⟨h,g,d,t+1,os⟩):Aw (model prog w) A (Jq (.ref e) f b) Q E ⟨h,g,d,t,os⟩:=by
 unfold Jq
 repeat (any_goals (first|assumption|with_reducible apply gJ X x hf hd p hn hv hh|wp_step))
end
section
variable{X:Cx}{CL:ClA}{W:XW}{K:Fg}{H:Hp}{A:Ah->Prop}
theorem Ob{f:Ag}{d:D}:∀{vs:Ac (Ag×V)}{fs:Ac (Ag×D)},Repf K CL H A vs fs->fs.lookup f=Aa d->∃ v,vs.lookup f=Aa v/\Rep K CL H A v d
 |[],[],_,q=>nomatch q
 |(n,v)::vs,(m,d')::fs,⟨⟨e,r⟩,rs⟩,q=>by
  have e':n=m:=e;subst e';by_cases z:(f==n)=Ab
  .simp only[BX,z]at q ⊢;cases q;exact⟨v,rfl,r⟩
  .simp only[BX,z]at q ⊢;exact Ob rs q
theorem Sb{a:Am}{fa:Rho->R D}{f:Ag}(hxc:∀ c C,CL c=Aa C->XcOk X.K C)(hnf:∀ c C,CL c=Aa C->FO X.K C=Ab/\Aq X.K (.ref C) f=Aa Ae)(ha:ST X CL W a fa)(hb:Cd a f X.env (eval a X.env)=eval a X.env):SE X CL W (.Attribute a f pos) (λU=>(fa U).bind λx=>KH x f):=λA=>by
 intro pI s Y H Q I ⟨hA,U,gd,q⟩;refine Sy hb (thn (ha A pI s Y H _ I ⟨hA,U,gd,AS.bind q (Q':=λv H1=>∃ d,Cr X.K CL H1 A v d/\AS (λH2=>Rep X.K CL H2 A) W H1 (KH d f) Q) λd v H1 _ s1 r1 p1=>⟨d,r1,p1⟩⟩) λu s1 ⟨v,H1,I1,rv,d,rp,p1⟩=>?_)
 cases d with
 |exc c fs=>
  have p2:AS (λH2=>Rep X.K CL H2 A) W H1 (match fs.lookup f with|some d=>.ok d|none=>.bad) Q:=p1
  cases el:fs.lookup f with
  |none=>rw[el]at p2;exact p2.elim
  |some d=>
   rw[el]at p2;rcases rp with ⟨e,C,φ,rfl,_,hc,hH,hφ,hfs⟩|⟨a,xs,ds,_,z,_⟩
   .rcases hfs with z|⟨dx,vs,nd,hd,rf,hφ2⟩
    .rw[z]at el;cases el
    .obtain⟨y,l,ry⟩:=Ob rf el;cases rv;have ph:=(I1.hok e _ hH).1;obtain⟨o,ge,oc⟩:=hφ _ ph;obtain⟨o',ge',od,us,odt⟩:=hφ2 _ ph;rw[ge]at ge';cases ge';obtain⟨mA,hn,rel⟩:=I1.hok dx _ hd;obtain⟨u',hu,ru⟩:=Hk.some_of (v:=y) (o:=mA f) (by rw[<-l];exact rel f)
     obtain⟨k1,k2⟩:=hnf c C hc;obtain⟨hp,g2,d2,tk2,os2⟩:=s1;exact YZ I1.kIn (hxc c C hc) k2 k1 ⟨o,ge,oc,od,us,odt⟩ hn hu (PySem.W.handedOut_of (QD ru)) ⟨y,H1,I1.tok _,ru,p2 y H1 (Ay.refl H1) ry⟩
   .cases z
 |_=>exact p1.elim
end
section
variable{X:Cx}{CL:ClA}{W:XW}
theorem gK{e C:Ah}:∀ h1 h2:AE,XAt e C h1->(∀ o,h1.get? e=Aa o->h2.get? e=Aa o)->XAt e C h2:=λ_ _ ⟨o,a,b⟩ k=>⟨o,k _ a,b⟩
theorem gE{np pos:AA}{e:Am}{es:Ac Am}{fs:Rho->R (Ac D)}(hx:X.ex=[])(hk:Bf X.K (.ref C)=Ab)(hg:Gl X g)(hm:X.mg g=Aa (.ref C))(hdb:(g==("__debug__" : Ag))=Ad)(xc:Dg X.K C Ae=Ab)(hcl:CL c=Aa C)(ha:SA X CL W (e::es) fs)(he:Ar (e::es) X.env=(Ad,eval e X.env)::Ar es X.env)(hpl:(Bu pos (Ar es X.env)).any (·.1)=Ad)(hz:∀ U ds,fs U=.ok ds->ds.length<=100000):SE X CL W (.Call (.Name g np) (e::es) [] pos) (λU=>(fs U).bind λ_=>.ok (.exc c [])):=λA=>by
 intro pI s Y H Q I ⟨hA,U,gd,p⟩;dsimp only at p;obtain⟨bm,N,nm,qn,bs,hd,sn,sub,ab,col,dd,k0,k1,k2,k3,k5,mN,hob,hni,hbase⟩:=Le I.kIn xc;refine Cm (Gy I hg hm ?_ hdb);have q1:=ha A pos pI s Y H (λvs H1=>Ay H H1/\vs.length<=100000/\∀ v H',Ay H H'->Rep X.K CL H' A v (.exc c [])->Q v H') I ⟨hA,U,gd,by
  cases e1:fs U with
  |bad=>rw[e1]at p;exact p
  |exn y=>rw[e1]at p;exact p
  |ok ds=>
   rw[e1]at p;exact λvs H1 s1 r1=>⟨s1,by rw[r1.length];exact hz U ds e1,p⟩⟩
 refine CC (h₀:=X.base) I.ok.mod.kin hk (thn q1 λus s1 ⟨vs,H1,I1,r,sm,hl,q⟩=>⟨I1.kIn,?_⟩) he hpl
 obtain⟨o1,o2,o3⟩:=hob _ I1.kIn;have ap:∀ e',s1.heap.get? e'=Ae->FN X pI e':=λe' z=>Jx I1 hx z
 have hf:=λe' (z:s1.heap.get? e'=Ae)=>HB I1.hok z
 obtain⟨h1,g1,d1,t1,os1⟩:=s1;refine wpAny_call_exc_subT C5 o3 o1 o2 hni (λh' ev hmade=>?_) (by rw[List.nil_append,<-r.length,BZ];omega)
 obtain⟨t,ge,_⟩:=hmade.there;have nH:H1 ev=Ae:=hf ev hmade.new;have xa:XAt ev C h':=⟨_,ge,rfl⟩;have I3:Inv X pI Y H1 ⟨h',g1,d1,t1,os1⟩:=I1.kept (t':=t1) hmade.keeps;have I2:=QY I3 hx (ap ev hmade.new) nH ⟨_,ge⟩ xa gK;have s2:Ay H1 (upd H1 ev (.ext (XAt ev C))):=ET nH _;refine⟨.ref ev,_,I2,rfl,q _ _ (sm.trans s2) ⟨ev,C,XAt ev C,rfl,λz=>?_,hcl,C8,λh x=>x,.inl rfl⟩⟩
 obtain⟨xs,z'⟩:=hA.same sm ev z;rw[nH]at z';cases z'
theorem gW{f:Ag}{ds:Ac D}{Q:VK}(p:AS Rp W H ((mkA c f ds).bind λx=>.ok (.exc x.c x.fs)) Q):∃ d n,ds=[d]/\xfD n d=Ab/\n<=2/\mkA c f ds=.ok ⟨c,[(f,d)]⟩:=by
  match ds,p with
  |[],p=>exact p.elim
  |_::_::_,p=>exact p.elim
  |[d],p=>
    have e':mkA c f [d]=if (xfD 0 d||(xfD 1 d||xfD 2 d))=Ab then .ok ⟨c,[(f,d)]⟩ else .bad:=rfl
    by_cases z:(xfD 0 d||(xfD 1 d||xfD 2 d))=Ab
    · rw[AC z]at e';rcases (BS _ _).mp z with h|h
      · exact⟨d,0,rfl,h,by omega,e'⟩
      · rcases (BS _ _).mp h with h|h
        · exact⟨d,1,rfl,h,by omega,e'⟩
        · exact⟨d,2,rfl,h,by omega,e'⟩
    · rw[AJ z]at e';rw[e']at p;exact p.elim
theorem gB{g f:Ag}{np pos:AA}{e:Am}{es:Ac Am}{fs:Rho->R (Ac D)}(hx:X.ex=[])(hr:Room k X.A)(hk:Bf X.K (.ref C)=Ab)(hg:Gl X g)(hm:X.mg g=Aa (.ref C))(hdb:(g==("__debug__" : Ag))=Ad)(xi:XIn X.K X.mg C f)(hcl:CL c=Aa C)(ha:SA X CL W (e::es) fs)(he:Ar (e::es) X.env=(Ad,eval e X.env)::Ar es X.env)(hpl:(Bu pos (Ar es X.env)).any (·.1)=Ad):SE X CL W (.Call (.Name g np) (e::es) [] pos) (λU=>(fs U).bind λds=>mkA c f ds |>.bind λx=>.ok (.exc x.c x.fs)):=λA=>by
 intro pI s Y H Q I ⟨hA,U,gd,p⟩;dsimp only at p;cases xi with
 |mk xc dc fn ty S l1 l2 bd body gl mo dg dp dq w1 w2 w3 hl hz0 hf hs=>
  rename_i fI OV x0 qual g0 par j0 st fd np0 apos q1 cpos0 q6 q7 q8 q9 q10;obtain⟨bm,N,nm,qn,bs,hd,sn,sub,ab,col,dd,k0,k1,k2,k3,k5,mN,hob,hni,hbase⟩:=Le I.kIn xc;have hdt:hd=Ab:=by
   unfold FO at dc;split at dc
   .rename_i c0 d0 cd sl lk;have g1:=I.kIn _ _ lk;rw[(hob _ I.kIn).1]at g1;unfold BQ at g1;cases g1;exact dc
   .cases dc
  subst hdt;have hob2:∀ h:AE,X.K.In h->h.get? C=Aa (BQ nm qn C N bs bm Ab sn sub ab col dd k0 k1 k2 k3 k5 "ValueError.__new__")/\DF h veB bm:=λh z=>⟨(hob h z).1,(hob h z).2.2⟩
  refine Cm (Gy I hg hm ?_ hdb);have q1:=ha A pos pI s Y H (λvs H1=>Ay H H1/\∃ d n,Reps X.K CL H1 A vs [d]/\xfD n d=Ab/\n<=2/\∀ v H',Ay H H'->Rep X.K CL H' A v (.exc c [(f,d)])->Q v H') I ⟨hA,U,gd,by
   cases e1:fs U with
   |bad=>rw[e1]at p;exact p
   |exn y=>rw[e1]at p;exact p
   |ok ds=>
    rw[e1]at p;have p':AS (λH=>Rep X.K CL H A) W H ((mkA c f ds).bind λx=>.ok (.exc x.c x.fs)) Q:=p
    obtain⟨d,n,rfl,xf,hn,em⟩:∃ d n,ds=[d]/\xfD n d=Ab/\n<=2/\mkA c f ds=.ok ⟨c,[(f,d)]⟩:=gW p';rw[em]at p';exact λvs H1 s1 r1=>⟨s1,d,n,r1,xf,hn,p'⟩⟩
  refine CC (h₀:=X.base) I.ok.mod.kin hk (thn q1 λus s2 ⟨vs,H2,I2,r2,sm2,d,n,rps,xf,hn,q⟩=>⟨I2.kIn,?_⟩) he hpl
  cases vs with
  |nil=>exact rps.elim
  |cons v vs=>
   cases vs with
   |cons=>exact rps.2.elim
   |nil=>
    obtain⟨u,rfl,ru⟩:=Je r2;obtain⟨o1,o2,o3⟩:=hob _ I2.kIn;obtain⟨oc,od,kV,doc,pm,an,cdv,ct,osl,efd,lk,hcd⟩:=fn.ex;have coc:oc=.type "function" := by
     have ty':(X.K.lookup fI).map _=_:=ty;rw[lk]at ty';exact Bk ty'
    have apO:∀ e',s2.heap.get? e'=Ae->FN X pI e':=λe' z=>Jx I2 hx z
    have hfO:=λe' (z:s2.heap.get? e'=Ae)=>HB I2.hok z
    have lkI:=I2.kIn _ _ lk;obtain⟨h1,g1,d1,t1,os1⟩:=s2;refine RC C5 o3 o1 o2 hni lkI coc (by rw[BZ];show 1<=_;omega) λh' e0 made=>?_
    obtain⟨t,ge,_⟩:=made.there;have I3:Inv X pI Y H2 ⟨h',g1,d1,t1,os1⟩:=I2.kept (t':=t1) made.keeps;have ap:FN X pI e0:=apO e0 made.new;have n0:H2 e0=Ae:=hfO e0 made.new;have I4:=Ot (o:=.ext (XEx e0 C Ae t)) I3 ap n0 ⟨ge,⟨_,ge⟩,Mq⟩;have sm4:Ay H2 (upd H2 e0 (.ext (XEx e0 C Ae t))):=ET n0 _;have ru0:=hr.mono (Dh k);have run:=R7 (P:=X.prog) (w:=X.w) (mg:=X.mg) (base:=X.base) (CL:=CL) (E:=λ_ _ _=>AU) (B:=A) (H:=upd H2 e0 (.ext (XEx e0 C Ae t))) (t:=t) hob2 fn S l1 l2 bd body gl mo dg dp dq w1 w2 w3 hl hz0 hf hs (A:=X.A.under (.builtin "type.__call__" ⟨.ref C::[u],[]⟩)) (outer:=X.stack) hr.hd (by rw[NL];have:=ru0.dp;omega) (by rw[NK];have:=ru0.un;omega) hr.gd (I4.env0.make C [u] []) C8 (Rep.same sm4 rps.1) xf hn ru
    refine D9 (DA run λr s' hq=>?_)
    cases r with
    |error _=>exact AV hq
    |ok fl=>
     cases fl with
     |next=>exact AV hq
     |brk=>exact AV hq
     |cont=>exact AV hq
     |ret u'=>
      obtain⟨v',H5,I5,rr,ev,t',dx,ndx,dne,eH⟩:=I4.after hq;subst ev;cases rr;have nd2:H2 dx=Ae:=by rw[Bb dne]at ndx;exact ndx
      rw[Oy]at eH;have H5e:H5 e0=Aa (.ext (XEx e0 C (Aa dx) t')):=by rw[eH,Bb (Cn dne),C8]
      have H5d:H5 dx=Aa (.xd [(f,v)]):=by rw[eH,C8]
      have s5:Ay H2 H5:=λb o z=>by
       have nb:b≠e0:=λy=>by rw[y,n0]at z;cases z
       have nb2:b≠dx:=λy=>by rw[y,nd2]at z;cases z
       rw[eH,Bb nb2,Bb nb];exact z
      have nA:∀ b,H2 b=Ae->¬ A b:=λb z ha'=>by
       obtain⟨xs,q'⟩:=hA.same sm2 b ha';rw[z]at q';cases q'
      refine⟨rfl,.ref e0,H5,I5,rfl,q _ _ (sm2.trans s5) ?_⟩;exact⟨e0,C,_,rfl,nA e0 n0,hcl,H5e,λh x=>⟨_,x,rfl⟩,.inr ⟨dx,[(f,v)],nA dx nd2,H5d,⟨⟨rfl,Rep.same s5 rps.1⟩,trivial⟩,λh x=>⟨_,x,rfl,_,rfl⟩⟩⟩
theorem Rc{i:An Aj}(q:Dg K C i=Ab):Bf K (.ref C)=Ab:=by
  obtain⟨dd,cd,sl,bm,h1,_⟩:=OP q;have e:BY K (.ref C) "__call__" = Aa (Aa (.builtin "type.__call__")):=by
    unfold BY;rw[SK q];show PySem.fastLookup "type" "__call__" = _;decide+kernel
  show (match K.lookup C with
      |some ⟨_,_,.func _,_⟩=>Ab
      |some ⟨_,_,.cls _,_⟩=>BY K (.ref C) "__call__" == Aa (Aa (.builtin "type.__call__"))
      | _=>Ad)=Ab
  rw[h1,e];show (Aa (Aa (Cq "type.__call__"))==Aa (Aa (Cq "type.__call__")))=Ab;exact Dx _
theorem nG{np pos:AA}{e:Am}{es:Ac Am}{fs:Rho->R (Ac D)}(hx:X.ex=[])(hr:Room k X.A)(hg:Gl X g)(hm:X.mg g=Aa (.ref C))(hdb:(g==("__debug__" : Ag))=Ad)(hcl:CL c=Aa C)(ha:SA X CL W (e::es) fs)(hxn:∀ ds,xn c ds=.bad\/(xn c ds=.ok ⟨c,[]⟩/\Dg X.K C Ae=Ab)\/∃ f,XIn X.K X.mg C f/\KB xn c f ds)(he:Ar (e::es) X.env=(Ad,eval e X.env)::Ar es X.env)(hpl:(Bu pos (Ar es X.env)).any (·.1)=Ad)(hz:∀ U ds,fs U=.ok ds->ds.length<=100000):SE X CL W (.Call (.Name g np) (e::es) [] pos) (λU=>(noX (fs U)).bind λds=>(xn c ds).bind λx=>.ok (.exc x.c x.fs)):=λA=>by
 intro pI s Y H Q I ⟨hA,U,gd,p⟩;dsimp only at p;cases e1:fs U with
 |bad=>
  rw[e1]at p;exact p.elim
 |exn y=>
  rw[e1]at p;exact p.elim
 |ok ds=>
  rw[e1]at p;have p':AS (λH=>Rep X.K CL H A) W H ((xn c ds).bind λx=>.ok (.exc x.c x.fs)) Q:=p
  rcases hxn ds with e2|⟨e2,xc⟩|⟨f,xi,d,n,rfl,xf,hn,e2⟩
  .rw[e2]at p';exact p'.elim
  .rw[e2]at p';refine gE (fs:=fs) hx (Rc xc) hg hm hdb xc hcl ha he hpl hz A pI s Y H Q I ⟨hA,U,gd,?_⟩;dsimp only;rw[e1];exact p'
  .rw[e2]at p';have m:mkA c f [d]=.ok ⟨c,[(f,d)]⟩:=by
    have:(xfD 0 d||(xfD 1 d||xfD 2 d))=Ab:=by
     have hn':n=0\/n=1\/n=2:=by omega
     rcases hn' with rfl|rfl|rfl<;>rw[xf]<;>simp
    show (if (xfD 0 d||(xfD 1 d||xfD 2 d))=Ab then (.ok ⟨c,[(f,d)]⟩:R Ex) else .bad)=_
    rw[AC this]
   have kp:Bf X.K (.ref C)=Ab:=by
    cases xi with
    |mk xc=>exact Rc xc
   refine gB (fs:=fs) hx hr kp hg hm hdb xi hcl ha he hpl A pI s Y H Q I ⟨hA,U,gd,?_⟩;dsimp only;rw[e1];show AS (λH=>Rep X.K CL H A) W H ((mkA c f [d]).bind λx=>.ok (.exc x.c x.fs)) Q
   rw[m];exact p'
end
theorem Y_6:∀{ss:Ac Ag}{its:Ac Aj},AW (ss.map V.str) its->∃ l:Ac (Ag×CI),its=strValues l/\l.map (·.1)=ss:=by
 intro ss
 induction ss with
 |nil=>intro its v;cases v;exact⟨[],rfl,rfl⟩
 |cons x ss ih=>
  intro its v;cases v with
  |cons v1 v2=>
   obtain⟨t,rfl⟩:=v1;obtain⟨l,e1,e2⟩:=ih v2;exact⟨(x,t)::l,by rw[e1];rfl,by rw[B2,e2]⟩
section
variable{X:Cx}{CL:ClA}{W:XW}
def nB(K:Fg):V->Ac V->Hp->VK->Prop:=λx xs H Q=>∃ sep q ss,x=.str sep/\xs=[.ref q]/\SqL K H q (ss.map V.str)/\IK sep ss=Ab/\Q (.str (Ed sep ss)) H
theorem cU:MtR X "str.join" (nB X.K):=by
 intro pI s Y H x vs v us Q I rx rv h;obtain⟨sep,l,ss,rfl,rfl,sq,hok,q⟩:=h;obtain⟨t,rfl⟩:=rx;obtain⟨u,rfl,ru⟩:=rv.one;cases ru;obtain⟨its,r,pl,hz⟩:=I.list sq;obtain⟨ls,rfl,rfl⟩:=Y_6 r;unfold IK at hok;rw[Bm]at hok;refine F1 WB (F3 _ _ _) PySem.F.entry_str_join (PySem.F.args_str_join_2 _ _) (meets_str_join_list sep t l ls hok) ⟨pl.isList,post_join ls ⟨joinFit_length hok,λt' k=>?_⟩⟩
 exact⟨.str _,H,I.kept (t':=k) λ_ _ e=>e,⟨_,rfl⟩,q⟩
theorem Yg:∀{es:Ac D}{ss:Ac Ag}{ys:Ac V},Kt es=Aa ss->Reps K CL H A ys es->ys=ss.map V.str:=by
 intro es
 induction es with
 |nil=>
  intro ss ys h r;cases h;cases ys with
  |nil=>rfl
  |cons=>exact r.elim
 |cons e es ih=>
  intro ss ys h r;cases ys with
  |nil=>exact r.elim
  |cons y ys=>
   cases e with
   |str x=>
    have h':(Kt es).map (x :: ·)=Aa ss:=h;cases e2:Kt es with
    |none=>rw[e2]at h';cases h'
    |some js=>
     rw[e2]at h';cases h';have e1:y=.str x:=r.1;rw[ih e2 r.2,e1];rfl
   |_=>cases h
theorem bC{y:Am}{s:Ag}(hy:SE X CL W y fy)(hbase:Cd (.Constant (.str s) k p) "join" X.env (eval (.Constant (.str s) k p) X.env)=eval (.Constant (.str s) k p) X.env)(hfew:((Bu cpos (Ar [y] X.env)).all (λx=>!x.1)&&(G2 cpos (FF [] X.env)).all (λx=>x.1.isSome)&&decide ([y].length+([]:Ac D4).length+(if ([]:Ac D4).isEmpty then 0 else 1)<30))=Ab)(hline:(apos.endLine==cpos.line)=Ab)(hs:Ar [y] X.env=[(Ad,eval y X.env)]):
  SE X CL W (.Call (.Attribute (.Constant (.str s) k p) "join" apos) [y] [] cpos) (λU=>(fy U).bind λx=>biD .sjoin [.str s,x]):=λA=>
 PE.weak (Pq Wz WB PySem.F.type_str_join cU (Mr (X:=X) (CL:=CL) (W:=W) A) (DU (hy A) Fe hs) hbase hfew hline hs rfl) λY H Q ⟨hA,U,g,p⟩=>⟨hA,U,g,λv H1 s1 r1=>by
  dsimp only at p;have ev:v=.str s:=r1;subst ev;refine⟨rfl,hA.same s1,U,g.same s1,?_⟩;cases e:fy U with
  |bad=>rw[e]at p;exact p.elim
  |exn x=>rw[e]at p;exact λH2 s2=>p H2 (s1.trans s2)
  |ok d=>
   rw[e]at p;intro v' H2 s2 r2;have p1:AS (λH=>Rep X.K CL H A) W H (biD .sjoin [.str s,d]) Q:=p
   cases d with
   |lst ds=>
    obtain⟨a,xs,rfl,_,sq,rs⟩:=r2;have p2:AS (λH=>Rep X.K CL H A) W H (OK s ds) Q:=p1
    unfold OK at p2;cases e3:Kt ds with
    |none=>rw[e3]at p2;exact p2.elim
    |some ss=>
     rw[e3]at p2;dsimp only at p2;split at p2
     .rename_i hok;have ex:=Yg e3 rs;subst ex;exact⟨s,a,ss,rfl,rfl,sq,hok,p2 _ H2 (s1.trans s2) rfl⟩
     .exact p2.elim
   | _=>exact p1.elim⟩
end
theorem QN:∀(l:Ac Ag)(k:Af),AW (l.map V.str) (strsFrom k l)
 |[],_=>.nil
 |_::r,k=>.cons ⟨_,rfl⟩ (QN r (k+1))
section
variable{X:Cx}{CL:ClA}{W:XW}
def iZ:V->Ac V->Hp->VK->Prop:=λx xs H Q=>∃ z y,x=.str z/\xs=[.str y]/\(y.length==0)=Ad/\JM z y=Ab/\∀ p,H p=Ae->Q (.ref p) (upd H p (.lst ((Fc z y).map V.str)))
theorem Z_2:MtR X "str.split" iZ:=by
 intro pI s Y H x vs v us Q I rx rv h;obtain⟨z,y,rfl,rfl,hy,hok,q⟩:=h;obtain⟨t,rfl⟩:=rx;obtain⟨u0,rfl,ru⟩:=rv.one;obtain⟨u,rfl⟩:=ru;unfold JM at hok;rw[Al]at hok;have z1:z.length<=sizeLine:=by have:=BG hok.1;rw[BZ];omega
 have z2:(VZ z (D3 z y 0 z.length (z.length+1)) y.length).length<=sizeLine:=by have:=BG hok.2;rw[BZ];omega
 have one:∀(l:Ac Ag)(its:Ac Aj)(tk:Af),Fc z y=l->l.length<=sizeLine->AW (l.map V.str) its->EP X pI Y Q (.ref s.heap.objs.size) { s with heap:=s.heap.push { cls:=.type "list",data:=.seq its.toArray },toks:=tk }:=λl its tk e hl hv=>
  ⟨.ref s.heap.objs.size,_,I.laid (t':=tk) (o:=.lst (l.map V.str)) (λb ob q=>Ax _ q) (AN _) ⟨by rw[CA];exact hl,its,0,hv,Be _ rfl⟩,rfl,by rw[<-e];exact q _ (I.hok.fresh (AN _))⟩
 have self1:1<=sizeLine:=by decide
 cases h1:(decide (z.length<y.length)||decide (EN z<EN y))
 .cases hf:(D3 z y 0 z.length (z.length+1)).isEmpty
  .exact F1 Eb (F3 _ _ _) Fs (Fa _ _) (meets_str_split_sep z y t u h1 hy hf z1 z2) (one _ _ _ ((AJ (Gb h1)).trans (AJ (Gb hf))) z2 (QN _ _))
  .exact F1 Eb (F3 _ _ _) Fs (Fa _ _) (meets_str_split_not_found z y t u h1 hy hf) (one [z] [.str z t] s.toks ((AJ (Gb h1)).trans (AC hf)) self1 (.cons ⟨_,rfl⟩ .nil))
 .exact F1 Eb (F3 _ _ _) Fs (Fa _ _) (meets_str_split_cannot_occur z y t u h1) (one [z] [.str z t] s.toks (AC h1) self1 (.cons ⟨_,rfl⟩ .nil))
theorem QT{K:Fg}{H:Hp}{A:Ah->Prop}:∀ l:Ac Ag,Reps K CL H A (l.map V.str) (l.map D.str)
 |[]=>trivial
 |_::r=>⟨rfl,QT r⟩
theorem Zc{o:Am}{y:Ag}(ho:ST X CL W o fo)(hbase:Cd o "split" X.env (eval o X.env)=eval o X.env)(hline:(apos.endLine==cpos.line)=Ab):SC X CL W Ab (.Call (.Attribute o "split" apos) [.Constant (.str y) k p] [] cpos) (λU=>(fo U).bind λx=>biD .ssplit [x,.str y]):=λA=>
 PE.weak (Pq Wz Eb PySem.F.type_str_split Z_2 (ho A) (DU (Mr (X:=X) (CL:=CL) (W:=W) A) Fe rfl) hbase rfl hline rfl rfl) λY H Q ⟨hA,U,g,q⟩=>⟨hA,U,g,AS.bind q λd v H1 _ s1 r1 p1=>by
  cases d with
  |str z=>
   have e:=r1.str_of;subst e;refine⟨rfl,hA.same s1,U,g.same s1,λv' H2 s2 r2=>?_⟩
   have e2:v'=.str y:=r2;subst e2;have p2:AS (DN X.K CL Ab H A) W H1 (if (!(y.length==0)&&JM z y)=Ab then .ok (.lst ((Fc z y).map D.str)) else .bad) Q:=p1
   split at p2
   .rename_i hk;rw[Al,Bm]at hk;exact⟨z,y,rfl,rfl,hk.1,hk.2,λa ha=>p2 _ _ (s2.trans (ET ha _)) (Jy (s1.trans s2) ((hA.same s1).same s2) ha (QT _))⟩
   .exact p2.elim
  | _=>exact p1.elim⟩
theorem kD:KD X CL W (.type "str") (biD .str):=by
  intro A pI s Y H xs us Q I r ⟨hA,ds,rs,p⟩
  match ds,rs,p with
  |[.int i],rs,p=>
    obtain⟨v,rfl,rv⟩:=rs.one;have e:=rv.int_of;subst e;have p2:AS (λH=>Rep X.K CL H A) W H (if LF i=Ab then .ok (.str (Ap (toString i))) else .bad) Q:=p
    split at p2
    · rename_i hk;have hk':i.natAbs<1000:=AQ hk;exact XS pI s Y H _ us Q I r ⟨i,rfl,D6 (GW _) (Nat.lt_trans hk' (by decide)),p2 _ H (Ay.refl H) rfl⟩
    · exact p2.elim
  |[.bl _],_,p=>exact p.elim
  |[],_,p=>exact p.elim
  |[.non],_,p=>exact p.elim
  |[.str _],_,p=>exact p.elim
  |[.tup _],_,p=>exact p.elim
  |[.lst _],_,p=>exact p.elim
  |[.obj _ _],_,p=>exact p.elim
  |[.exc _ _],_,p=>exact p.elim
  |[.dic _],rs,p=>first|exact p.elim|(obtain⟨v,rfl,rv⟩:=rs.one;exact rv.plain.elim)
  |x::_::_,_,p=>cases x<;>exact p.elim
end
structure OCls (K:Fg) (C:Ah):Prop where
 cl:Cls K C
 np:Gz K C "p"
 nt:Gz K C "triple"
 ha:Aq K (.ref C) "__class__" = Aa (Aa (.builtin "object.__class__"))
 hn:BY K (.builtin "object.__class__") "__get__" = Aa (Aa (.builtin "getset_descriptor.__get__"))
 htk:Hu K (.builtin "object.__class__")=Aa Ab
 hm:B4 K C (.type "object")=Aa Ab
theorem NY{K:Fg}{CL:ClA}{H:Hp}{A:Ah->Prop}{f:Ag}:∀{vs:Ac (Ag×V)}{fs:Ac (Ag×D)},Repf K CL H A vs fs->fs.lookup f=Ae->vs.lookup f=Ae
 |[],[],_,_=>rfl
 |v::vs,(n,d)::fs,h,q=>by
  obtain⟨⟨e,_⟩,h2⟩:=h;obtain⟨m,y⟩:=v;have e':m=n:=e;subst e';by_cases z:(f==m)=Ab
  .simp only[BX,z]at q;cases q
  .have z':(f==m)=Ad:=by simpa using z
   simp only[BX,z']at q ⊢;exact NY h2 q
 |[],_::_,h,_=>h.elim
 |_::_,[],h,_=>h.elim
section
variable{CL:ClA}{K:Fg}{H:Hp}{A:Ah->Prop}{x C dx:Ah}{vs:Ac (Ag×V)}{o:HO}
mutual
theorem Tf(hx:H x=Aa (.ins C dx vs)):∀(n:Af)(d:D){v:V},nlD n d=Ab->Rep K CL H A v d->Rep K CL (upd H x o) A v d
 |_,.non,_,_,h=>h
 |_,.bl _,_,_,h=>h
 |_,.int _,_,_,h=>h
 |_,.str _,_,_,h=>h
 |0,.tup _,_,hn,_=>by cases hn
 |n+1,.tup ds,_,hn,h=>by
  obtain⟨a,xs,e,na,s,r⟩:=h;refine⟨a,xs,e,na,?_,nls_ins hx n ds hn r⟩;rcases s with s|s
  .rcases s with s|⟨ob,s⟩
   .exact .inl (.inl (by rw[Bb λz=>by rw[z,hx]at s;cases s];exact s))
   .exact .inl (.inr ⟨ob,by rw[Bb λz=>by rw[z,hx]at s;cases s];exact s⟩)
  .exact .inr s
 |n,.lst _,_,hn,_=>by cases n<;>cases hn
 |n,.obj _ _,_,hn,_=>by cases n<;>cases hn
 |n,.exc _ _,_,hn,_=>by cases n<;>cases hn
 |n,.dic _,_,hn,_=>by cases n<;>cases hn
theorem nls_ins(hx:H x=Aa (.ins C dx vs)):∀(n:Af)(ds:Ac D){us:Ac V},ds.all (nlD n)=Ab->Reps K CL H A us ds->Reps K CL (upd H x o) A us ds
 |_,[],[],_,h=>h
 |n,d::ds,_::_,hn,h=>by
  simp only[CZ,Al]at hn;exact⟨Tf hx n d hn.1 h.1,nls_ins hx n ds hn.2 h.2⟩
 |_,[],_::_,_,h=>h.elim
 |_,_::_,[],_,h=>h.elim
end
theorem Mc{v:V}{fs:Ac (Ag×D)}(r:Cr K CL H A v (.obj c fs)):∃ a C dx vs,v=.ref a/\¬ A a/\OC K c=Aa C/\H a=Aa (.ins C dx vs)/\Repf K CL H A vs fs:=by
 rcases r with r|⟨a,xs,ds,_,z,_⟩
 .exact r
 .cases z
end
section
variable{X:Cx}{CL:ClA}{W:XW}{a:Am}{fa:Rho->R D}
theorem gA{f:Ag}(ho:∀ c C,OC X.K c=Aa C->Cls X.K C/\Gz X.K C f)(ha:ST X CL W a fa)(hb:Cd a f X.env (eval a X.env)=eval a X.env):SE X CL W (.Attribute a f pos) (λU=>(fa U).bind λx=>ofD x f):=λA=>by
 intro pI s Y H Q I ⟨hA,U,gd,q⟩;refine Sy hb (thn (ha A pI s Y H _ I ⟨hA,U,gd,AS.bind q (Q':=λv H1=>∃ d,Cr X.K CL H1 A v d/\AS (λH2=>Rep X.K CL H2 A) W H1 (ofD d f) Q) λd v H1 _ s1 r1 p1=>⟨d,r1,p1⟩⟩) λu s1 ⟨v,H1,I1,rv,d,rp,p1⟩=>?_)
 cases d with
 |obj c fs=>
  have p2:AS (λH2=>Rep X.K CL H2 A) W H1 (match fs.lookup f with|some d=>.ok d|none=>.bad) Q:=p1
  cases el:fs.lookup f with
  |none=>rw[el]at p2;exact p2.elim
  |some d=>
   rw[el]at p2;obtain⟨e,C,dx,vs,rfl,_,hc,hH,rf⟩:=Mc rp;obtain⟨y,l,ry⟩:=Ob rf el;cases rv;obtain⟨k1,k2⟩:=ho c C hc;exact Yn I1 hH k1 k2 l λu s' I2 ru=>⟨y,H1,I2,ru,p2 y H1 (Ay.refl H1) ry⟩
 |_=>exact p1.elim
theorem gG(hoc:∀ c C,OC X.K c=Aa C->OCls X.K C)(hg:Gl X "isinstance")(hm:X.mg "isinstance" = Ae)(hg2:Gl X x)(hm2:X.mg x=Aa (.ref C'))(hkit:∀ c C,OC X.K c=Aa C->BR X.K (.ref C) (.ref C')=Aa ((oup c).contains k))(hdb:(x==("__debug__" : Ag))=Ad)(ha:ST X CL W a fa)(he:Ar [a,.Name x p2] X.env=(Ad,eval a X.env)::Ar [.Name x p2] X.env):SE X CL W (.Call (.Name "isinstance" p) [a,.Name x p2] [] pos) (λU=>(fa U).bind λx=>Jm k x):=λA=>
 PE.weak (Ka (r:=λxs H Q=>∃ a C dx vs c,xs=[.ref a,.ref C']/\OC X.K c=Aa C/\H a=Aa (.ins C dx vs)/\Q (.bl ((oup c).contains k)) H) (λpI s Y H xs us Q I r ⟨b,C,dx,vs,c,e,hc,hH,q⟩=>by
   subst e;obtain⟨u,w',rfl,r1,r2⟩:=Ks r;cases r2;have o:=hoc c C hc;exact YB I r1 (.ins hH o.cl o.ha o.hn o.htk o.hm) (hkit c C hc) λtk=>⟨.bl _,H,I.tok tk,rfl,q⟩)
  hg hm E4 (DU (ha A) (DU (Om (v:=.ref C') hg2 hm2 rfl hdb) Fe rfl) he) (by decide) (by decide) he rfl) λY H Q ⟨hA,U,g,q⟩=>⟨hA,U,g,AS.bind q λd v H1 _ s1 r1 p1=>by
   cases d with
   |obj c fs=>
    obtain⟨b,C,dx,vs,rfl,_,hc,hH,_⟩:=Mc r1;exact⟨b,C,dx,vs,c,rfl,hc,hH,p1 _ H1 (Ay.refl H1) rfl⟩
   | _=>exact p1.elim⟩
theorem bA{m:Ag}{F:Af->Ac D->R D}(hr:Room k X.A)(hx:∀ A,HH (CXR X.prog X.w) X (EKW X.K CL A W))(ha:ST X CL W a fa)(hms:∀ c id C,ms.lookup c=Aa id->OC X.K c=Aa C->∃ f fd ps fr,Cls X.K C/\Meth X.K C m f/\DB X.K fd ps []/\FnOk X.prog X.w X.K X.mg X.base (CXR X.prog X.w) k f fd ps (spD X.K CL 1 fr (F id)))(hbase:Cd a m X.env (eval a X.env)=eval a X.env)(hline:(apos.endLine==pos.line)=Ab):SE X CL W (.Call (.Attribute a m apos) [] [] pos) (λU=>(fa U).bind λx=>Kz F m ms x):=λA=>by
 intro pI s Y H Q I ⟨hA,U,gd,q⟩;rw[IC,hbase];refine As (thn (ha A pI s Y H (λv H1=>Ay H H1/\∃ d,Cr X.K CL H1 A v d/\AS (λH2=>Rep X.K CL H2 A) W H1 (Kz F m ms d) Q) I ⟨hA,U,gd,AS.bind q λd v H1 _ s1 r1 p1=>⟨s1,d,r1,p1⟩⟩) λu s1 ⟨v,H1,I1,rv,s1',d,rp,p1⟩=>?_)
 refine As (DK ?_);have hform:HR (([]:Ac Am).length+([]:Ac D4).length) (Bu pos (Ar [] X.env)) (G2 pos (FF [] X.env))=Ab:=rfl;have hpos:EJ Ab a X.env apos pos=pure pos:=by
  unfold EJ;simp[hline]
 unfold JU;rw[hform];cases d with
 |obj c fs=>
  have p2:AS (λH2=>Rep X.K CL H2 A) W H1 (match ms.lookup c with|some id=>if (fs.lookup m).isNone=Ab then F id [.obj c fs] else .bad|none=>.bad) Q:=p1
  cases el:ms.lookup c with
  |none=>rw[el]at p2;exact p2.elim
  |some id=>
   rw[el]at p2;dsimp only at p2;split at p2
   .rename_i hn;obtain⟨e,C,dx,vs,rfl,na,hc,hH,rf⟩:=Mc rp;obtain⟨f,fd,ps,fr,cl,me,hb,G⟩:=hms c id C el hc;cases rv;refine As (EK (Qy I1 hH cl me (NY rf (DQ.mp hn)) ?_));refine As (Gq hpos ?_);refine PySem.W.callWith_K0 (first:=[.ref e]) I1.kIn me.kp (SZ (us:=[.ref e]) (vs:=[.ref e]) G hr hb .nil (hx A) I1 (.cons rfl .nil) ?_)
    refine⟨[.obj c fs],A,rfl,hA.same s1',⟨⟨e,C,dx,vs,rfl,na,hc,hH,rf⟩,trivial⟩,?_⟩;cases e2:F id [.obj c fs] with
    |ok d=>rw[e2]at p2;exact λv H2 s2 r2=>p2 v H2 s2 r2.1
    |exn y=>rw[e2]at p2;exact λcls dx H2 s2 xr=>⟨y,xr,p2 H2 s2⟩
    |bad=>rw[e2]at p2;exact p2.elim
   .exact p2.elim
 |_=>exact p1.elim
def spI(K:Fg)(CL:ClA)(G:Ac D->R D):Sp:=λvs H Q E=>∃(x C dx:Ah)(us:Ac V)(ds:Ac D)(A:Ah->Prop)(H0:Hp),vs=.ref x::us/\us.length=2/\Cls K C/\Gz K C "p"/\Gz K C "triple"/\H x=Aa (.ins C dx [])/\H0 x=Ae/\Ay H0 H/\AOk H0 A/\Reps K CL H0 A us ds/\(match G ds with
  |.ok d=>∀ d1 d2,d=.tup [d1,d2]->∀ v1 v2 H',Ay H0 H'->H' x=Aa (.ins C dx [("p",v1),("triple",v2)])->Rep K CL H' A v1 d1->Rep K CL H' A v2 d2->Q .non H'
  |.exn y=>∀ cls dy H',Ay H0 H'->Eh K CL H' cls dy y->E cls dy H'
  | .bad=>AU)
theorem R0{Q:VK}(p:AS Rp W H (Dk c d) Q):∃ d1 d2,d=.tup [d1,d2]/\Dk c d=.ok (.obj c [("p",d1),("triple",d2)]):=by
  cases d with
  |tup ds=>
    match ds,p with
    |[],p=>exact p.elim
    |[_],p=>exact p.elim
    |_::_::_::_,p=>exact p.elim
    |[a,b],p=>
      refine⟨a,b,rfl,?_⟩;have p2:AS Rp W H (if nlD 5 b=Ab then .ok (.obj c [("p",a),("triple",b)]) else .bad) Q:=p
      show (if nlD 5 b=Ab then R.ok (D.obj c [("p",a),("triple",b)]) else .bad)=_
      split at p2
      · rename_i z;rw[AC z]
      · exact p2.elim
  |_=>exact p.elim
theorem bB{C f:Ah}{np pos:AA}{e:Am}{es:Ac Am}{fs:Rho->R (Ac D)}{G:Ac D->R D}(M:Mk X.K C f)(hoc:OC X.K c=Aa C)(o:OCls X.K C)(FI:FnOk X.prog X.w X.K X.mg X.base (CXR X.prog X.w) k f fd ["self", "p", "numbers"] (spI X.K CL G))(hr:Room (k+1) X.A)(hb:DB X.K fd ["self", "p", "numbers"] [])(hx:∀ A,HH (CXR X.prog X.w) X (EKW X.K CL A W))(hF:∀ ds,ds.length=2->F ds=.bad\/F ds=(G ds).bind (Dk c))(hg:Gl X g)(hm:X.mg g=Aa (.ref C))(hdb:(g==("__debug__" : Ag))=Ad)(ha:SA X CL W (e::es) fs)(hn:∀ U ds,fs U=.ok ds->ds.length=2)(he:Ar (e::es) X.env=(Ad,eval e X.env)::Ar es X.env)(hpl:(Bu pos (Ar es X.env)).any (·.1)=Ad):SE X CL W (.Call (.Name g np) (e::es) [] pos) (λU=>(fs U).bind λds=>F ds):=λA=>by
 intro pI s Y H Q I ⟨hA,U,gd,p⟩;dsimp only at p;refine Cm (Gy I hg hm ?_ hdb);have q1:=ha A pos pI s Y H (λvs H1=>∃ ds,Ay H H1/\ds.length=2/\Reps X.K CL H1 A vs ds/\AS (λH=>Rep X.K CL H A) W H (F ds) Q) I ⟨hA,U,gd,by
  cases e1:fs U with
  |bad=>rw[e1]at p;exact p
  |exn y=>rw[e1]at p;exact p
  | ok ds=>rw[e1]at p;exact λvs H1 s1 r1=>⟨ds,s1,hn U ds e1,r1,p⟩⟩
 refine CC (h₀:=X.base) I.ok.mod.kin M.kp (thn q1 λus s1 ⟨vs,H1,I1,r,ds,sm,hl,rps,q⟩=>⟨I1.kIn,?_⟩) he hpl
 rcases hF ds hl with z|z
 .rw[z]at q;exact q.elim
 .rw[z]at q;cases e2:G ds with
  |bad=>rw[e2]at q;exact q.elim
  |exn y=>
   rw[e2]at q;have q':∀ H',Ay H H'->W y H':=q;refine Ru (Q:=Q) (E:=EKW X.K CL A W) M FI hr hb .nil (hx A) I1 r λx dx nx ndx ne=>?_
   refine⟨x,C,dx,vs,ds,A,H1,by rw[BA],by rw[rps.length];exact hl,o.cl,o.np,o.nt,C8,nx,λb ob h=>?_,hA.same sm,rps,?_⟩
   .have n1:b≠x:=λz=>by rw[z,nx]at h;cases h
    have n2:b≠dx:=λz=>by rw[z,ndx]at h;cases h
    rw[Bb n1,Bb n2];exact h
   .rw[e2];exact λcls dy H' sm2 xr=>⟨y,xr,q' H' (sm.trans sm2)⟩
  |ok d=>
   rw[e2]at q;have q':AS (λH=>Rep X.K CL H A) W H (Dk c d) Q:=q
   obtain⟨d1,d2,rfl,em⟩:=R0 q';rw[em]at q';refine Ru (Q:=Q) (E:=EKW X.K CL A W) M FI hr hb .nil (hx A) I1 r λx dx nx ndx ne=>?_
   refine⟨x,C,dx,vs,ds,A,H1,by rw[BA],by rw[rps.length];exact hl,o.cl,o.np,o.nt,C8,nx,λb ob h=>?_,hA.same sm,rps,?_⟩
   .have n1:b≠x:=λz=>by rw[z,nx]at h;cases h
    have n2:b≠dx:=λz=>by rw[z,ndx]at h;cases h
    rw[Bb n1,Bb n2];exact h
   .rw[e2];exact λe1 e3 ee v1 v2 H' sm2 hx' r1 r2=>by
     cases ee;exact⟨rfl,q' _ H' (sm.trans sm2) ⟨x,C,dx,_,rfl,(hA.same sm).new nx,hoc,hx',⟨⟨rfl,r1⟩,⟨rfl,r2⟩,trivial⟩⟩⟩
theorem Zf{np pos:AA}{e:Am}{es:Ac Am}{fs:Rho->R (Ac D)}(kp:Bf X.K (.ref C)=Ab)(hF:∀ ds,F ds=.bad)(hg:Gl X g)(hm:X.mg g=Aa (.ref C))(hdb:(g==("__debug__" : Ag))=Ad)(ha:SA X CL W (e::es) fs)(he:Ar (e::es) X.env=(Ad,eval e X.env)::Ar es X.env)(hpl:(Bu pos (Ar es X.env)).any (·.1)=Ad):SE X CL W (.Call (.Name g np) (e::es) [] pos) (λU=>(fs U).bind λds=>F ds):=λA=>by
 intro pI s Y H Q I ⟨hA,U,gd,p⟩;dsimp only at p;refine Cm (Gy I hg hm ?_ hdb);have q1:=ha A pos pI s Y H (λvs H1=>AU) I ⟨hA,U,gd,by
  cases e1:fs U with
  |bad=>rw[e1]at p;exact p
  |exn y=>rw[e1]at p;exact p
  | ok ds=>rw[e1,R.bind_ok,hF ds]at p;exact p.elim⟩
 exact CC (h₀:=X.base) I.ok.mod.kin kp (thn q1 λus s1 ⟨vs,H1,I1,r,z⟩=>z.elim) he hpl
theorem YE{p0 p4 p5 p6:AA}{id:Af}{t0:Cx}{H0:Hp}{x dx:Ah}{v1 v2:V}{Q:VK}(pself:∀ p,PE X (.Name "self" p) (Eu 0))(pp:∀ p,PE X (.Name "p" p) (Eu 1))(hv:SE X CL W ev (λU=>evE Z U (.call id (.cons (.var 1) (.cons (.var 2) .nil)))))(hs:CF ev (Aa (.Attribute (.Name "self" p3) "triple" p4)) p5.line X.env=pure Ad):
    ∃ t,PSs X [.Assign [.Attribute (.Name "self" p0) "p" p1] (.Name "p" p2) p6,.Assign [.Attribute (.Name "self" p3) "triple" p4] ev p5] t /\
      (Y=[Aa (.ref x),Aa v1,Aa v2]->Cls X.K C->Gz X.K C "p"->Gz X.K C "triple"->H x=Aa (.ins C dx [])->H0 x=Ae->Ay H0 H->AOk H0 A->Rep X.K CL H0 A v1 d1->Rep X.K CL H0 A v2 d2 ->
        ((∃ t,Z.F id [d1,d2]=.ok t/\nlD 5 t=Ab/\∀ w1 w2 H',Ay H0 H'->H' x=Aa (.ins C dx [("p",w1),("triple",w2)])->Rep X.K CL H' A w1 d1->Rep X.K CL H' A w2 t->Q .non H')\/∃ y,Z.F id [d1,d2]=.exn y/\∀ H',Ay H0 H'->W y H')->t {nx:=λ_ H'=>Q .non H',rt:=Q} Y H):=by
  have all:=IV (S0 (X:=X) (f := "p") (pos:=p6) (pos':=p1) (pself p0) (pp p2) rfl) (Ig (S0 (X:=X) (f := "triple") (pos:=p5) (pos':=p4) (pself p3) (hv A) hs));refine⟨_,all,?_⟩;rintro rfl cl np nt hx h0 sm hA r1 r2 hq;have nx:∀ b o,H0 b=Aa o->b≠x:=λb o e z=>by rw[z,h0]at e;cases e
  have sm2:Ay H0 (upd H x (.ins C dx (EY "p" v1 []))):=λb o e=>by rw[Bb (nx b o e)];exact sm b o e
  refine⟨v1,rfl,.ref x,rfl,x,C,dx,[],rfl,hx,cl,np,by decide,hA.same sm2,[Ae,Aa (d1,Ad),Aa (d2,Ad)],⟨λi d h=>?_,λi d h=>?_,rfl⟩,?_⟩
  · match i,h with
    |0,h=>cases h
    |1,h=>cases h;exact⟨v1,rfl,Rep.same sm2 r1⟩
    |2,h=>cases h;exact⟨v2,rfl,Rep.same sm2 r2⟩
    |n+3,h=>cases h
  · match i,h with
    |0,h=>cases h
    |1,h=>cases h
    |2,h=>cases h
    |n+3,h=>cases h
  · rcases hq with ⟨t,ef,hnl,q⟩|⟨y,ef,q⟩
    rotate_left
    · have ee:evE Z [Ae,Aa (d1,Ad),Aa (d2,Ad)] (.call id (.cons (.var 1) (.cons (.var 2) .nil)))=.exn y:=by
        show ((Z.F id [d1,d2]).bind λd=>.ok d)=_
        rw[ef];rfl
      dsimp only;rw[ee];exact λH3 s3=>q H3 (λb o e=>s3 _ _ (sm2 b o e))
    have ee:evE Z [Ae,Aa (d1,Ad),Aa (d2,Ad)] (.call id (.cons (.var 1) (.cons (.var 2) .nil)))=.ok t:=by
      show ((Z.F id [d1,d2]).bind λd=>.ok d)=_
      rw[ef];rfl
    dsimp only;rw[ee];intro w2 H3 s3 r3;have hx3:H3 x=Aa (.ins C dx [("p",v1)]):=s3 _ _ C8;refine⟨.ref x,rfl,x,C,dx,[("p",v1)],rfl,hx3,cl,nt,show 1<1000 by decide,?_⟩
    have sm4:Ay H0 (upd H3 x (.ins C dx (EY "triple" w2 [("p",v1)]))):=λb o e=>by rw[Bb (nx b o e)];exact s3 _ _ (sm2 b o e)
    exact q v1 w2 _ sm4 C8 (Rep.same sm4 r1) (Tf hx3 5 t hnl r3)
end
theorem O2{i:Af}(h:Gj U i=Ab):U[i]?=Aa (Aa (.non,Ab)):=by
 unfold Gj at h;split at h
 .rename_i e;exact e
 .cases h
theorem HG{i:Af}(hi:U[i]?=Aa (Aa (d,Ab)))(j:Af)(e:D):(U.set i (Aa (d',Ab)))[j]?=Aa (Aa (e,Ab))↔(i=j/\e=d')\/(i≠j/\U[j]?=Aa (Aa (e,Ab))):=by
 have hil:=(A9.mp hi).1;by_cases hj:i=j
 .subst hj;rw[BO hil];simp;exact⟨λz=>z.symm,λz=>z.symm⟩
 .rw[By hj];simp[hj]
theorem Ic{i:Af}(hi:U[i]?=Aa (Aa (d,Ab)))(b:Ah):Bg B (U.set i (Aa (d',Ab))) Y b↔Bg B U Y b:=by
 constructor
 .rintro (h|⟨j,e,h1,h2⟩)
  .exact .inl h
  .rcases (HG hi j e).mp h1 with ⟨rfl,_⟩|⟨_,h1⟩
   .exact .inr ⟨i,d,hi,h2⟩
   .exact .inr ⟨j,e,h1,h2⟩
 .rintro (h|⟨j,e,h1,h2⟩)
  .exact .inl h
  .by_cases hj:i=j
   .subst hj;exact .inr ⟨i,d',(HG hi i _).mpr (.inl ⟨rfl,rfl⟩),h2⟩
   .exact .inr ⟨j,e,(HG hi j e).mpr (.inr ⟨hj,h1⟩),h2⟩
section
variable{K:Fg}{CL:ClA}{Fz Fy:Fr}{B:Ah->Prop}{U:Rho}{Y:L2.St}{H:Hp}{W:XW}
theorem Sx.dis2(x:Sx K CL Fz B U Y H){i:Af}(hi:U[i]?=Aa (Aa (d,Ab)))(j k:Af)(e f:D)(b:Ah)(g1:(U.set i (Aa (d',Ab)))[j]?=Aa (Aa (e,Ab)))(g2:(U.set i (Aa (d',Ab)))[k]?=Aa (Aa (f,Ab)))(g3:Y[j]?=Aa (Aa (.ref b)))(g4:Y[k]?=Aa (Aa (.ref b))):j=k:=by
 rcases (HG hi j e).mp g1 with ⟨rfl,_⟩|⟨hj,h'⟩
 .rcases (HG hi k f).mp g2 with ⟨rfl,_⟩|⟨hk,h''⟩
  .rfl
  .exact x.dis i k d f b hi h'' g3 g4
 .rcases (HG hi k f).mp g2 with ⟨rfl,_⟩|⟨hk,h''⟩
  .exact x.dis j i e d b h' hi g3 g4
  .exact x.dis j k e f b h' h'' g3 g4
theorem Sx.new2(x:Sx K CL Fz B U Y H){i:Af}(hi:U[i]?=Aa (Aa (d,Ab)))(j:Af)(e:D)(b:Ah)(g1:(U.set i (Aa (d',Ab)))[j]?=Aa (Aa (e,Ab)))(g2:Y[j]?=Aa (Aa (.ref b))):((∀ o,¬ Fz b o)/\¬ B b)/\∃(j:Af)(d:D),U[j]?=Aa (Aa (d,Ab))/\Y[j]?=Aa (Aa (.ref b)):=by
 rcases (HG hi j e).mp g1 with ⟨rfl,_⟩|⟨_,h'⟩
 .exact⟨x.new i d b hi g2,i,d,hi,g2⟩
 .exact⟨x.new j e b h' g2,j,e,h',g2⟩
theorem Sx.sh2(x:Sx K CL Fz B U Y H){i:Af}(hi:U[i]?=Aa (Aa (d,Ab)))(j:Af)(e:D)(h:(U.set i (Aa (d',Ab)))[j]?=Aa (Aa (e,Ad))):∃ v,Y[j]?=Aa (Aa v)/\Rep K CL H (Bg B (U.set i (Aa (d',Ab))) Y) v e:=by
 have hj:i≠j:=by
  rintro rfl;have:=ES h;cases this
 rw[By hj]at h;obtain⟨v,q,r⟩:=x.good.sh j e h;exact⟨v,q,Rep.sub (λb hb=>(Ic hi b).mp hb) _ r⟩
theorem Sx.pinned(x:Sx K CL Fz B U Y H){i:Af}{ds:Ac D}{a:Ah}{xs:Ac V}(hi:U[i]?=Aa (Aa (.lst ds,Ab)))(ha:Y[i]?=Aa (Aa (.ref a)))(hh:H a=Aa (.lst xs)):Sx K CL ⟨λb o=>H b=Aa o/\¬ ∃(j:Af)(d:D),U[j]?=Aa (Aa (d,Ab))/\Y[j]?=Aa (Aa (.ref b)),λj b ys=>(j=i/\b=a/\ys=xs)\/(j≠i/\Fz.pin j b ys)⟩ B (U.set i (Aa (.non,Ab))) Y H:=by
 refine⟨⟨x.sh2 hi,λj e h hn=>?_,by rw[AM];exact x.len⟩,λb h=>x.aok b ((Ic hi b).mp h),λj e b g1 g2=>⟨λo z=>z.2 (x.new2 hi j e b g1 g2).2,(x.new2 hi j e b g1 g2).1.2⟩,x.dis2 hi,λb o z=>z.1,by rw[AM];exact x.len,λj h=>?_⟩
 .rcases (HG hi j e).mp h with ⟨_,rfl⟩|⟨hj,h'⟩
  .exact absurd rfl hn
  .obtain⟨b,ys,es,q,z,hb,h2,rr⟩:=x.good.ow j e h' hn;exact⟨b,ys,es,q,z,(Ic hi b).mpr hb,h2,Reps.sub (λb hb=>(Ic hi b).mp hb) _ rr⟩
 .by_cases hj:i=j
  .exact⟨a,xs,.inl ⟨hj.symm,rfl,rfl⟩,hj ▸ ha,hh⟩
  .rw[By hj]at h;obtain⟨b,ys,p1,p2⟩:=x.pin j h;exact⟨b,ys,.inr ⟨Cn hj,p1⟩,p2⟩
theorem Sx.unpinned(x:Sx K CL Fy B U Y H){i:Af}{ds:Ac D}{a:Ah}{xs:Ac V}(hi:U[i]?=Aa (Aa (.non,Ab)))(hf:∀ b o,Fz b o->Fy b o)(hpn:∀ j b ys,Fy.pin j b ys->(j=i/\b=a/\ys=xs)\/(j≠i/\Fz.pin j b ys))(r:Reps K CL H (Bg B U Y) xs ds):Sx K CL Fz B (U.set i (Aa (.lst ds,Ab))) Y H:=by
 refine⟨⟨x.sh2 hi,λj e h hn=>?_,by rw[AM];exact x.len⟩,λb h=>x.aok b ((Ic hi b).mp h),λj e b g1 g2=>⟨λo z=>(x.new2 hi j e b g1 g2).1.1 o (hf b o z),(x.new2 hi j e b g1 g2).1.2⟩,x.dis2 hi,λb o z=>x.same b o (hf b o z),by rw[AM];exact x.len,λj h=>?_⟩
 .rcases (HG hi j e).mp h with ⟨rfl,rfl⟩|⟨hj,h'⟩
  .obtain⟨b,ys,p1,p2,p3⟩:=x.pin i hi;rcases hpn i b ys p1 with ⟨_,rfl,rfl⟩|⟨z,_⟩
   .exact⟨b,ys,ds,p2,rfl,(Ic hi b).mpr (.inr ⟨i,.non,hi,p2⟩),p3,Reps.sub (λb hb=>(Ic hi b).mp hb) _ r⟩
   .exact absurd rfl z
  .obtain⟨b,ys,es,q,z,hb,h2,rr⟩:=x.good.ow j e h' hn;exact⟨b,ys,es,q,z,(Ic hi b).mpr hb,h2,Reps.sub (λb hb=>(Ic hi b).mp hb) _ rr⟩
 .rcases (HG hi j _).mp h with ⟨_,z⟩|⟨hj,h'⟩
  .cases z
  .obtain⟨b,ys,p1,p2⟩:=x.pin j h';rcases hpn j b ys p1 with ⟨z,_⟩|⟨_,z⟩
   .exact absurd z.symm hj
   .exact⟨b,ys,z,p2⟩
theorem Bw.turnO{i:Af}{ds:Ac D}{o:O}{g:Rho->O}{N:L2.St->Hp->Prop}(hf:∀ b q,Fz b q->Fy b q)(hu:∀ U' Y' H',Sx K CL Fy B U' Y' H'->Gj U' i=Ab->Sx K CL Fz B (U'.set i (Aa (.lst ds,Ab))) Y' H')(h:Bw K CL Fz B W (JH i ds (o.turn g)) D')(k:∀ U' Y' H',Sx K CL Fy B U' Y' H'->Bw K CL Fz B W (JH i ds (g U')) D'->N Y' H'):Bw K CL Fy B W o {D' with nx:=N,ct:=N,bk:=D'.nx}:=by
 cases o with
 |next U'=>exact λY' H' x=>k U' Y' H' x h
 |cont U'=>exact λY' H' x=>k U' Y' H' x h
 |brk U'=>
  have h':Bw K CL Fz B W (if Gj U' i=Ab then .next (U'.set i (Aa (.lst ds,Ab))) else .bad) D':=h
  by_cases hp:Gj U' i=Ab
  .rw[AC hp]at h';exact λY' H' x=>h' Y' H' (hu U' Y' H' x hp)
  .rw[AJ hp]at h';exact h'.elim
 |ret d b=>exact λv H' s r n=>h v H' (λb o z=>s b o (hf b o z)) r λz ds e=>let ⟨a,xs,h1,h2,h3⟩:=n z ds e;⟨a,xs,h1,λo q=>h2 o (hf a o q),h3⟩
 |exn y U'=>exact h.elim
 |bad=>exact h
end
section
variable{X:Cx}{CL:ClA}{W:XW}
theorem aU{i:Af}{es:Ac Am}{n:Af}{tpos:AA}{a:Am}{fbd:Rho->O}{as:D->Rho->R Rho}{g:TG}(hp:Dz (model X.prog X.w) X.A X.env X.xe)(hc:X.calm=Ab)(hGT:GT X.K CL as g)(hg:PG X (.Tuple es n tpos) g)(ha:PE X a (Eu i))(hgl:Gl X "enumerate")(hm:X.mg "enumerate" = Ae)(hst:Ar [a] X.env=[(Ad,eval a X.env)])(hb:SSs X CL W body fbd)(hs:∀ x,BL (.Call (.Name "enumerate" p1) [a] [] cpos) X.env x=pure x)(hax:∀ d U x,as d U≠.exn x):
  SS X CL W (.For (.Tuple es n tpos) (.Call (.Name "enumerate" p1) [a] [] cpos) body [] pos) (λU=>O.of U (Ev U i) λxs=>JH i xs (Du (λx U'=>if Gj U' i=Ab then O.of U' (as x U') fbd else .bad) (DM 0 xs) (U.set i (Aa (.non,Ab))))):=λFz B pI s Y H D I ⟨U,x,p⟩=>by
 dsimp only at p;cases e:Ev U i with
 |bad=>rw[e]at p;exact p.elim
 |exn y=>exact(ZQ e).elim
 |ok ds=>
  rw[e,O.of_ok]at p;have hi:=dP e;obtain⟨a',xs,ds',qa,e2,oa,hh,r⟩:=x.good.ow i _ hi (λz=>nomatch z)
  have ez:ds=ds':=by injection e2
  subst ez;refine O0 hp hc (dL hgl hm (DU ha Fe hst) hst) hg (tb:=λD Y H=>∃ Fy,(λD Y H=>∃ U,Sx X.K CL Fy B U Y H/\Bw X.K CL Fy B W (fbd U) D) D Y H) (λpI s Y H D I ⟨Fy,q⟩=>hb Fy B pI s Y H D I q) hs pI s Y H D I ?_
  refine⟨.ref a',qa,Ad,a',xs,rfl,SqL.of hh,λhz=>?_⟩
  generalize hbd:(fun(x:Ov.D)(U':Rho)=>if Gj U' i=Ab then O.of U' (as x U') fbd else .bad)=bd at p
  let Fy:Fr:=⟨λb o=>H b=Aa o/\¬ ∃(j:Af)(d:Ov.D),U[j]?=Aa (Aa (d,Ab))/\Y[j]?=Aa (Aa (.ref b)),λj b ys=>(j=i/\b=a'/\ys=xs)\/(j≠i/\Fz.pin j b ys)⟩
  have hfy:∀ b o,Fz b o->Fy b o:=λb o z=>⟨x.same b o z,λ⟨j,d,h1,h2⟩=>(x.new j d b h1 h2).1 o z⟩
  have xy:Sx X.K CL Fy B (U.set i (Aa (.non,Ab))) Y H:=x.pinned hi qa hh;have wd:∀{U':Rho}{Y':L2.St}{H':Hp},Sx X.K CL Fy B U' Y' H'->∀ b,Bg B U' Y' b->Bg B U Y b\/H b=Ae:=λ{U' Y' H'} x' b hb'=>by
   rcases hb' with h|⟨j,d,h1,h2⟩
   .exact .inl (.inl h)
   .cases e:H b with
    |none=>exact .inr rfl
    |some o=>
     by_cases ho:∃(j:Af)(d:Ov.D),U[j]?=Aa (Aa (d,Ab))/\Y[j]?=Aa (Aa (.ref b))
     .exact .inl (.inr ho)
     .exact absurd ⟨e,ho⟩ ((x'.new j d b h1 h2).1 o)
  have kpx:∀{U':Rho}{Y':L2.St}{H':Hp},Sx X.K CL Fy B U' Y' H'->Kp (Bg B U Y) H H':=λ{U' Y' H'} x' b o e na=>x'.same b o ⟨e,λz=>na (.inr z)⟩
  have later:∀{U':Rho}{Y':L2.St}{H':Hp},Sx X.K CL Fy B U' Y' H'->Reps X.K CL H' (Bg B U' Y') xs ds:=λ{U' Y' H'} x'=>by
   have r1:Reps X.K CL H (λb=>Bg B U Y b\/Bg B U' Y' b) xs ds:=Reps.wide (λb hb'=>hb'.elim .inl (wd x' b)) _ r
   have r2:Reps X.K CL H' (λb=>Bg B U Y b\/Bg B U' Y' b) xs ds:=Reps.kp (λb o e na=>kpx x' b o e λz=>na (.inl z)) _ r1
   exact Reps.sub (λb hb'=>.inr hb') _ r2
  have hu:∀ U' Y' H',Sx X.K CL Fy B U' Y' H'->Gj U' i=Ab->Sx X.K CL Fz B (U'.set i (Aa (.lst ds,Ab))) Y' H':=λU' Y' H' x' hp'=>x'.unpinned (O2 hp') hfy (λj b ys z=>z) (later x')
  refine⟨λk m Y' H'=>m=ds.length-k/\k<=ds.length/\∃ U',Sx X.K CL Fy B U' Y' H'/\Bw X.K CL Fz B W (JH i ds (Du bd ((DM 0 ds).drop k) U')) D,⟨ds.length,by simp,Dh _,_,xy,p⟩,?_⟩
  rintro k m Y' H' ⟨rfl,hk,U',x',q'⟩;have hle:(DM 0 ds).length=ds.length:=Ri _ _;by_cases hlt:k<ds.length
  .have hlt':k<(DM 0 ds).length:=by rw[hle];exact hlt
   rw[DO hlt']at q';have q2:Bw X.K CL Fz B W (JH i ds ((bd (DM 0 ds)[k] U').turn (Du bd ((DM 0 ds).drop (k+1))))) D:=q';have hd:(DM 0 ds)[k]?=Aa (DM 0 ds)[k]:=Bo hlt';obtain⟨y,hy,ed⟩:=Rj _ _ _ _ hd;by_cases hpin:Gj U' i=Ab
   .have hpin':=O2 hpin;obtain⟨b,ys,p1',p2',p3'⟩:=x'.pin i hpin';have hab:b=a'/\ys=xs:=by
     rcases p1' with ⟨_,h1,h2⟩|⟨z,_⟩
     .exact⟨h1,h2⟩
     .exact absurd rfl z
    obtain⟨rfl,rfl⟩:=hab;have sq:SqX Ad X.K H' b ys:=SqL.of p3';obtain⟨u,hu1,ru⟩:=(later x').get hy;refine .inr ⟨⟨ys,u,sq,hu1⟩,λY'' H''=>∃ U'',Sx X.K CL Fy B U'' Y'' H''/\Bw X.K CL Fz B W (JH i ds (Du bd ((DM 0 ds).drop (k+1)) U'')) D,λY'' H'' z=>⟨ds.length-(k+1),by omega,rfl,hlt,z⟩,?_⟩
    rintro w' H2 ⟨pp,x2,hpp,rfl,c1,rfl⟩;have ex:x2=u:=Bk ((c1 ys sq).symm.trans hu1);subst ex;have sm:Ay H' (L2.upd H' pp (.tup [.int k,x2])):=ET hpp _;have rv:Rep X.K CL (L2.upd H' pp (.tup [.int k,x2])) (Bg B U' Y') (.ref pp) (DM 0 ds)[k]:=by
     rw[ed,IF];exact Me x'.aok hpp ⟨rfl,ru,trivial⟩
    have eb:bd (DM 0 ds)[k] U'=O.of U' (as (DM 0 ds)[k] U') fbd:=by rw[<-hbd];exact AC hpin
    rw[eb]at q2;cases ea:as (DM 0 ds)[k] U' with
    |bad=>rw[ea]at q2;exact q2.elim
    |exn z=>exact absurd ea (hax _ _ z)
    |ok U2=>
     rw[ea,O.of_ok]at q2;exact hGT Fy B U' Y' _ _ _ U2 _ (x'.grow sm) rv ea λY3 x3=>⟨Fy,U2,x3,Bw.turnO hfy hu q2 λU3 Y3 H3 x3 q3=>⟨U3,x3,q3⟩⟩
   .have eb:bd (DM 0 ds)[k] U'=.bad:=by rw[<-hbd];exact AJ hpin
    rw[eb]at q2;exact q2.elim
  .have hk':(DM 0 ds).length<=k:=by omega
   rw[Ea hk']at q';have q2:Bw X.K CL Fz B W (if Gj U' i=Ab then .next (U'.set i (Aa (.lst ds,Ab))) else .bad) D:=q'
   by_cases hpin:Gj U' i=Ab
   .rw[AC hpin]at q2;obtain⟨b,ys,p1',p2',p3'⟩:=x'.pin i (O2 hpin);have hab:b=a'/\ys=xs:=by
     rcases p1' with ⟨_,h1,h2⟩|⟨z,_⟩
     .exact⟨h1,h2⟩
     .exact absurd rfl z
    obtain⟨rfl,rfl⟩:=hab;exact .inl ⟨⟨ys,SqL.of p3',by rw[(later x').length];omega⟩,q2 Y' H' (hu U' Y' H' x' hpin)⟩
   .rw[AJ hpin]at q2;exact q2.elim
end
theorem Un.shiftX{fs0 fs ex xs:Ac Ah}{h0:AE}(u:Un fs0 xs H H' h0 h)(sh:Shift ex fs h h')(h1:∀ b∈ex,h0.get? b=Ae)(h2:∀ b∈fs,b∈fs0\/h0.get? b=Ae):Un fs0 xs H H' h0 h' where
 keep:=λb o q n hb hx=>sh.keep b o (u.keep b o q n hb hx) (λz=>by rw[h1 b z]at q;cases q) λz=>(h2 b z).elim hb λe=>by rw[e]at q;cases q
 slot:=λb o q n hb hx=>by
  obtain⟨sl,e1⟩:=u.slot b o q n hb hx;by_cases hf:b∈fs
  .obtain⟨sl',e2⟩:=sh.slot b _ e1 hf;exact⟨sl',e2⟩
  .exact⟨sl,sh.keep b _ e1 (λz=>by rw[h1 b z]at q;cases q) hf⟩
 free:=u.free
 there:=λb o q hx=>by
  obtain⟨o',e1⟩:=u.there b o q hx;by_cases hf:b∈fs
  .obtain⟨sl',e2⟩:=sh.slot b _ e1 hf;exact⟨_,e2⟩
  .exact⟨o',sh.keep b _ e1 (λz=>by rw[h1 b z]at q;cases q) hf⟩
 tups:=u.tups
 frzs:=u.frzs
 tbls:=u.tbls
section
variable{M:FZ}{A:AR}{E:Vq}{s:Ao}{env:Cc}{outer:Ac Cc}{L e T:Ah}{cls:Aj}{dx:An Ah}{base:AE}
theorem Yu(hfr:A.frames=Aa (env::outer))(hf:env.frame=Aa L)(ff:s.heap.FunFrames base (env::outer))(fl:Hh e T cls dx fv s.heap)(hQ:∀ h' T' fl',Hh e T' cls dx fl' h'->Shift [e,T] (frs (env::outer)) s.heap h'->(T'=T\/s.heap.get? T'=Ae)->Q () {s with heap:=h'}):Aw M A (DX (.ref e) env) Q E s:=by
 obtain⟨oe,vs,oT,ts,a0,he,hc,hx,h0,dt,h1,ne,hT,dT,h3⟩:=id fl;have z3:=Hz h3;unfold DX;simp only[hf];refine As (CV he dt h1 ?_);rw[AC (by simp:(Bc T != CB)=Ab)]
 refine As (CV hT dT h3 ?_);by_cases hz:(fv==D1 L)=Ab
 .rw[AC hz];exact Bi (hQ s.heap T fv fl ⟨λb o q _ _=>q,λb o q _=>⟨o.slots,q⟩⟩ (.inl rfl))
 rw[AJ hz];refine As (DZ hT dT z3 ?_);have up:∀ b,b≠T->(s.heap.update T (EI (·.setIfInBounds 3 CB))).get? b=s.heap.get? b:=λb nb=>BP _ _ (Cn nb)
 have rcd:∀ b o,s.heap.get? b=Aa o->(∀ us,o.data≠.fields us)->b≠T:=λb o q n z=>by
  rw[z,hT]at q;cases q;exact n ts dT
 refine NZ (base:=base) hfr hf (ff.of_keeps λb o q n=>⟨o,(up b (rcd b o q n)).trans q,rfl⟩) ((up e (Cn ne)).trans he) dt (Hz h1) λh' T' oT' ts' g nT gn gT dT' f3 sh=>?_
 have T0:s.heap.get? T'=Ae:=by
  by_cases z:T'=T
  .rw[z]at gn;rw[Ci _ hT (Dc (B6 dT _))]at gn;cases gn
  .rw[<-up T' z];exact gn
 refine hQ h' T' _ (NQ hc hx h0 dt (Hz h1) g nT gT dT' f3) ⟨λb o q n1 n2=>?_,λb o q hb=>?_⟩ (.inr T0)
 .simp only[AH,Co,EG,Gv]at n1;exact sh.keep b o ((up b n1.2).trans q) (by simp[n1.1]) n2
 .obtain⟨_,o',q',n⟩:=ff.mem hb;rw[q]at q';cases q';exact sh.slot b o ((up b (rcd b o q n)).trans q) hb
theorem ZH{fr:An Ah}(fl:Hh e T cls dx fv s.heap)(hQ:∀ h' fl',Hh e T cls dx fl' h'->(∀ b o,b≠T->s.heap.get? b=Aa o->h'.get? b=Aa o)->Q () {s with heap:=h'}):Aw M A (FS (.ref e) fr) Q E s:=by
 obtain⟨oe,vs,oT,ts,a0,he,hc,hx,h0,dt,h1,ne,hT,dT,h3⟩:=fl;have z3:=Hz h3;unfold FS;refine As (CV he dt h1 ?_);rw[AC (by simp:(Bc T != CB)=Ab)]
 refine DZ hT dT z3 (hQ _ (fr.elim CB λf=>D1 f) ?_ λb o nb q=>(BP _ _ (Cn nb)).trans q)
 exact⟨oe,vs,_,_,a0,(BP _ _ ne).trans he,hc,hx,h0,dt,h1,ne,Ci _ hT (Dc (B6 dT _)),B6 dT _,by simp[z3]⟩
theorem Yo(hfr:A.frames=Aa (env::outer))(hf:env.frame=Aa L)(ff:s.heap.FunFrames base (env::outer))(fl:Hh e T cls dx fv s.heap)(hQ:∀ h' T',Fly e T' cls dx h'->Shift [e,T] (frs (env::outer)) s.heap h'->(T'=T\/s.heap.get? T'=Ae)->Q () {s with heap:=h'}):Aw M A (leaving env (.ref e)) Q E s:=by
 unfold leaving;refine As (Yu hfr hf ff fl λh1 T' fl' f1 sh hT=>Lm f1 λh2 f2 k=>hQ h2 T' f2 ?_ hT)
 rcases hT with rfl|hT
 .obtain⟨oe,vs,oT,ts,a0,he,hc,hx,h0,dt,h1,ne,hTT,dT,h3⟩:=id fl;refine⟨λb o q n1 n2=>k b o (λz=>n1 (by rw[z];simp)) (sh.keep b o q n1 n2),λb o q hb=>?_⟩
  obtain⟨sl,q2⟩:=sh.slot b o q hb;refine⟨sl,k b _ (λz=>?_) q2⟩
  obtain⟨_,o',q',n⟩:=ff.mem hb;rw[z,hTT]at q';cases q';exact n ts dT
 .exact LS ff sh hT k
end
def KM(X:Cx)(CL:ClA)(W:XW):Prop:=∀ pI Y H s e T cls dx fl x,Inv X pI Y H s->(X.ex=[]->X.s₀.heap.get? e=Ae/\X.s₀.heap.get? T=Ae)->H e=Ae->H T=Ae->Hh e T cls dx fl s.heap->Eh X.K CL H cls dx x->W x H->X.xe (.ref e) s
theorem UN:KM X CL W0:=λ_ _ _ _ _ _ _ _ _ _ _ _ _ _ _ _ z=>z.elim
section
variable{P:AL}{w:Az}{K:Fg}{mg:Ag->An Aj}{base:AE}{N:Ac Ag}{qual:Ag}{scope:BK}{f:Ah}{cd:Aj}{A:AR}{outer:Ac Cc}{s:Ao}{H:Hp}{E:XK}{CL:ClA}{W:XW}
theorem fzR(hE:∀ x cls dx H',W x H'->Eh K CL H' cls dx x->E cls dx H'):KM (E2 (CXR P w) P w K mg base N qual scope f cd A outer s H E) CL W:=by
 intro pI Y H1 s1 e T cls dx fl x I e0 he hT ge xr hw;have hb0:Un (frs outer) [] H H1 s.heap s1.heap:=I.base;obtain⟨e0,T0⟩:=e0 rfl;have e0:s.heap.get? e=Ae:=e0;have T0:s.heap.get? T=Ae:=T0;show Aw (model P w) (A.deeper (D7 qual scope s.heap.objs.size f cd)) (leaving (D7 qual scope s.heap.objs.size f cd) (.ref e)) _ _ s1;refine Yo (L:=s.heap.objs.size) I.ok.frames rfl I.stack ge λh' T' fl' sh hT'=>?_
 refine⟨e,T',cls,dx,H1,rfl,I.os,I.bare,Un.shift hb0 sh ?_ (Mh I),HOk.shift I.hok sh ?_ I.stkFree,fl',he,?_,e0,?_,hE x cls dx H1 hw xr⟩
 .intro b hb;rcases AH.mp hb with rfl|hb
  .exact e0
  .rw[Br.mp hb];exact T0
 .intro b hb;rcases AH.mp hb with rfl|hb
  .exact he
  .rw[Br.mp hb];exact hT
 .rcases hT' with rfl|z
  .exact hT
  .exact HB I.hok z
 .rcases hT' with rfl|z
  .exact T0
  .exact HA I rfl z
end
section
variable{X:Cx}{CL:ClA}{W:XW}
theorem Yc{s:Ao}{cl:Ac (Ag×Ah)}{C D:Ah}{fp:Ac Ah}{Q0:VK}(hst:X.stack=X.env::X.outer)(hfm:X.env.frame=Aa X.env.locals)(I:Inv X pI Y H s)(hf:∀ b∈fp,Gp X pI H b)(fz:KM X CL W)(hC:s.heap.objs.size<=C)(hpl:∀ b∈fp,∃ o,(b,o)∈pl):∀ pins' H1 s1 ev s',Inv (Cx.pw (cxC X scope cl C N' s H fp) pl Xw) pins' Y0 H1 s1->CXR X.prog X.w X.stack H1 s1 (EKW X.K CL A' W) ev s'->Gf (model X.prog X.w) X.A (Ge scope cl C X.env) (λe s''=>Js (model X.prog X.w) X.A X.xe Ae (EP X pI Y Q0) (.ref D) C (.error e) s'') ev s':=by
  intro pins' H1 s1 ev s' J h;obtain⟨e,T,cls,dx,H',rfl,os,bare,un,hok,fl,he,hT,ne,nT,x,xr,wx⟩:=h;have J':Inv (Cx.pw (cxC X scope cl C N' s H fp) pl Xw) pins' Y0 H' s':=J.call' (s':=s') (ch:=[]) os un hok bare (λb z=>absurd z (by simp))
  have fresh:∀{H2:Hp}{s2:Ao},Inv (Cx.pw (cxC X scope cl C N' s H fp) pl Xw) pins' Y0 H2 s2->∀ b,s2.heap.get? b=Ae->s.heap.get? b=Ae:=λ{H2 s2} K2 b hb=>by
    cases q:s.heap.get? b with
    |none=>rfl
    |some o=>
      by_cases hx:b∈fp
      · obtain⟨o',ho⟩:=hpl b hx;have:=(K2.pin (b,o') (Ey _ (Bh _ ho))).1;rw[hb]at this;cases this
      · have K0:Un (frs X.stack) fp H H2 s.heap s2.heap:=K2.base;obtain⟨o',z⟩:=K0.there b o q hx;rw[hb]at z;cases z
  have e0:=fresh J e ne;have T0:=fresh J T nT;have u1:Un (frs X.stack) fp H H' s.heap s'.heap:=J'.base;have C0:s.heap.get? C=Ae:=CH hC;have en:DX (.ref e) (Ge scope cl C X.env)=DX (.ref e) X.env:=rfl;show Aw _ X.A (DX (.ref e) (Ge scope cl C X.env)) _ _ s';rw[en];have fr':X.A.frames=Aa (X.env::X.outer):=by rw[<-hst];exact J'.ok.frames
  have ff':s'.heap.FunFrames X.base (X.env::X.outer):=by rw[<-hst];exact J'.stack
  refine Oh (base:=X.base) fr' hfm ff' fl λh2 T2 f2 sh hT2=>?_
  rw[<-hst]at sh;obtain⟨m,hm,_⟩:=J'.loc;have hm:s'.heap.Ns C m:=hm;have noF:C∉frs X.stack:=λz=>by
    obtain⟨_,o,ho,_⟩:=I.stack.mem z;rw[C0]at ho;cases ho
  obtain⟨oe,vs,oT,ts,a0,ge,gc,gd,g0,gt,g1,gne,gT,gdT,g3⟩:=id fl;have Ce:C≠e:=λz=>by
    obtain⟨o,es,ep,q,qd,_⟩:=hm;rw[z,ge]at q;cases q;rw[gt]at qd;cases qd
  have CT:C≠T:=λz=>by
    obtain⟨o,es,ep,q,qd,_⟩:=hm;rw[z,gT]at q;cases q;rw[gdT]at qd;cases qd
  have CT2:C≠T2:=λz=>by
    obtain⟨o,es,ep,q,qd,_⟩:=hm;rw[z,hT2]at q;cases q
  have cN:h2.Ns C m:=by
    obtain⟨o,es,ep,q,qd⟩:=hm;exact⟨o,es,ep,sh.keep C o q (by simp[Ce,CT]) noF,qd⟩
  refine⟨m,cN,λh3 sb cenv hcv=>?_⟩
  have k3:∀ b o,b≠C->h2.get? b=Aa o->h3.get? b=Aa o:=λb o hb q=>(sb.2 b hb).trans q
  have f3:Hh e T2 cls dx (D1 X.env.locals) h3:=by
    obtain⟨oe,vs,oT,ts,a0,ge,gc,gd,g0,gt,g1,gne,gT,gdT,g3⟩:=f2;exact⟨oe,vs,oT,ts,a0,k3 e oe (Cn Ce) ge,gc,gd,g0,gt,g1,gne,k3 T2 oT (Cn CT2) gT,gdT,g3⟩
  unfold PySem.passOn;obtain⟨oe3,vs3,oT3,ts3,a3,ge3,gc3,gd3,g03,gt3,g13,gne3,gT3,gdT3,g33⟩:=id f3;refine As (CV (s:={s' with heap:=h3}) ge3 gt3 g13 ?_)
  rw[AJ (by simp)]
  refine As (ZH (s:={s' with heap:=h3}) f3 λh4 fl4 f4 k4=>wpAny_throw ?_)
  have T20:s.heap.get? T2=Ae:=fresh J' T2 hT2;have HC:H' C=Ae:=J'.free;have HT2:H' T2=Ae:=HB hok hT2;have sh4:Shift [e,T,C,T2] (frs X.stack) s'.heap h4:=by
    refine⟨λb o q n1 n2=>?_,λb o q hb=>?_⟩
    · simp only[AH,Co,EG,Gv]at n1;exact k4 b o n1.2.2.2 (k3 b o n1.2.2.1 (sh.keep b o q (by simp[n1.1,n1.2.1]) n2))
    · obtain⟨sl,q2⟩:=sh.slot b o q hb;refine⟨sl,k4 b _ (λz=>by rw[z,hT2]at q;cases q) (k3 b _ (λz=>noF (z ▸ hb)) q2)⟩
  have n4:∀{Z_:Ah->Prop},Z_ e->Z_ T->Z_ C->Z_ T2->∀ b∈[e,T,C,T2],Z_ b:=λ{Z_} a b c d y hy=>by
    simp only[AH,Co,EG]at hy;rcases hy with rfl|rfl|rfl|rfl
    · exact a
    · exact b
    · exact c
    · exact d
  have u4:Un (frs X.stack) fp H H' s.heap h4:=Un.shiftX u1 sh4 (n4 (Z_:=λb=>s.heap.get? b=Ae) e0 T0 C0 T20) λb hb=>.inl hb
  have hok4:HOk X.prog X.w H' h4:=HOk.shift hok sh4 (n4 (Z_:=λb=>H' b=Ae) he hT HC HT2) J'.stkFree
  have os4:s'.os=s.os:=J'.os;have I4:Inv X pI Y H' {s' with heap:=h4}:=I.call' (s':={s' with heap:=h4}) (ch:=fp) os4 u4 hok4 bare λb hb=>⟨(hf b hb).2.2.2.1,(hf b hb).2.1,(hf b hb).2.2.2.2.1,(hf b hb).2.2.2.2.2⟩
  exact fz pI Y H' _ e T2 cls dx fl4 x I4 (λhx=>⟨HA I hx e0,HA I hx T20⟩) he HT2 f4 xr wx
theorem TW{Y_:Cx}{es:Ac Am}{t:TA}(hx:Y_.xe=λ_ _=>AU)(h:PA Y_ es t):PA (Cx.pw Y_ pl Xw) es t:=λpos pI s Y H Q I q=>by
 have okY:Y_.Ok:=⟨I.ok.mod,I.ok.kind,I.ok.glob,I.ok.blt,I.ok.above,I.ok.inj,I.ok.has,I.ok.cab,I.ok.hd,I.ok.frames,I.ok.stk,I.ok.exf,I.ok.bs,I.ok.bsz,I.ok.noex,I.ok.exfs,I.ok.funs,I.ok.frf⟩;have I':Inv Y_ (pl++pI) Y H s:=⟨okY,I.os,I.bare,I.base,I.loc,I.cell,I.free,I.freeC,λp hp=>I.pin p (by
  show p∈(Y_.pn++pl)++pI;rw[Vy];exact hp),I.hok,I.len⟩
 refine A5 (h pos (pl++pI) s Y H Q I' q) (λus s' ⟨vs,H',J,r,z⟩=>⟨vs,H',⟨Uf J.ok,J.os,J.bare,J.base,J.loc,J.cell,J.free,J.freeC,λp hp=>J.pin p (by
  have hp':p∈(Y_.pn++pl)++pI:=hp;rw[Vy]at hp';exact hp'),J.hok,J.len⟩,r,z⟩) λ_ _ z=>by rw[hx]at z;exact z.elim
theorem ZO{iter:Am}{wi:TI}{g:TG}{tt:TT}{te:TE}{ifs:Ac Am}(hc:X.calm=Ab)(hst:X.stack=X.env::X.outer)(hfm:X.env.frame=Aa X.env.locals)(fz:KM X CL W)(B:BlockOk X scope N' ts)(hi:PI X tg iter wi)(hg:∀ cl C s H fp,PG (cxC X scope cl C N' s H fp) tg g)(ht:∀ cl C s H fp,PTs (cxC X scope cl C N' s H fp) ifs tt)(he:∀ cl C s H fp pl Xw Y0,(∀ pins' H1 s1 ev s',Inv (Cx.pw (cxC X scope cl C N' s H fp) pl Xw) pins' Y0 H1 s1->CXR X.prog X.w X.stack H1 s1 (EKW X.K CL A' W) ev s'->Xw ev s')->PE (Cx.pw (cxC X scope cl C N' s H fp) pl Xw) elt (λY H Q=>Y=Y0/\te Y H Q))(hs:∀ x,BL iter X.env x=pure x):PE X (.ListComp elt [⟨tg,iter,ifs,0⟩] scope pos) (λY H Q=>wi Y H λJ H1=>IZ J ts g tt te Y H1 Q):=by
 intro pI s Y H Q I h;obtain⟨cl,hclos,hcl,hcl2⟩:=NC (scope:=scope) (env:=X.env) λx hx hk=>I.ok.has x.1 ((B.free x hx hk).imp id id)
 rw[eval_ListComp];refine Fd (use:=Ae) rfl hs hclos B.kind B.names (thn (hi pI s Y H _ I h) λv s1 h1=>thn h1 λitv s2 h2=>?_)
 obtain⟨it,fp,tn,J,H2,e,I2,T,st2,f2,h3⟩:=h2;subst e;refine N5 (RR:=λacc C=>Js (model X.prog X.w) X.A X.xe Ae (EP X pI Y Q) acc C) hc B I2 T st2 f2 hcl hcl2 (λcl C s H=>hg cl C s H fp) (λcl C s H=>ht cl C s H fp) (λcl' C D pl Y' H' s' Q' hC I' hpl q=>?_) h3 λcl' D C s' H' Y' pins' xs ys n m I' hd hDn rv hz hD hDC hC hm q=>?_
 .exact A5 (he cl' C s2 H2 fp pl _ Y' (Yc hst hfm I2 f2 fz hC hpl) [] s' Y' H' Q' (Jc I' _) ⟨rfl,q⟩) (λu s'' ⟨v,H'',J,r,z⟩=>⟨v,H'',Jw I'.ok J,r,z⟩) λ_ _ z=>z
 .exact⟨m,hm,λh'' hs''=>⟨.ref D,_,NW I2 f2 I' hD hDC hC hd hDn rv hz hs'',rfl,q⟩⟩
theorem Zm{as:D->Rho->R Rho}{ds:Ac D}{x:Ex}(hax:∀ d U x,as d U≠.exn x)(h:Bz (λx=>(as x U).bind λ_=>.ok Ab) (λx=>(as x U).bind fe) (d::ds)=.exn x):∃ U',as d U=.ok U'/\(fe U'=.exn x\/∃ y,fe U'=.ok y/\Bz (λx=>(as x U).bind λ_=>.ok Ab) (λx=>(as x U).bind fe) ds=.exn x):=by
 have h':((as d U).bind λ_=>R.ok Ab).bind (λb=>if b=Ab then ((as d U).bind fe).bind λy=>(Bz (λx=>(as x U).bind λ_=>.ok Ab) (λx=>(as x U).bind fe) ds).bind λys=>.ok (y::ys) else Bz (λx=>(as x U).bind λ_=>.ok Ab) (λx=>(as x U).bind fe) ds)=.exn x:=h
 cases ea:as d U with
 |bad=>rw[ea]at h';cases h'
 |exn z=>exact absurd ea (hax _ _ z)
 |ok U'=>
  refine⟨U',rfl,?_⟩;rw[ea]at h';have h2:((fe U').bind λy=>(Bz (λx=>(as x U).bind λ_=>.ok Ab) (λx=>(as x U).bind fe) ds).bind λys=>.ok (y::ys))=.exn x:=h'
  cases ef:fe U' with
  |bad=>rw[ef]at h2;cases h2
  |exn z=>rw[ef]at h2;cases h2;exact .inl rfl
  |ok y=>
   rw[ef]at h2;refine .inr ⟨y,rfl,?_⟩;cases ec:Bz (λx=>(as x U).bind λ_=>.ok Ab) (λx=>(as x U).bind fe) ds with
   |bad=>rw[ec]at h2;cases h2
   |exn z=>rw[ec]at h2;cases h2;rfl
   |ok ys=>rw[ec]at h2;cases h2
theorem Yr{H1:Hp}{J:It}{ds:Ac D}{Q:VK}{as:D->Rho->R Rho}{g:TG}{x:Ex}(hGG:GG K CL ts as g)(hax:∀ d U x,as d U≠.exn x)(hA:AOk H1 A)(gd:Good K CL A U Y H1)(yl:Jo K CL A ds J H1)(hz:ds.length<=sizeLine)(hcp:Bz (λx=>(as x U).bind λ_=>.ok Ab) (λx=>(as x U).bind fe) ds=.exn x)(q:∀ H2,Ay H1 H2->W x H2):IZ J ts g (λY H Q=>AOk H A/\∃ U,Good K CL A U Y H/\CJ W0 H (.ok Ab) Q) (λY H Q=>AOk H A/\∃ U,Good K CL A U Y H/\AS (λH=>Rep K CL H A) W H (fe U) Q) Y H1 Q:=by
 refine⟨λi m xs Y' H'=>m=ds.length-i/\i<=ds.length/\xs.length<=i/\Ay H1 H'/\Good K CL A (EV ts U) Y' H'/\Bz (λx=>(as x U).bind λ_=>.ok Ab) (λx=>(as x U).bind fe) (ds.drop i)=.exn x,
  ⟨ds.length,by simp,Dh _,AN _,Ay.refl _,gd.hideT ts,hcp⟩,?_⟩
 rintro i m xs Y' H' ⟨rfl,hi,hxl,sm,g',hc⟩;obtain⟨yst,ygo⟩:=yl H' (Kp.of sm) i;by_cases hlt:i<ds.length
 .have hd:ds[i]?=Aa ds[i]:=Bo hlt;obtain⟨hgo,hyl⟩:=ygo _ hd;refine .inr ⟨hgo,by omega,λx' H2 hx=>?_⟩
  obtain⟨s2,rx⟩:=hyl x' H2 hx;have rx':=rx A (λa ha=>.inl ha) (hA.same sm)
  rw[DO hlt]at hc;have sm2:=sm.trans s2;obtain⟨U',ea,h1⟩:=Zm hax hc;refine hGG A U Y' H2 x' ds[i] U' _ (g'.same s2) rx' ea λY3 g3 g4=>⟨hA.same sm2,U',g3,λH3 s3=>?_⟩
  dsimp only;rw[AC rfl];refine⟨(hA.same sm2).same s3,U',g3.same s3,?_⟩;rcases h1 with h1|⟨y,h1,h2⟩
  .rw[h1];exact λH4 s4=>q H4 ((sm2.trans s3).trans s4)
  .rw[h1];exact λv H4 s4 r4=>⟨ds.length-(i+1),by omega,rfl,hlt,by rw[Db,VH];omega,(sm2.trans s3).trans s4,(g4.same s3).same s4,h2⟩
 .have hk':ds.length<=i:=by omega
  rw[Ea hk']at hc;cases hc
theorem Yq{Q:VK}{as:D->Rho->R Rho}{g:TG}{fi:Rho->R (Ac D)}(hGG:GG X.K CL ts as g)(hax:∀ d U x,as d U≠.exn x)(hA:AOk H A)(gd:Good X.K CL A U Y H)(p:AS (DN X.K CL Ab H A) W H ((fi U).bind λxs=>(Bz (λx=>(as x U).bind λ_=>.ok Ab) (λx=>(as x U).bind fe) xs).bind λys=>.ok (.lst ys)) Q):EX X.K CL A W H (fi U) (λJ H1=>IZ J ts g (λY H Q=>AOk H A/\∃ U,Good X.K CL A U Y H/\CJ W0 H (.ok Ab) Q) (λY H Q=>AOk H A/\∃ U,Good X.K CL A U Y H/\AS (λH=>Rep X.K CL H A) W H (fe U) Q) Y H1 Q):=
 EX.ok_of p λds J H1 e1 s1 yl hz p1=>by
  cases e2:Bz (λx=>(as x U).bind λ_=>.ok Ab) (λx=>(as x U).bind fe) ds with
  |ok ys=>
   rw[e2]at p1;exact QH (fc:=λ_=>.ok Ab) hGG (hA.same s1) (gd.same s1) yl hz e2 λxs H2 s2 rs q hq=>p1 _ _ (s2.trans (ET hq _)) (Jy (s1.trans s2) ((hA.same s1).same s2) hq rs)
  |exn x=>
   rw[e2]at p1;exact Yr hGG hax (hA.same s1) (gd.same s1) yl hz e2 p1
  |bad=>rw[e2]at p1;exact p1.elim
theorem Zh{iter:Am}{as:D->Rho->R Rho}{g:TG}{fi:Rho->R (Ac D)}{k n:Af}{fr:Ak}{f:Ah}{e:Am}{es:Ac Am}{fs ft:Rho->R (Ac D)}{sh:Rho->Ak}(hc:X.calm=Ab)(hst:X.stack=X.env::X.outer)(hfm:X.env.frame=Aa X.env.locals)(fz:KM X CL W)(B:BlockOk X scope N' ts)(hi:SI X CL W tg iter fi)(hGG:GG X.K CL ts as g)(hax:∀ d U x,as d U≠.exn x)(hg:∀ cl C s H fp,PG (cxC X scope cl C N' s H fp) tg g)(hs:∀ x,BL iter X.env x=pure x)(G:FnOk X.prog X.w X.K X.mg X.base (CXR X.prog X.w) k f fd ps (spD X.K CL n fr F))(hr:Room k X.A)(hgl:∀ cl C s H fp,Gl (cxC X scope cl C N' s H fp) x)(hm:X.mg x=Aa (.ref f))(hk:Bf X.K (.ref f)=Ab)(hb:DB X.K fd ps [])(ha:∀ cl C s H fp,SA (cxC X scope cl C N' s H fp) CL W0 (e::es) fs/\SAT (cxC X scope cl C N' s H fp) CL W0 (e::es) ft)(hsh:∀ U,sh U=Ab->ft U=fs U)(hn:∀ U ds,ft U=.ok ds->ds.length=n)(hnx:∀ U y,ft U≠.exn y)(hdb:(x==("__debug__" : Ag))=Ad)(hse:∀ env,Ar (e::es) env=(Ad,eval e env)::Ar es env)(hpl:∀ env pos,(Bu pos (Ar es env)).any (·.1)=Ad):SC X CL W Ab (.ListComp (.Call (.Name x p) (e::es) [] cpos) [⟨tg,iter,[],0⟩] scope pos) (λU=>(fi U).bind λxs=>(Bz (λx=>(as x U).bind λ_=>.ok Ab) (λx=>(as x U).bind λU=>(ft U).bind λds=>(F ds).bind λd=>if sh U=Ab then .ok d else if FP fr d=Ab then .ok d else .bad) xs).bind λys=>.ok (.lst ys)):=λA pI s Y H Q I ⟨hA,U,gd,q⟩=>by
 refine ZO (W:=W) (A':=A) hc hst hfm fz B (hi A) hg (λcl C s H fp=>RP A) (λcl C s H fp pl Xw Y0 want=>?_) hs pI s Y H Q I ⟨hA,U,gd,Yq hGG hax hA gd q⟩
 have key:=Lc (X:=Cx.pw (cxC X scope cl C N' s H fp) pl Xw) (p:=p) (pos:=cpos) (Y0:=Y0) (fr:=fr) (F:=F) (n:=n) (sh:=sh) (E0:=EKW X.K CL A W) G hr (hgl cl C s H fp) hm hk hb want (λA=>TW rfl ((ha cl C s H fp).1 A)) (λA=>TW rfl ((ha cl C s H fp).2 A)) hsh hn hnx hdb (hse _) (hpl _) A
 refine PE.weak key λY H Q ⟨e0,hA,U,gd,z⟩=>⟨e0,hA,U,gd,?_⟩
 cases er:((ft U).bind λds=>(F ds).bind λd=>if sh U=Ab then R.ok d else if FP fr d=Ab then .ok d else .bad) with
 |ok d=>rw[er]at z;exact λv H' sm r=>z v H' sm r.1
 |exn y=>rw[er]at z;exact λcls dx H' sm xr=>⟨y,xr,z H' sm⟩
 |bad=>rw[er]at z;exact z
end
section
variable{X:Cx}{CL:ClA}{W:XW}
def jA(K:Fg)(CL:ClA):V->Ac V->Hp->VK->Prop:=λx vs H Q=>∃ l xs ds v d j,x=.ref l/\vs=[v]/\SqL K H l xs/\Reps K CL H A0 xs ds/\Rep K CL H A0 v d/\flD 5 d=Ab/\ds.all (flD 5)=Ab/\(ds.findIdx? λy=>eqD y d)=Aa j/\Q (.int (j:Af)) H
theorem Z_4(hu:X.A.units+64<BE):MtR X "list.index" (jA X.K CL):=by
 intro pI s Y H x vs v us Q I rx rv h;obtain⟨l,xs,ds,y,d,j,rfl,rfl,sq,rs,ry,h1,h2,hj,q⟩:=h;cases rx;obtain⟨u,rfl,ru⟩:=rv.one;obtain⟨its,r,pl,hz⟩:=I.list sq;obtain⟨⟨c,dct,dt,sl⟩,n,e,hc,hd,hdt⟩:=pl;obtain⟨f,hf,hn⟩:=jN I (n:=5) X.A.in1 h1 h2 rs r ry ru (by show X.A.units+1+5<BE;omega)
 replace hc:c=.type "list" := hc;replace hdt:dt=.seq its.toArray n:=hdt;subst hc hdt;have hl:its.length=ds.length:=by rw[<-r.length,rs.length]
 obtain⟨g1,g2,g3⟩:=List.findIdx?_eq_some_iff_getElem.mp hj;have gd:∀ m (h:m<ds.length),ds.getD m .non=ds[m]:=λm h=>by rw[C3,Bo h];rfl
 have hzl:its.length<=sizeLine:=by rw[hl,<-rs.length];exact hz
 have zl:sizeLine<2 ^ 62:=by decide
 refine F1 WA ⟨_,e,rfl⟩ PySem.F.entry_list_index (PySem.F.args_list_index_2 _ _) (SeqAt.list_indexAt l its.toArray n dct sl u f j (by rw[A6];omega) (by omega) ?_ ?_) ⟨e,hf,?_⟩
 .have:=hn j (by omega)
  rw[gd j g1]at this;simpa [g2] using this
 .intro m hm hmj;have hm':m<its.length:=by rw[A6]at hm;exact hm
  have:=hn m hm';rw[gd m (by omega)]at this
  have h3:eqD ds[m] d=Ad:=by
   have:=g3 m hmj;simpa using this
  rw[h3]at this;simpa using this
 .exact⟨.int _,H,I.tok _,⟨_,rfl⟩,q⟩
theorem Rt{o y:Am}(hu:X.A.units+64<BE)(ho:ST X CL W o fo)(hy:ST X CL W y fy)(hny:∀ U e,fy U≠.exn e)(hbase:Cd o "index" X.env (eval o X.env)=eval o X.env)(hfew:((Bu cpos (Ar [y] X.env)).all (λx=>!x.1)&&(G2 cpos (FF [] X.env)).all (λx=>x.1.isSome)&&decide ([y].length+([]:Ac D4).length+(if ([]:Ac D4).isEmpty then 0 else 1)<30))=Ab)(hline:(apos.endLine==cpos.line)=Ab)(hs:Ar [y] X.env=[(Ad,eval y X.env)]):
  SE X CL W (.Call (.Attribute o "index" apos) [y] [] cpos) (λU=>(fo U).bind λx=>(fy U).bind λd=>match x with | .lst xs=>Lx xs d|_=>.bad):=λA=>
 PE.weak (Pq Wy WA PySem.F.type_list_index (Z_4 (CL:=CL) hu) (ho A) (DU (hy A) Fe hs) hbase hfew hline hs rfl) λY H Q ⟨hA,U,g,p⟩=>⟨hA,U,g,AS.bind p λd v H1 _ s1 r1 p1=>by
  have nb:∀{f:D->R D},(∀ d,f d=.bad)->AS (λH=>Rep X.K CL H A) W H1 ((fy U).bind f) Q->AU:=λ{f} hf z=>by
   cases e:fy U with
   |ok d2=>rw[e]at z;have z':AS (λH=>Rep X.K CL H A) W H1 (f d2) Q:=z;rw[hf]at z';exact z'
   |exn e'=>exact hny U e' e
   |bad=>rw[e]at z;exact z
  cases d with
  |lst ds=>
   obtain⟨a,xs,rfl,sq,rs⟩:=r1.lst_of;refine⟨.inl ⟨rfl,xs,sq⟩,hA.same s1,U,g.same s1,AS.bind p1 λd2 v' H2 _ s2 r2 p2=>?_⟩
   have r3:Rep X.K CL H2 A0 (.ref a) (.lst ds):=(Cr.same s2 r1).plain;obtain⟨a',xs',e',_,sq',rs'⟩:=r3;cases e';replace p2:AS (λH=>Rep X.K CL H A) W H2 (Lx ds d2) Q:=p2
   unfold Lx at p2;split at p2
   .rename_i h;simp only[Al]at h;cases e3:ds.findIdx? λy=>eqD y d2 with
    |none=>rw[e3]at p2;exact p2.elim
    |some j=>
     rw[e3]at p2;exact⟨a,xs',ds,v',d2,j,rfl,rfl,sq',rs',r2.plain,h.1,h.2,e3,p2 _ H2 (Ay.refl H2) rfl⟩
   .exact p2.elim
  | _=>exact(nb (λ_=>rfl) p1).elim⟩
end
section
variable{X:Cx}{CX:CXT}{k:Af}{f C:Ah}{fd:Bv}{ps:Ac Ag}{sp:Sp}{E:XK}{Y0:L2.St}
theorem aD{s:Ao}{Q:VK}{vs:Ac V}(F:FnOk X.prog X.w X.K X.mg X.base CX k f fd ps sp)(hr:Room k X.A)(hb:DB X.K fd ps [])(hx:∀ pI H s e s',Inv X pI Y0 H s->CX X.stack H s E e s'->X.xe e s')(I:Inv X pI Y0 H s)(r:AW vs us)(q:sp vs H Q E):Aw (model X.prog X.w) X.A (call (.ref f) us) (EP X pI Y0 Q) X.xe s:=by
 have hl:us.length=ps.length:=by rw[<-r.length];exact F.len _ _ _ _ q
 have hb':FR s fd ⟨us,[]⟩ (ps.zip us):=by
  have:=hb s us I.kIn (by rw[BA];exact hl)
  rw[BA]at this;exact this
 refine D9 (DA (F.run X.A X.stack s H ⟨us,[]⟩ us vs Q E hr I.env0 hb' r q) λr s' hq=>?_)
 cases r with
 |error e=>exact hx pI H s e s' I hq
 |ok fl=>
  cases fl with
  |ret u=>exact I.after hq
  |next=>exact AV hq
  |brk=>exact AV hq
  |cont=>exact AV hq
theorem QS{s:Ao}{Q:VK}{vs:Ac V}(M:Mk X.K C f)(F:FnOk X.prog X.w X.K X.mg X.base CX k f fd ps sp)(hr:Room (k+1) X.A)(hb:DB X.K fd ps [])(hx:∀ pI H s e s',Inv X pI Y0 H s->CX X.stack H s E e s'->X.xe e s')(I:Inv X pI Y0 H s)(r:AW vs us)(h:∀ x dx,H x=Ae->H dx=Ae->dx≠x->sp (.ref x::vs) (upd (upd H dx (.own x)) x (.ins C dx [])) (λv H2=>v=.non/\Q (.ref x) H2) E):Aw (model X.prog X.w) X.A (call (.ref C) us) (EP X pI Y0 Q) X.xe s:=by
 have hq:=h (s.heap.objs.size+1) s.heap.objs.size (I.hok.fresh (Hw _)) (I.hok.fresh (AN _)) (Bp (Ez _));have I2:=Inv.made (C:=C) I;have r2:AW (V.ref (s.heap.objs.size+1)::vs) (Bc (s.heap.objs.size+1)::us):=.cons rfl r;have hl:(Bc (s.heap.objs.size+1)::us).length=ps.length:=by
  have e:=r2.length;rw[F.len _ _ _ _ hq]at e;exact e.symm
 have hb':=hb _ (Bc (s.heap.objs.size+1)::us) I2.kIn (by rw[BA];exact hl)
 rw[BA]at hb';refine D9 (Q9 (f:=f) I.kIn M.makes M.init (AB.mp M.fn) (DA (F.run _ X.stack _ _ ⟨Bc (s.heap.objs.size+1)::us,[]⟩ (Bc (s.heap.objs.size+1)::us) _ _ E (hr.make C us [])
  (I2.env0.make C us []) hb' r2 hq) λr s' hq'=>?_))
 cases r with
 |error e=>exact hx pI _ _ e s' I2 hq'
 |ok fl=>
  cases fl with
  |ret u=>
   obtain⟨v,H',I3,rv,ev,q3⟩:=I2.after hq';subst ev;exact⟨rv,⟨V.ref (s.heap.objs.size+1),H',I3,rfl,q3⟩⟩
  |next=>exact AV hq'
  |brk=>exact AV hq'
  |cont=>exact AV hq'
end
section
variable{X:Cx}{CL:ClA}{a:Am}{fa:Rho->R D}
theorem Q2{W1:XW}{m:Ag}{F:Af->Ac D->R D}{e:Am}{E0:XK}(hr:Room k X.A)(hx:∀ pI H s ev s',Inv X pI Y0 H s->CXR X.prog X.w X.stack H s E0 ev s'->X.xe ev s')(ha:ST X CL W1 a fa)(he:SE X CL W1 e fe)(hms:∀ c id C,ms.lookup c=Aa id->OC X.K c=Aa C->∃ f fd ps fr,Cls X.K C/\Meth X.K C m f/\DB X.K fd ps []/\FnOk X.prog X.w X.K X.mg X.base (CXR X.prog X.w) k f fd ps (spD X.K CL 2 fr (F id)))(hbase:Cd a m X.env (eval a X.env)=eval a X.env)(hline:(apos.endLine==pos.line)=Ab)(hst:Ar [e] X.env=[(Ad,eval e X.env)])(A:Ah->Prop):PE X (.Call (.Attribute a m apos) [e] [] pos) (λY H Q=>Y=Y0/\AOk H A/\∃ U,Good X.K CL A U Y H/\G8 X.K CL (λH=>Rep X.K CL H A) E0 H ((noX (fa U)).bind λx=>(G9 m ms x).bind λid=>(noX (fe U)).bind λy=>F id [x,y]) Q):=by
 intro pI s Y H Q I ⟨e0,hA,U,gd,q⟩;subst e0;rw[IC,hbase];refine As (thn (ha A pI s Y H (λv H1=>Ay H H1/\∃ d,fa U=.ok d/\Cr X.K CL H1 A v d) I ⟨hA,U,gd,?_⟩) λu s1 ⟨v,H1,I1,rv,s1',d,ed,rp⟩=>?_)
 .cases ef:fa U with
  |ok d=>exact λv H1 s1 r1=>⟨s1,d,rfl,r1⟩
  |exn y=>rw[ef]at q;exact q.elim
  |bad=>rw[ef]at q;exact q.elim
 rw[ed,RX,R.bind_ok]at q;refine As (DK ?_);have hform:HR (([e]:Ac Am).length+([]:Ac D4).length) (Bu pos (Ar [e] X.env)) (G2 pos (FF [] X.env))=Ab:=by
  rw[hst];rfl
 have hpos:EJ Ab a X.env apos pos=pure pos:=by
  unfold EJ;simp[hline]
 unfold JU;rw[hform];cases d with
 |obj c fs=>
  have q2:G8 X.K CL (λH=>Rep X.K CL H A) E0 H ((match ms.lookup c with|some id=>if (fs.lookup m).isNone=Ab then R.ok id else .bad|none=>.bad).bind λid=>(noX (fe U)).bind λy=>F id [.obj c fs,y]) Q:=q
  cases el:ms.lookup c with
  |none=>rw[el]at q2;exact q2.elim
  |some id=>
   rw[el]at q2;dsimp only at q2;by_cases hn:(fs.lookup m).isNone=Ab
   .rw[AC hn,R.bind_ok]at q2;obtain⟨o,C,dx,vs,rfl,na,hc,hH,rf⟩:=Mc rp;obtain⟨f,fd,ps,fr,cl,me,hb,G⟩:=hms c id C el hc;cases rv;refine As (EK (Qy I1 hH cl me (NY rf (DQ.mp hn)) ?_));refine As (Gq hpos ?_);refine CC (first:=[.ref o]) (h₀:=X.base) I.ok.mod.kin me.kp (thn (DU (he A) Fe hst pos pI s1 Y H1 (λvs H2=>∃ d v,vs=[v]/\fe U=.ok d/\Ay H1 H2/\Rep X.K CL H2 A v d) I1 ⟨hA.same s1',U,gd.same s1',?_⟩) λus s2 ⟨vs2,H2,I2,r,d2,v2,ev,ed2,s2',r2⟩=>⟨I2.kIn,?_⟩) hst rfl
    .cases ef:fe U with
     |ok d=>exact λv H2 s2 r2=>⟨d,v,rfl,rfl,s2,r2⟩
     |exn y=>rw[ef]at q2;exact q2.elim
     |bad=>rw[ef]at q2;exact q2.elim
    .subst ev;rw[ed2,RX,R.bind_ok]at q2;refine aD (us:=.ref o::us) (vs:=[.ref o,v2]) G hr hb hx I2 (.cons rfl r) ?_;refine⟨[.obj c fs,d2],A,rfl,(hA.same s1').same s2',⟨⟨o,C,dx,vs,rfl,na,hc,s2' _ _ hH,Repf.kp (Kp.of s2') _ rf⟩,r2,trivial⟩,?_⟩;cases e2:F id [.obj c fs,d2] with
     |ok d=>rw[e2]at q2;exact λv H3 s3 r3=>q2 v H3 ((s1'.trans s2').trans s3) r3.1
     |exn y=>rw[e2]at q2;exact λcls dx H3 s3 xr=>q2 cls dx H3 ((s1'.trans s2').trans s3) xr
     |bad=>rw[e2]at q2;exact q2.elim
   .rw[AJ hn]at q2;exact q2.elim
 |_=>exact q.elim
theorem Ze{m:Ag}{F:Af->Ac D->R D}{e:Am}(hr:Room k X.A)(hx:∀ A,HH (CXR X.prog X.w) X (EKW X.K CL A W))(ha:ST X CL W a fa)(he:SE X CL W e fe)(hms:∀ c id C,ms.lookup c=Aa id->OC X.K c=Aa C->∃ f fd ps fr,Cls X.K C/\Meth X.K C m f/\DB X.K fd ps []/\FnOk X.prog X.w X.K X.mg X.base (CXR X.prog X.w) k f fd ps (spD X.K CL 2 fr (F id)))(hbase:Cd a m X.env (eval a X.env)=eval a X.env)(hline:(apos.endLine==pos.line)=Ab)(hst:Ar [e] X.env=[(Ad,eval e X.env)]):SE X CL W (.Call (.Attribute a m apos) [e] [] pos) (λU=>(noX (fa U)).bind λx=>(G9 m ms x).bind λid=>(noX (fe U)).bind λy=>F id [x,y]):=λA pI s Y H Q I ⟨hA,U,gd,q⟩=>by
 refine Q2 (Y0:=Y) (E0:=EKW X.K CL A W) hr (λpI H s ev s' J h=>hx A pI Y H s ev s' J h) ha he hms hbase hline hst A pI s Y H Q I ⟨rfl,hA,U,gd,?_⟩
 dsimp only at q;cases er:((noX (fa U)).bind λx=>(G9 m ms x).bind λid=>(noX (fe U)).bind λy=>F id [x,y]) with
 |ok d=>rw[er]at q;exact q
 |exn y=>rw[er]at q;exact λcls dx H' sm xr=>⟨y,xr,q H' sm⟩
 |bad=>rw[er]at q;exact q
theorem ZM{C f:Ah}{np pos:AA}{e:Am}{es:Ac Am}{fs:Rho->R (Ac D)}{G:Ac D->R D}{E0:XK}(M:Mk X.K C f)(hoc:OC X.K c=Aa C)(o:OCls X.K C)(FI:FnOk X.prog X.w X.K X.mg X.base (CXR X.prog X.w) k f fd ["self", "p", "numbers"] (spI X.K CL G))(hr:Room (k+1) X.A)(hb:DB X.K fd ["self", "p", "numbers"] [])(hx:∀ pI H s ev s',Inv X pI Y0 H s->CXR X.prog X.w X.stack H s E0 ev s'->X.xe ev s')(hF:∀ ds,ds.length=2->F ds=.bad\/F ds=(G ds).bind (Dk c))(hg:Gl X g)(hm:X.mg g=Aa (.ref C))(hdb:(g==("__debug__" : Ag))=Ad)(ha:SA X CL W0 (e::es) fs)(hne:∀ U y,fs U≠.exn y)(hn:∀ U ds,fs U=.ok ds->ds.length=2)(he:Ar (e::es) X.env=(Ad,eval e X.env)::Ar es X.env)(hpl:(Bu pos (Ar es X.env)).any (·.1)=Ad)(A:Ah->Prop):PE X (.Call (.Name g np) (e::es) [] pos) (λY H Q=>Y=Y0/\AOk H A/\∃ U,Good X.K CL A U Y H/\G8 X.K CL (λH=>Rep X.K CL H A) E0 H ((fs U).bind λds=>F ds) Q):=by
 intro pI s Y H Q I ⟨e0,hA,U,gd,p⟩;subst e0;refine Cm (Gy I hg hm ?_ hdb);have q1:=ha A pos pI s Y H (λvs H1=>∃ ds,Ay H H1/\ds.length=2/\Reps X.K CL H1 A vs ds/\G8 X.K CL (λH=>Rep X.K CL H A) E0 H (F ds) Q) I ⟨hA,U,gd,by
  cases e1:fs U with
  |bad=>rw[e1]at p;exact p
  |exn y=>exact absurd e1 (hne U y)
  | ok ds=>rw[e1]at p;exact λvs H1 s1 r1=>⟨ds,s1,hn U ds e1,r1,p⟩⟩
 refine CC (h₀:=X.base) I.ok.mod.kin M.kp (thn q1 λus s1 ⟨vs,H1,I1,r,ds,sm,hl,rps,q⟩=>⟨I1.kIn,?_⟩) he hpl
 rcases hF ds hl with z|z
 .rw[z]at q;exact q.elim
 .rw[z]at q;have old:∀{x dx:Ah},H1 x=Ae->H1 dx=Ae->Ay H1 (upd (upd H1 dx (.own x)) x (.ins C dx [])):=λ{x dx} nx ndx b ob h=>by
   have n1:b≠x:=λz=>by rw[z,nx]at h;cases h
   have n2:b≠dx:=λz=>by rw[z,ndx]at h;cases h
   rw[Bb n1,Bb n2];exact h
  cases e2:G ds with
  |bad=>rw[e2]at q;exact q.elim
  |exn y=>
   rw[e2]at q;refine QS (Q:=Q) (E:=E0) M FI hr hb hx I1 r λx dx nx ndx ne=>?_
   refine⟨x,C,dx,vs,ds,A,H1,rfl,by rw[rps.length];exact hl,o.cl,o.np,o.nt,C8,nx,old nx ndx,hA.same sm,rps,?_⟩
   rw[e2];exact λcls dy H' sm2 xr=>q cls dy H' (sm.trans sm2) xr
  |ok d=>
   rw[e2]at q;have q':G8 X.K CL (λH=>Rep X.K CL H A) E0 H (Dk c d) Q:=q
   have pw:AS (λH=>Rep X.K CL H A) W0 H (Dk c d) (λv H'=>Q v H'):=by
    cases em:Dk c d with
    |ok d'=>rw[em]at q';exact q'
    |exn y=>
     exfalso
     unfold Dk at em;split at em
     .split at em<;>cases em
     .cases em
    |bad=>rw[em]at q';exact q'
   obtain⟨d1,d2,rfl,em⟩:=R0 pw;rw[em]at pw;refine QS (Q:=Q) (E:=E0) M FI hr hb hx I1 r λx dx nx ndx ne=>?_
   refine⟨x,C,dx,vs,ds,A,H1,rfl,by rw[rps.length];exact hl,o.cl,o.np,o.nt,C8,nx,old nx ndx,hA.same sm,rps,?_⟩
   rw[e2];exact λe1 e3 ee v1 v2 H' sm2 hx' r1 r2=>by
    cases ee;exact⟨rfl,pw _ H' (sm.trans sm2) ⟨x,C,dx,_,rfl,(hA.same sm).new nx,hoc,hx',⟨⟨rfl,r1⟩,⟨rfl,r2⟩,trivial⟩⟩⟩
theorem fT{e:Am}{pos2:AA}(hx0:X.ex=[])(he:∀(pI:Pn)(Xw:Vq),Dz (model X.prog X.w) X.A X.env Xw->∀(Y0:L2.St)(E0:XK)(A:Ah->Prop),(∀ pins' H1 s1 ev s',Inv (Cx.pw X pI Xw) pins' Y0 H1 s1->CXR X.prog X.w X.stack H1 s1 E0 ev s'->Xw ev s') ->
   PE (Cx.pw X pI Xw) e (λY H Q=>Y=Y0/\AOk H A/\∃ U,Good X.K CL A U Y H/\G8 X.K CL (λH=>Rep X.K CL H A) E0 H (fe U) Q))(hs:CF e Ae pos2.line X.env=pure Ad):STB X CL [.Expr e pos2] (λU=>O.of U (fe U) λ_=>.next U):=by
 intro Fz B pI s Y H D U Xw own I sx q _;dsimp only at q;cases er:fe U with
 |bad=>rw[er]at q;exact q.elim
 |exn y=>
  rw[er]at q;have key:=he pI Xw own Y _ (Bg B U Y) (Ow hx0 I.ok (q rfl));refine A5 (Ig (Jz (pos:=pos2) key hs) [] s Y H D (Jc I Xw) ⟨rfl,sx.aok,U,sx.good,?_⟩) (λ_ _ z=>J7 I.ok z) λ_ _ z=>z
  rw[er];exact λcls dx H' sm xr=>⟨xr,sm⟩
 |ok d=>
  rw[er]at q;have key:=he pI Xw own Y (λ_ _ _=>AU) (Bg B U Y) Ox
  refine A5 (Ig (Jz (pos:=pos2) key hs) [] s Y H D (Jc I Xw) ⟨rfl,sx.aok,U,sx.good,?_⟩) (λ_ _ z=>J7 I.ok z) λ_ _ z=>z
  rw[er];exact λv H' sm r=>q Y H' (sx.grow sm)
end
def NwA(X:Cx)(CL:ClA)(W:XW)(es:Ac Am)(f:Rho->R (Ac D)):Prop:=∀ A,PA X es (λY H Q=>AOk H A/\∃ U,Good X.K CL A U Y H /\
 GH (λH' vs ds=>Reps X.K CL H' A vs ds/\(ds.all JO=Ab->∀ u∈vs,∃ a i xs,u=.ref a/\H a=Ae/\H' a=Aa (.lst (.int i::xs)))) W H (f U) Q)
section
variable{X:Cx}{CL:ClA}{W:XW}{e:Am}{es:Ac Am}{fe:Rho->R D}{fs:Rho->R (Ac D)}
theorem iM:NwA X CL W [] (λ_=>.ok []):=λA=>PA.weak Fe λY H Q ⟨hA,U,g,p⟩=>p [] H (Ay.refl H) ⟨trivial,λ_ u hu=>nomatch hu⟩
theorem oQ{ds:Ac D}{xs:Ac V}(h:JO d=Ab)(e:d=.lst ds)(r:Reps K CL H A xs ds):∃ i ys,xs=.int i::ys:=by
 subst e;cases ds with
 |nil=>cases h
 |cons d ds=>
  cases xs with
  |nil=>exact r.elim
  |cons x xs=>
   cases d with
   |int i=>exact⟨i,xs,by rw[(show x=.int i from r.1)]⟩
   |_=>cases h
theorem kO(h:JO d=Ab):∃ ds,d=.lst ds:=by
 cases d with
 |lst ds=>exact⟨ds,rfl⟩
 |_=>cases h
theorem cR(he:SC X CL W Ab e fe)(hs:NwA X CL W es fs)(hst:Ar (e::es) X.env=(Ad,eval e X.env)::Ar es X.env):NwA X CL W (e::es) (λU=>(fe U).bind λx=>(fs U).bind λxs=>.ok (x::xs)):=λA=>PA.weak (DU (he A) (hs A) hst) λY H Q ⟨hA,U,g,p⟩=>⟨hA,U,g,by
 dsimp only at p;cases e1:fe U with
 |bad=>rw[e1]at p;exact p
 |exn y=>rw[e1]at p;exact p
 |ok d=>
  rw[e1]at p;intro v H1 s1 r1;refine⟨hA.same s1,U,g.same s1,?_⟩;cases e2:fs U with
  |bad=>rw[e2]at p;exact p
  |exn y=>rw[e2]at p;exact λH' s'=>p H' (s1.trans s')
  |ok ds=>
   rw[e2]at p;intro vs H2 s2 r2;refine p _ H2 (s1.trans s2) ⟨⟨r1.1.same s2,r2.1⟩,λhk u hu=>?_⟩
   rw[CZ,Al]at hk;rcases AH.mp hu with rfl|hu
   .obtain⟨es',ed⟩:=kO hk.1;obtain⟨a,xs,e3,e4,e5,rr⟩:=r1.2 rfl es' ed;obtain⟨i,ys,rfl⟩:=oQ hk.1 ed rr;exact⟨a,i,ys,e3,e4,s2 _ _ e5⟩
   .obtain⟨a,i,xs,e3,e4,e5⟩:=r2.2 hk.2 u hu;exact⟨a,i,xs,e3,s1.free e4,e5⟩⟩
end
section
variable{K:Fg}{CL:ClA}{Fz:Fr}{B N:Ah->Prop}{U:Rho}{Y:L2.St}{H H0:Hp}
theorem Sx.subB(x:Sx K CL Fz (λb=>B b\/N b) U Y H):Sx K CL Fz B U Y H:=by
 have sub:∀ b,Bg B U Y b->Bg (λb=>B b\/N b) U Y b:=λb h=>h.imp .inl id
 refine⟨⟨λi d h=>?_,λi d h hn=>?_,x.len⟩,λa h=>x.aok a (sub a h),λj d a h1 h2=>⟨(x.new j d a h1 h2).1,λz=>(x.new j d a h1 h2).2 (.inl z)⟩,x.dis,x.same,x.len,x.pin⟩
 .obtain⟨v,q,r⟩:=x.good.sh i d h;exact⟨v,q,Rep.sub sub _ r⟩
 .obtain⟨a,xs,ds,q,z,ha,hh,r⟩:=x.good.ow i d h hn;exact⟨a,xs,ds,q,z,.inr ⟨i,d,h,q⟩,hh,Reps.sub sub _ r⟩
theorem Sx.supB(x:Sx K CL Fz B U Y H0)(s:Ay H0 H)(hn:∀ b,N b->H0 b=Ae)(hl:∀ b,N b->∃ xs,H b=Aa (.lst xs)):Sx K CL Fz (λb=>B b\/N b) U Y H:=by
 have sup:∀ b,Bg (λb=>B b\/N b) U Y b->Bg B U Y b\/H0 b=Ae:=λb h=>by
  rcases h with (h|h)|h
  .exact .inl (.inl h)
  .exact .inr (hn b h)
  .exact .inl (.inr h)
 have y:=x.grow s;refine⟨⟨λi d h=>?_,λi d h hk=>?_,x.len⟩,λa h=>?_,λj d a h1 h2=>⟨(x.new j d a h1 h2).1,λz=>z.elim (x.new j d a h1 h2).2 λz=>?_⟩,x.dis,y.same,x.len,y.pin⟩
 .obtain⟨v,q,r⟩:=x.good.sh i d h;exact⟨v,q,(Rep.wide sup _ r).same s⟩
 .obtain⟨a,xs,ds,q,z,ha,hh,r⟩:=x.good.ow i d h hk;exact⟨a,xs,ds,q,z,.inr ⟨i,d,h,q⟩,s _ _ hh,(Reps.wide sup _ r).same s⟩
 .rcases h with (h|h)|h
  .exact y.aok a (.inl h)
  .exact hl a h
  .exact y.aok a (.inr h)
 .obtain⟨xs,q⟩:=x.aok a (.inr ⟨j,d,h1,h2⟩);rw[hn a z]at q;cases q
theorem Sx.drop(x:Sx K CL Fz B U Y H)(i:Af){Y':L2.St}(hl:Y'.length=Y.length)(hs:∀ j,i≠j->Y'[j]?=Y[j]?):Sx K CL Fz B (U.set i Ae) Y' H:=by
 have get:∀(j:Af)(y:D×Ak),(U.set i Ae)[j]?=Aa (Aa y)->i≠j/\U[j]?=Aa (Aa y):=λj y h=>by
  by_cases hj:i=j
  .subst hj;have:=ES h;cases this
  .exact⟨hj,by rw[By hj]at h;exact h⟩
 have sub:∀ a,Bg B (U.set i Ae) Y' a->Bg B U Y a:=λa h=>by
  rcases h with h|⟨j,e,h1,h2⟩
  .exact .inl h
  .obtain⟨hj,h1⟩:=get j _ h1;rw[hs j hj]at h2;exact .inr ⟨j,e,h1,h2⟩
 have hlen:(U.set i Ae).length=Y'.length:=by rw[AM,hl];exact x.len
 refine⟨⟨λj e h=>?_,λj e h hn=>?_,hlen⟩,λa h=>x.aok a (sub a h),λj e a h1 h2=>?_,λj k e f a h1 h2 h3 h4=>?_,x.same,hlen,λj h=>?_⟩
 .obtain⟨hj,h1⟩:=get j _ h;obtain⟨w',q,rw'⟩:=x.good.sh j e h1;exact⟨w',by rw[hs j hj];exact q,Rep.sub sub _ rw'⟩
 .obtain⟨hj,h1⟩:=get j _ h;obtain⟨a,xs,ds,q,z,ha,hh,rr⟩:=x.good.ow j e h1 hn;exact⟨a,xs,ds,by rw[hs j hj];exact q,z,.inr ⟨j,e,h,by rw[hs j hj];exact q⟩,hh,Reps.sub sub _ rr⟩
 .obtain⟨hj,h1⟩:=get j _ h1;rw[hs j hj]at h2;exact x.new j e a h1 h2
 .obtain⟨hj,h1⟩:=get j _ h1;obtain⟨hk,h2⟩:=get k _ h2;rw[hs j hj]at h3;rw[hs k hk]at h4;exact x.dis j k e f a h1 h2 h3 h4
 .obtain⟨hj,h1⟩:=get j _ h;obtain⟨a,xs,p1,p2,p3⟩:=x.pin j h1;exact⟨a,xs,p1,by rw[hs j hj];exact p2,p3⟩
theorem Sx.mut(x:Sx K CL Fz B U Y H){b:Ah}{ys zs:Ac V}(hb:B b)(hf:∀ o,¬ Fz b o)(hh:H b=Aa (.lst ys)):Sx K CL Fz B U Y (L2.upd H b (.lst zs)):=by
 have kp:Kp (Bg B U Y) H (L2.upd H b (.lst zs)):=λc o e na=>by
  rw[Bb (λz=>na (.inl (by rw[z];exact hb)))]
  exact e
 have oth:∀(j:Af)(d:D)(a:Ah),U[j]?=Aa (Aa (d,Ab))->Y[j]?=Aa (Aa (.ref a))->a≠b:=λj d a h1 h2 z=>(x.new j d a h1 h2).2 (by rw[z];exact hb)
 refine⟨⟨λi d h=>?_,λi d h hn=>?_,x.len⟩,λa h=>?_,x.new,x.dis,λc o z=>?_,x.len,λj h=>?_⟩
 .obtain⟨v,q,r⟩:=x.good.sh i d h;exact⟨v,q,Rep.kp kp _ r⟩
 .obtain⟨a,xs,ds,q,z,ha,h2,r⟩:=x.good.ow i d h hn;exact⟨a,xs,ds,q,z,ha,by rw[Bb (oth i d a h q)];exact h2,Reps.kp kp _ r⟩
 .by_cases z:a=b
  .exact⟨zs,by rw[z];exact C8⟩
  .rw[Bb z];exact x.aok a h
 .rw[Bb (λz'=>hf o (by rw[<-z'];exact z))]
  exact x.same c o z
 .obtain⟨a,xs,p1,p2,p3⟩:=x.pin j h;exact⟨a,xs,p1,p2,by rw[Bb (oth j _ a h p2)];exact p3⟩
theorem Te{A:Ah->Prop}(hA:AOk H A):∀{vs:Ac (Ag×V)}{fs:Ac (Ag×D)},(fs.all λf=>nlD 5 f.2)=Ab->Repf K CL H A0 vs fs->Repf K CL H A vs fs
 |[],[],_,_=>trivial
 |_::_,(_,d)::fs,h,r=>by
  rw[CZ,Al]at h;exact⟨⟨r.1.1,MK hA 5 _ h.1 r.1.2⟩,Te hA h.2 r.2⟩
 |[],_::_,_,r=>r.elim
 |_::_,[],_,r=>r.elim
theorem oY(hA:AOk H A){v:V}(ho:MT d=Ab)(r:Rep K CL H A0 v d):Rep K CL H A v d:=by
 cases d with
 |obj c fs=>
  obtain⟨a,C,dx,vs,e,_,hc,s,rf⟩:=r;refine⟨a,C,dx,vs,e,λz=>?_,hc,s,Te hA ho rf⟩
  obtain⟨ys,q⟩:=hA a z;rw[s]at q;cases q
 |_=>cases ho
theorem Td{A:Ah->Prop}(hA:AOk H A):∀{vs:Ac V}{ds:Ac D},ds.all MT=Ab->Reps K CL H A0 vs ds->Reps K CL H A vs ds
 |[],[],_,_=>trivial
 |_::_,d::ds,h,r=>by
  rw[CZ,Al]at h;exact⟨oY hA h.1 r.1,Td hA h.2 r.2⟩
 |[],_::_,_,r=>r.elim
 |_::_,[],_,r=>r.elim
theorem Tw(hA:AOk H A')(hs:∀ b,A' b->A b\/N b)(hN:∀ b,N b->∃ z zs,H b=Aa (.lst (z::zs))/\((∃ i,z=.int i)\/∃ c ws,z=.ref c/\H c=Aa (.lst ws))){v:V}(ho:JN d=Ab)(r:Rep K CL H A v d):Rep K CL H A' v d:=by
 cases d with
 |lst ds=>
  cases ds with
  |nil=>cases ho
  |cons d0 ds=>
   have ho:(d0::ds).all MT=Ab:=ho;obtain⟨q,xs,rfl,na,s,rs⟩:=r;refine⟨q,xs,rfl,?_,s,Td hA ho (Reps.sub (λ_ z=>z.elim) _ rs)⟩
   rcases s with s|s
   .refine na.imp (λna z=>(hs q z).elim na λhn=>?_) id
    obtain⟨z,zs,h1,h2⟩:=hN q hn;have exs:xs=z::zs:=by
     rcases s with s|⟨o,s⟩<;>rw[h1]at s<;>cases s
     rfl
    subst exs;rw[CZ,Al]at ho;have r0:=rs.1;have ho0:=ho.1;cases d0 with
    |obj c fs=>
     obtain⟨a,C,dx,vs,e,_,hc,sa,rf⟩:=r0;rcases h2 with ⟨i,rfl⟩|⟨c,ws,rfl,hw⟩
     .cases e
     .cases e;rw[hw]at sa;cases sa
    |_=>cases ho0
   .exact .inr s
 |_=>cases ho
theorem Ta(h:∀(j:Af)(d:D),U[j]?=Aa (Aa (d,Ab))->U'[j]?=Aa (Aa (d,Ab))):∀ b,Bg (λb=>B b\/N b) U Y b->Bg B U' Y b\/N b:=λb z=>by
 rcases z with (z|z)|⟨j,d,h1,h2⟩
 .exact .inl (.inl z)
 .exact .inr z
 .exact .inl (.inr ⟨j,d,h j d h1,h2⟩)
end
section
variable{X:Cx}{CL:ClA}{W:XW}
theorem Mj{r:R α}{f:α->O}(h:Bw K CL Fz B W (O.of U (noX r) f) D'):∃ d,r=.ok d/\Bw K CL Fz B W (f d) D':=by
 cases r with
 |ok d=>exact⟨d,rfl,h⟩
 |exn y=>exact h.elim
 |bad=>exact h.elim
theorem SE.any{e:Am}{f:Rho->R D}(h:SE X CL W e f):PE X e (λY H Q=>∃ A,AOk H A/\∃ U,Good X.K CL A U Y H/\AS (λH=>Rep X.K CL H A) W H (f U) Q):=λpI s Y H Q I ⟨A,z⟩=>h A pI s Y H Q I z
theorem SB.any{e:Am}{f:Rho->R Ak}(h:SB X CL W e f):PT X e (λY H Q=>∃ A,AOk H A/\∃ U,Good X.K CL A U Y H/\CJ W H (f U) Q):=λpI s Y H Q I ⟨A,z⟩=>h A pI s Y H Q I z
theorem Y_8{i p r n:Af}{es:Ac Am}{e2 e3 c:Am}{tn vi vn:Am}{S1 S2 S3:AG}{bd rest:Ac AG}{lp ap cp q1 q2 q3:AA}{f1:Rho->R (Ac D)}{f2 f3:Rho->R D}{g:Rho->O}(hip:i≠p)(hir:i≠r)(hin:i≠n)(hp:Dz (model X.prog X.w) X.A X.env X.xe)(hc:X.calm=Ab)(h1:NwA X CL W es f1)(hz:∀ U ds,f1 U=.ok ds->ds.length<=100000)(h2:SE X CL W e2 f2)(h3:SE X CL W e3 f3)(h4:SB X CL W c fc)(k1:∀ te,PE X (.List es lp) te->PS X S1 (JK te (Eg i)))(k2:∀ te,PE X e2 te->PS X S2 (JK te (Eg p)))(k3:∀ te,PE X e3 te->PS X S3 (JK te (Eg r)))(hg:PG X tn (Eg n))(hvi:PE X vi (Eu i))(hvn:PE X vn (Eu n))(hset:∀ x,BL vi X.env x=pure x)(hbase:Cd vn "clear" X.env (eval vn X.env)=eval vn X.env)(hline:(ap.endLine==cp.line)=Ab)(hsw:CF (.Call (.Attribute vn "clear" ap) [] [] cp) Ae q1.line X.env=pure Ad)(hr:SSs X CL W rest g):
  SSs X CL W (S1::S2::S3 :: .If c bd [] q2 :: .For tn vi [.Expr (.Call (.Attribute vn "clear" ap) [] [] cp) q1] [] q3::rest) (λU=>(JG f1 f2 f3 fc i p r n U).seq g):=λFz B pI s Y H D I ⟨U,x,q⟩=>by
 have q':Bw X.K CL Fz B W (JG f1 f2 f3 fc i p r n U) {D with nx:=λY H=>∃ U,Sx X.K CL Fz B U Y H/\Bw X.K CL Fz B W (g U) D}:=by
  dsimp only at q;cases e:JG f1 f2 f3 fc i p r n U with
  |next U'=>rw[e]at q;exact λY' H' x'=>⟨U',x',q⟩
  |ret d b=>rw[e]at q;exact q
  |brk U'=>rw[e]at q;exact q
  |cont U'=>rw[e]at q;exact q
  |exn y U'=>rw[e]at q;exact q
  |bad=>rw[e]at q;exact q
 clear q
 unfold JG at q';obtain⟨ds,e1,q'⟩:=Mj q';obtain⟨d2,e2',q'⟩:=Mj q';obtain⟨d3,e3',q'⟩:=Mj q';obtain⟨k,e4',q'⟩:=Mj q';by_cases hok:(!k&&(ds.all JO && !ds.isEmpty&&(JN d2&&JN d3)&&(decide (i<U.length)&&decide (n<U.length))))=Ab
 rotate_left
 .rw[AJ hok]at q';exact q'.elim
 rw[AC hok]at q';simp only[Al,Bm,AD]at hok;obtain⟨hk,⟨⟨hd,hne⟩,hs2,hs3⟩,hil0,hnl0⟩:=hok;subst hk;refine(IV (k1 _ (S7 (h1 (Bg B U Y)))) (IV (k2 _ h2.any) (IV (k3 _ h3.any)
  (IV (Uk (t:=Tr) h4.any YJ Se)
   (IV (O0 (pos:=q3) hp hc (S4 hvi) hg (Ig (Jz (iA Wy PySem.F.slot_list_clear PySem.F.type_list_clear Zu hvn hbase hline) hsw)) hset) (hr Fz B)))))) pI s Y H D I ?_
 -- the first statement
 refine⟨x.aok,U,x.good,?_⟩;rw[e1];intro vs H1 s1 r1;refine⟨by rw[r1.1.length,BZ];have:=hz U ds e1;omega,λa ha=>?_⟩
 have fr:=r1.2 hd;have sm1:Ay H (upd H1 a (.lst vs)):=s1.trans (ET ha _);have x1:=(x.grow sm1).set i (Oq (x.aok.same s1) ha r1.1);have nea:∀ u∈vs,∀ b,u=.ref b->b≠a:=λu hu b eb z=>by
  obtain⟨b',j,ys,eb',_,hb⟩:=fr u hu;rw[eb]at eb';cases eb';rw[z,ha]at hb;cases hb
 -- the second
 refine⟨_,x1.aok,_,x1.good,?_⟩;rw[e2'];intro v2 H2 sm2 r2;have x2:=(x1.grow sm2).set p r2
 -- the third
 refine⟨_,x2.aok,_,x2.good,?_⟩;rw[e3'];intro v3 H3 sm3 r3;have x3:=(x2.grow sm3).set r r3
 -- the test
 refine⟨_,x3.aok,_,x3.good,?_⟩;rw[e4'];intro H4 sm4;show T7 _ _ _
 -- what is known now
 let Nn:Ah->Prop:=λb=>b=a\/.ref b∈vs
 have h4a:H4 a=Aa (.lst vs):=sm4 _ _ (sm3 _ _ (sm2 _ _ C8));have h4b:∀ u∈vs,∃ b j ys,u=.ref b/\H b=Ae/\H4 b=Aa (.lst (.int j::ys)):=λu hu=>by
  obtain⟨b,j,ys,eb,h0,hb⟩:=fr u hu;exact⟨b,j,ys,eb,h0,sm4 _ _ (sm3 _ _ (sm2 _ _ (ET ha _ _ _ hb)))⟩
 have hn0:∀ b,Nn b->H b=Ae:=λb hb=>by
  rcases hb with rfl|hb
  .exact s1.free ha
  .obtain⟨b',j,ys,eb,h0,_⟩:=h4b _ hb;cases eb;exact h0
 have hl4:∀ b,Nn b->∃ xs,H4 b=Aa (.lst xs):=λb hb=>by
  rcases hb with rfl|hb
  .exact⟨vs,h4a⟩
  .obtain⟨b',j,ys,eb,_,hb'⟩:=h4b _ hb;cases eb;exact⟨_,hb'⟩
 have hcont:∀ b,Nn b->∃ z zs,H4 b=Aa (.lst (z::zs))/\((∃ i,z=.int i)\/∃ c ws,z=.ref c/\H4 c=Aa (.lst ws)):=λb hb=>by
  rcases hb with rfl|hb
  .cases vs with
   |nil=>
    cases ds with
    |nil=>cases hne
    |cons d ds=>exact r1.1.elim
   |cons u us=>
    obtain⟨b',j,ys,eb,_,hb'⟩:=h4b u (AO ..);exact⟨u,us,h4a,.inr ⟨b',_,eb,hb'⟩⟩
  .obtain⟨b',j,ys,eb,_,hb'⟩:=h4b _ hb;cases eb;exact⟨_,_,hb',.inl ⟨j,rfl⟩⟩
 have y0:Sx X.K CL Fz (λb=>B b\/Nn b) U Y H4:=x.supB (((sm1.trans sm2).trans sm3).trans sm4) hn0 hl4
 have y1:Sx X.K CL Fz (λb=>B b\/Nn b) (U.set i Ae) (Y.set i (Aa (.ref a))) H4:=y0.drop i (by rw[AM]) λj hj=>By hj
 have y2:=y1.set p (Tw y1.aok (Ta λj d hj=>by
  by_cases z:i=j
  .subst z;have:=ES hj;cases this
  .rw[By z]at hj ⊢;exact hj) hcont hs2 ((r2.same sm3).same sm4))
 have y3:=y2.set r (Tw y2.aok (Ta λj d hj=>by
  by_cases zp:p=j
  .subst zp;have:=ES hj;cases this
  .rw[By zp]at hj ⊢;by_cases z:i=j
   .subst z;have:=ES hj;cases this
   .rw[By z]at hj ⊢;exact hj) hcont hs3 (r3.same sm4))
 have y4:=y3.drop n (Y':=((Y.set i (Aa (.ref a))).set p (Aa v2)).set r (Aa v3)) rfl λ_ _=>rfl
 -- the loop
 have hil:i<Y.length:=by rw[<-x.len];exact hil0
 have hvar:(((Y.set i (Aa (.ref a))).set p (Aa v2)).set r (Aa v3))[i]?=Aa (Aa (.ref a)):=by
  rw[By (Cn hir),By (Cn hip),BO hil]
 refine⟨.ref a,hvar,.inl ⟨a,rfl,vs,SqL.of h4a,λ_=>?_⟩⟩
 refine⟨λk m Y' H'=>m=vs.length-k/\k<=vs.length/\Sx X.K CL Fz (λb=>B b\/Nn b) _ Y' H'/\H' a=Aa (.lst vs)/\∀ u∈vs,∃ b ys,u=.ref b/\H' b=Aa (.lst ys),⟨vs.length,by simp,Dh _,y4,h4a,λu hu=>let ⟨b,j,ys,eb,_,hb⟩:=h4b u hu;⟨b,_,eb,hb⟩⟩,?_⟩
 rintro k m Y' H' ⟨rfl,hk,y',ha',hb'⟩;by_cases hlt:k<vs.length
 .refine .inr ⟨⟨vs,vs[k],SqL.of ha',Bo hlt⟩,λY'' H''=>Sx X.K CL Fz (λb=>B b\/Nn b) _ Y'' H''/\H'' a=Aa (.lst vs)/\∀ u∈vs,∃ b ys,u=.ref b/\H'' b=Aa (.lst ys),λY'' H'' z=>⟨vs.length-(k+1),by omega,rfl,hlt,z⟩,?_⟩
  rintro v H'' ⟨rfl,hy⟩;have ev:=hy vs (SqL.of ha');have hm:v∈vs:=FV ev;obtain⟨b,ys,rfl,hb⟩:=hb' v hm;have hnl:n<Y'.length:=by
   rw[<-y'.len];simp only[AM];exact hnl0
  refine⟨.ref b,BO hnl,.inl ⟨rfl,ys,SqL.of hb⟩,b,ys,rfl,rfl,hb,?_⟩;have y5:=y'.drop n (Y':=Y'.set n (Aa (.ref b))) (by rw[AM]) λj hj=>By hj
  rw[IH]at y5;refine⟨y5.mut (.inr (.inr hm)) (λo z=>?_) hb,?_,λu hu=>?_⟩
  .have:=x.same b o z;rw[hn0 b (.inr hm)]at this;cases this
  .rw[Bb (Cn (nea _ hm b rfl))];exact ha'
  .obtain⟨b2,zs,eb,hb2⟩:=hb' u hu;by_cases z:b2=b
   .exact⟨b2,[],eb,by rw[z];exact C8⟩
   .exact⟨b2,zs,eb,by rw[Bb z];exact hb2⟩
 .exact .inl ⟨⟨vs,SqL.of ha',by omega⟩,q' Y' H' y'.subB⟩
end
theorem noF{P:Prop}(h:Ad=Ab):P:=nomatch h
structure Tc where
 sc:BK
 N:Ac Ag
 /-- a def's name,its number,how many parameters it has -/
 fns:Ac (Ag×Af×Af)
 /-- built-in names that the text does not hide -/
 bl:Ac Ag
 /-- exceptions' classes by their names: those that are raised,all that are asked for -/
 rzs:Ac (Ag×Af)
 exs:Ac (Ag×Af)
 /-- the text's constants -/
 gls:Ac (Ag×Af)
 /-- in no comprehension -/
 tp:Ak
noncomputable def PR(T:Tc)(x:Ag):Ak:=match T.sc.names.lookup x with
  |some .local=>Ab
  |some .cell=>Ab
  |some .free=>Ab
  |_=>Ad
noncomputable def Gk(T:Tc)(x:Ag):Ak:=match T.sc.names.lookup x with
  |some .local=>Ab
  |some .cell=>Ab
  |_=>Ad
noncomputable def glB(T:Tc)(x:Ag):Ak:=T.sc.names.lookup x==Aa .globalImplicit
noncomputable def Fi(x:Ag):Ak:=(!(x==("__debug__" : Ag)) && !(x==("__classdict__" : Ag)) && !(x==("__name__" : Ag)))&&(Fj.lookup x).isNone
noncomputable def isV(T:Tc)(x:Ag)(i:Af):Ak:=T.N[i]? == Aa x&&PR T x&&Fi x
noncomputable def isB(T:Tc)(x:Ag):Ak:=T.bl.contains x&&glB T x&&Fi x
noncomputable def P6(T:Tc)(e:Am)(b:BI)(as:Es):Ak:=match e with
  |.Call (.Attribute (.Name x _) m ap) [.Name y _] [] cp=>decide (b=.index)&&m==("index" : Ag)&&ap.endLine==cp.line&&(match as with | .cons (.var i) (.cons (.var j) .nil)=>isV T x i&&isV T y j|_=>Ad)
  |.Call (.Attribute (.Name x _) m ap) [.Constant .none _ _] [] cp=>decide (b=.index)&&m==("index" : Ag)&&ap.endLine==cp.line&&(match as with | .cons (.var i) (.cons .non .nil)=>isV T x i|_=>Ad)
  |_=>Ad
theorem A7{a b:Ak}(h:(a&&b)=Ab):a=Ab/\b=Ab:=(Al a b).mp h
theorem orT{a b:Ak}(h:(a||b)=Ab):a=Ab\/b=Ab:=(BS a b).mp h
noncomputable def Et(e:Am)(F:Ag->Ak):Ak:=if c:e.ctorIdx=23 then Wm (motive_1:=λ_=>Ak) e c λx _=>F x else Ad
theorem ED{e:Am}{F:Ag->Ak}(h:Et e F=Ab):∃ x p,e=Wl x p/\F x=Ab:=by
 by_cases c:e.ctorIdx=23
 .exact Wm (motive_1:=λe=>Et e F=Ab->∃ x p,e=Wl x p/\F x=Ab) e c (λx p h=>⟨x,p,rfl,h⟩) h
 .exact noF ((BW c).symm.trans h)
noncomputable def GC(e:Am)(F:Const->Ak):Ak:=if c:e.ctorIdx=19 then Wg (motive_1:=λ_=>Ak) e c λc _ _=>F c else Ad
theorem IW{e:Am}{F:Const->Ak}(h:GC e F=Ab):∃ c u p,e=Wf c u p/\F c=Ab:=by
 by_cases c:e.ctorIdx=19
 .exact Wg (motive_1:=λe=>GC e F=Ab->∃ c u p,e=Wf c u p/\F c=Ab) e c (λc u p h=>⟨c,u,p,rfl,h⟩) h
 .exact noF ((BW c).symm.trans h)
noncomputable def MI(e:Am)(F:Am->Fb->Am->Ak):Ak:=if c:e.ctorIdx=2 then V7 (motive_1:=λ_=>Ak) e c λx o y _=>F x o y else Ad
theorem Q7{e:Am}{F:Am->Fb->Am->Ak}(h:MI e F=Ab):∃ x o y p,e=V6 x o y p/\F x o y=Ab:=by
 by_cases c:e.ctorIdx=2
 .exact V7 (motive_1:=λe=>MI e F=Ab->∃ x o y p,e=V6 x o y p/\F x o y=Ab) e c (λx o y p h=>⟨x,o,y,p,rfl,h⟩) h
 .exact noF ((BW c).symm.trans h)
noncomputable def KG(e:Am)(F:JX->Am->Ak):Ak:=if c:e.ctorIdx=3 then Ws (motive_1:=λ_=>Ak) e c λo x _=>F o x else Ad
theorem Oo{e:Am}{F:JX->Am->Ak}(h:KG e F=Ab):∃ o x p,e=Wr o x p/\F o x=Ab:=by
 by_cases c:e.ctorIdx=3
 .exact Ws (motive_1:=λe=>KG e F=Ab->∃ o x p,e=Wr o x p/\F o x=Ab) e c (λo x p h=>⟨o,x,p,rfl,h⟩) h
 .exact noF ((BW c).symm.trans h)
noncomputable def Jh(e:Am)(F:BoolOp->Ac Am->AA->Ak):Ak:=if c:e.ctorIdx=0 then V9 (motive_1:=λ_=>Ak) e c λo xs p=>F o xs p else Ad
theorem Ld{e:Am}{F:BoolOp->Ac Am->AA->Ak}(h:Jh e F=Ab):∃ o xs p,e=V8 o xs p/\F o xs p=Ab:=by
 by_cases c:e.ctorIdx=0
 .exact V9 (motive_1:=λe=>Jh e F=Ab->∃ o xs p,e=V8 o xs p/\F o xs p=Ab) e c (λo xs p h=>⟨o,xs,p,rfl,h⟩) h
 .exact noF ((BW c).symm.trans h)
noncomputable def Kv(e:Am)(F:Am->Ac C4->Ac Am->Ak):Ak:=if c:e.ctorIdx=15 then Wd (motive_1:=λ_=>Ak) e c λx os ys _=>F x os ys else Ad
theorem Od{e:Am}{F:Am->Ac C4->Ac Am->Ak}(h:Kv e F=Ab):∃ x os ys p,e=Wc x os ys p/\F x os ys=Ab:=by
 by_cases c:e.ctorIdx=15
 .exact Wd (motive_1:=λe=>Kv e F=Ab->∃ x os ys p,e=Wc x os ys p/\F x os ys=Ab) e c (λx os ys p h=>⟨x,os,ys,p,rfl,h⟩) h
 .exact noF ((BW c).symm.trans h)
noncomputable def HI(e:Am)(F:Am->Ac Am->Ac D4->AA->Ak):Ak:=if c:e.ctorIdx=16 then Wb (motive_1:=λ_=>Ak) e c λf as ks p=>F f as ks p else Ad
theorem Jv{e:Am}{F:Am->Ac Am->Ac D4->AA->Ak}(h:HI e F=Ab):∃ f as ks p,e=Wa f as ks p/\F f as ks p=Ab:=by
 by_cases c:e.ctorIdx=16
 .exact Wb (motive_1:=λe=>HI e F=Ab->∃ f as ks p,e=Wa f as ks p/\F f as ks p=Ab) e c (λf as ks p h=>⟨f,as,ks,p,rfl,h⟩) h
 .exact noF ((BW c).symm.trans h)
noncomputable def GD(e:Am)(F:Am->Ag->AA->Ak):Ak:=if c:e.ctorIdx=20 then V5 (motive_1:=λ_=>Ak) e c λo m p=>F o m p else Ad
theorem IY{e:Am}{F:Am->Ag->AA->Ak}(h:GD e F=Ab):∃ o m p,e=V4 o m p/\F o m p=Ab:=by
 by_cases c:e.ctorIdx=20
 .exact V5 (motive_1:=λe=>GD e F=Ab->∃ o m p,e=V4 o m p/\F o m p=Ab) e c (λo m p h=>⟨o,m,p,rfl,h⟩) h
 .exact noF ((BW c).symm.trans h)
noncomputable def Pf(e:Am)(F:Am->Am->Ak):Ak:=if c:e.ctorIdx=21 then Wo (motive_1:=λ_=>Ak) e c λx y _=>F x y else Ad
theorem ZS{e:Am}{F:Am->Am->Ak}(h:Pf e F=Ab):∃ x y p,e=Wn x y p/\F x y=Ab:=by
 by_cases c:e.ctorIdx=21
 .exact Wo (motive_1:=λe=>Pf e F=Ab->∃ x y p,e=Wn x y p/\F x y=Ab) e c (λx y p h=>⟨x,y,p,rfl,h⟩) h
 .exact noF ((BW c).symm.trans h)
noncomputable def Jf(e:Am)(F:Ac Am->Ak):Ak:=if c:e.ctorIdx=25 then Wq (motive_1:=λ_=>Ak) e c λxs _ _=>F xs else Ad
theorem Kb{e:Am}{F:Ac Am->Ak}(h:Jf e F=Ab):∃ xs c p,e=Wp xs c p/\F xs=Ab:=by
 by_cases c:e.ctorIdx=25
 .exact Wq (motive_1:=λe=>Jf e F=Ab->∃ xs c p,e=Wp xs c p/\F xs=Ab) e c (λxs c p h=>⟨xs,c,p,rfl,h⟩) h
 .exact noF ((BW c).symm.trans h)
noncomputable def Lw(e:Am)(F:Ac Am->Ak):Ak:=if c:e.ctorIdx=24 then Wi (motive_1:=λ_=>Ak) e c λxs _=>F xs else Ad
theorem L7{e:Am}{F:Ac Am->Ak}(h:Lw e F=Ab):∃ xs p,e=Wh xs p/\F xs=Ab:=by
 by_cases c:e.ctorIdx=24
 .exact Wi (motive_1:=λe=>Lw e F=Ab->∃ xs p,e=Wh xs p/\F xs=Ab) e c (λxs p h=>⟨xs,p,rfl,h⟩) h
 .exact noF ((BW c).symm.trans h)
noncomputable def Pi(e:Am)(F:Am->Ac Iz->BK->Ak):Ak:=if c:e.ctorIdx=8 then Wk (motive_1:=λ_=>Ak) e c λx gs sc _=>F x gs sc else Ad
theorem ZV{e:Am}{F:Am->Ac Iz->BK->Ak}(h:Pi e F=Ab):∃ x gs sc p,e=Wj x gs sc p/\F x gs sc=Ab:=by
 by_cases c:e.ctorIdx=8
 .exact Wk (motive_1:=λe=>Pi e F=Ab->∃ x gs sc p,e=Wj x gs sc p/\F x gs sc=Ab) e c (λx gs sc p h=>⟨x,gs,sc,p,rfl,h⟩) h
 .exact noF ((BW c).symm.trans h)
noncomputable def Pj(e:AG)(F:Ac Am->Am->Ak):Ak:=if c:e.ctorIdx=5 then WR (motive_2:=λ_=>Ak) e c λts v _=>F ts v else Ad
theorem ZZ{e:AG}{F:Ac Am->Am->Ak}(h:Pj e F=Ab):∃ ts v p,e=WQ ts v p/\F ts v=Ab:=by
 by_cases c:e.ctorIdx=5
 .exact WR (motive_2:=λe=>Pj e F=Ab->∃ ts v p,e=WQ ts v p/\F ts v=Ab) e c (λts v p h=>⟨ts,v,p,rfl,h⟩) h
 .exact noF ((BW c).symm.trans h)
noncomputable def Jg(e:AG)(F:Am->Ak):Ak:=if c:e.ctorIdx=24 then WT (motive_2:=λ_=>Ak) e c λv _=>F v else Ad
theorem L9{e:AG}{F:Am->Ak}(h:Jg e F=Ab):∃ v p,e=WS v p/\F v=Ab:=by
 by_cases c:e.ctorIdx=24
 .exact WT (motive_2:=λe=>Jg e F=Ab->∃ v p,e=WS v p/\F v=Ab) e c (λv p h=>⟨v,p,rfl,h⟩) h
 .exact noF ((BW c).symm.trans h)
noncomputable def MD(e:AG)(F:An Am->Ak):Ak:=if c:e.ctorIdx=3 then WZ (motive_2:=λ_=>Ak) e c λo _=>F o else Ad
theorem Q5{e:AG}{F:An Am->Ak}(h:MD e F=Ab):∃ o p,e=WY o p/\F o=Ab:=by
 by_cases c:e.ctorIdx=3
 .exact WZ (motive_2:=λe=>MD e F=Ab->∃ o p,e=WY o p/\F o=Ab) e c (λo p h=>⟨o,p,rfl,h⟩) h
 .exact noF ((BW c).symm.trans h)
noncomputable def LH(e:AG)(F:Am->Ac AG->Ac AG->Ak):Ak:=if c:e.ctorIdx=12 then WV (motive_2:=λ_=>Ak) e c λt xs ys _=>F t xs ys else Ad
theorem Op{e:AG}{F:Am->Ac AG->Ac AG->Ak}(h:LH e F=Ab):∃ t xs ys p,e=Stmt.If t xs ys p/\F t xs ys=Ab:=by
 by_cases c:e.ctorIdx=12
 .exact WV (motive_2:=λe=>LH e F=Ab->∃ t xs ys p,e=Stmt.If t xs ys p/\F t xs ys=Ab) e c (λt xs ys p h=>⟨t,xs,ys,p,rfl,h⟩) h
 .exact noF ((BW c).symm.trans h)
noncomputable def Ku(e:AG)(F:Am->Am->Ac AG->Ac AG->Ak):Ak:=if c:e.ctorIdx=9 then WU (motive_2:=λ_=>Ak) e c λt it xs ys _=>F t it xs ys else Ad
theorem L8{e:AG}{F:Am->Am->Ac AG->Ac AG->Ak}(h:Ku e F=Ab):∃ t it xs ys p,e=Stmt.For t it xs ys p/\F t it xs ys=Ab:=by
 by_cases c:e.ctorIdx=9
 .exact WU (motive_2:=λe=>Ku e F=Ab->∃ t it xs ys p,e=Stmt.For t it xs ys p/\F t it xs ys=Ab) e c (λt it xs ys p h=>⟨t,it,xs,ys,p,rfl,h⟩) h
 .exact noF ((BW c).symm.trans h)
noncomputable def ME(e:AG)(F:An Am->An Am->Ak):Ak:=if c:e.ctorIdx=16 then WX (motive_2:=λ_=>Ak) e c λa b _=>F a b else Ad
theorem ZT{e:AG}{F:An Am->An Am->Ak}(h:ME e F=Ab):∃ a b p,e=WW a b p/\F a b=Ab:=by
 by_cases c:e.ctorIdx=16
 .exact WX (motive_2:=λe=>ME e F=Ab->∃ a b p,e=WW a b p/\F a b=Ab) e c (λa b p h=>⟨a,b,p,rfl,h⟩) h
 .exact noF ((BW c).symm.trans h)
noncomputable def Ii{α:Type}:Ac α->(α->Ac α->Ak)->Ak
 |[],_=>Ad
 |x::xs,F=>F x xs
theorem IU{l:Ac α}{F:α->Ac α->Ak}(h:Ii l F=Ab):∃ x xs,l=x::xs/\F x xs=Ab:=by
 cases l with
 |nil=>exact noF h
 |cons x xs=>exact⟨x,xs,rfl,h⟩
theorem EC{l:Ac α}(h:l.isEmpty=Ab):l=[]:=List.isEmpty_iff.mp h
noncomputable def D2{α:Type}(l:Ac α)(F:α->Ak):Ak:=Ii l λx r=>r.isEmpty&&F x
theorem EU{l:Ac α}{F:α->Ak}(h:D2 l F=Ab):∃ x,l=[x]/\F x=Ab:=by
 obtain⟨x,r,rfl,h⟩:=IU h;obtain⟨h1,h2⟩:=A7 h;exact⟨x,by rw[EC h1],h2⟩
noncomputable def GB{α:Type}(l:Ac α)(F:α->α->Ak):Ak:=Ii l λx r=>D2 r λy=>F x y
theorem Ie{l:Ac α}{F:α->α->Ak}(h:GB l F=Ab):∃ x y,l=[x,y]/\F x y=Ab:=by
 obtain⟨x,r,rfl,h⟩:=IU h;obtain⟨y,rfl,h⟩:=EU h;exact⟨x,y,rfl,h⟩
noncomputable def Iq(e:Am)(F:Ag->Ac Am->Ak):Ak:=HI e λf as ks _=>Et f λg=>ks.isEmpty&&F g as
theorem IX{e:Am}{F:Ag->Ac Am->Ak}(h:Iq e F=Ab):∃ g p as q,e=.Call (.Name g p) as [] q/\F g as=Ab:=by
 obtain⟨f,as,ks,q,rfl,h⟩:=Jv h;obtain⟨g,p,rfl,h⟩:=ED h;obtain⟨h1,h2⟩:=A7 h;exact⟨g,p,as,q,by rw[EC h1],h2⟩
noncomputable def JC(e:Am)(F:Ag->Am->Ac Am->Ak):Ak:=Iq e λg l=>Ii l λx xs=>F g x xs
theorem Ia{e:Am}{F:Ag->Am->Ac Am->Ak}(h:JC e F=Ab):∃ g p x xs q,e=.Call (.Name g p) (x::xs) [] q/\F g x xs=Ab:=by
 obtain⟨g,p,as,q,rfl,h⟩:=IX h;obtain⟨x,xs,rfl,h⟩:=IU h;exact⟨g,p,x,xs,q,rfl,h⟩
noncomputable def Ud(st:AG)(F:Ag->Ag->Ac Am->Ak):Ak:=Jg st λe=>HI e λf as ks cp=>GD f λo m ap=>Et o λx=>ks.isEmpty&&(ap.endLine==cp.line&&F x m as)
theorem ZU{st:AG}{F:Ag->Ag->Ac Am->Ak}(h:Ud st F=Ab):∃ x p m ap as cp q,st=.Expr (.Call (.Attribute (.Name x p) m ap) as [] cp) q/\ap.endLine=cp.line/\F x m as=Ab:=by
 obtain⟨e,q,rfl,h⟩:=L9 h;obtain⟨f,as,ks,cp,rfl,h⟩:=Jv h;obtain⟨o,m,ap,rfl,h⟩:=IY h;obtain⟨x,p,rfl,h⟩:=ED h;obtain⟨h1,h⟩:=A7 h;obtain⟨h2,h3⟩:=A7 h;exact⟨x,p,m,ap,as,cp,q,by rw[EC h1],eq_of_beq h2,h3⟩
noncomputable def Ue(st:AG)(F:Am->Am->Ak):Ak:=Pj st λts v=>D2 ts λt=>F t v
theorem Z_0{st:AG}{F:Am->Am->Ak}(h:Ue st F=Ab):∃ t v q,st=.Assign [t] v q/\F t v=Ab:=by
 obtain⟨ts,v,q,rfl,h⟩:=ZZ h;obtain⟨t,rfl,h⟩:=EU h;exact⟨t,v,q,rfl,h⟩
noncomputable def Ji(st:AG)(F:Ag->Am->Ak):Ak:=Ue st λt v=>Et t λx=>F x v
theorem Kc{st:AG}{F:Ag->Am->Ak}(h:Ji st F=Ab):∃ x p v q,st=.Assign [.Name x p] v q/\F x v=Ab:=by
 obtain⟨t,v,q,rfl,h⟩:=Z_0 h;obtain⟨x,p,rfl,h⟩:=ED h;exact⟨x,p,v,q,rfl,h⟩
noncomputable def P7(e:Am)(F:Am->Am->Am->Ac Am->BK->Ak):Ak:=Pi e λx gs sc=>D2 gs λg=>decide (g.is_async=0)&&F x g.target g.iter g.ifs sc
theorem RV{e:Am}{F:Am->Am->Am->Ac Am->BK->Ak}(h:P7 e F=Ab):∃ x t it ifs sc p,e=.ListComp x [⟨t,it,ifs,0⟩] sc p/\F x t it ifs sc=Ab:=by
 obtain⟨x,gs,sc,p,rfl,h⟩:=ZV h;obtain⟨g,rfl,h⟩:=EU h;obtain⟨t,it,ifs,a⟩:=g;obtain⟨h1,h2⟩:=A7 h;have h1:a=0:=AQ h1;subst h1;exact⟨x,t,it,ifs,sc,p,rfl,h2⟩
noncomputable def MP(e:E)(F:E->Ak):Ak:=if c:e.ctorIdx=8 then E.no.elim (motive_1:=λ_=>Ak) e c F else Ad
theorem cK{e:E}{F:E->Ak}(h:MP e F=Ab):∃ a,e=E.no a/\F a=Ab:=by
 by_cases c:e.ctorIdx=8
 .exact E.no.elim (motive_1:=λe=>MP e F=Ab->∃ a,e=E.no a/\F a=Ab) e c (λa h=>⟨a,rfl,h⟩) h
 .exact noF ((BW c).symm.trans h)
noncomputable def MJ(e:E)(F:Es->Ak):Ak:=if c:e.ctorIdx=9 then E.and.elim (motive_1:=λ_=>Ak) e c F else Ad
theorem Z_1{e:E}{F:Es->Ak}(h:MJ e F=Ab):∃ es,e=E.and es/\F es=Ab:=by
 by_cases c:e.ctorIdx=9
 .exact E.and.elim (motive_1:=λe=>MJ e F=Ab->∃ es,e=E.and es/\F es=Ab) e c (λes h=>⟨es,rfl,h⟩) h
 .exact noF ((BW c).symm.trans h)
noncomputable def MO(e:E)(F:Es->Ak):Ak:=if c:e.ctorIdx=10 then E.or.elim (motive_1:=λ_=>Ak) e c F else Ad
theorem cJ{e:E}{F:Es->Ak}(h:MO e F=Ab):∃ es,e=E.or es/\F es=Ab:=by
 by_cases c:e.ctorIdx=10
 .exact E.or.elim (motive_1:=λe=>MO e F=Ab->∃ es,e=E.or es/\F es=Ab) e c (λes h=>⟨es,rfl,h⟩) h
 .exact noF ((BW c).symm.trans h)
noncomputable def MF(e:E)(F:C4->E->E->Ak):Ak:=if c:e.ctorIdx=11 then E.cmp.elim (motive_1:=λ_=>Ak) e c F else Ad
theorem ZW{e:E}{F:C4->E->E->Ak}(h:MF e F=Ab):∃ o a b,e=E.cmp o a b/\F o a b=Ab:=by
 by_cases c:e.ctorIdx=11
 .exact E.cmp.elim (motive_1:=λe=>MF e F=Ab->∃ o a b,e=E.cmp o a b/\F o a b=Ab) e c (λo a b h=>⟨o,a,b,rfl,h⟩) h
 .exact noF ((BW c).symm.trans h)
noncomputable def MG(e:E)(F:C4->C4->E->E->E->Ak):Ak:=if c:e.ctorIdx=12 then E.cmp2.elim (motive_1:=λ_=>Ak) e c F else Ad
theorem ZX{e:E}{F:C4->C4->E->E->E->Ak}(h:MG e F=Ab):∃ o q a b c,e=E.cmp2 o q a b c/\F o q a b c=Ab:=by
 by_cases c:e.ctorIdx=12
 .exact E.cmp2.elim (motive_1:=λe=>MG e F=Ab->∃ o q a b c,e=E.cmp2 o q a b c/\F o q a b c=Ab) e c (λo q a b c h=>⟨o,q,a,b,c,rfl,h⟩) h
 .exact noF ((BW c).symm.trans h)
noncomputable def MH(e:E)(F:BI->Es->Ak):Ak:=if c:e.ctorIdx=15 then E.bi.elim (motive_1:=λ_=>Ak) e c F else Ad
theorem ZY{e:E}{F:BI->Es->Ak}(h:MH e F=Ab):∃ b as,e=E.bi b as/\F b as=Ab:=by
 by_cases c:e.ctorIdx=15
 .exact E.bi.elim (motive_1:=λe=>MH e F=Ab->∃ b as,e=E.bi b as/\F b as=Ab) e c (λb as h=>⟨b,as,rfl,h⟩) h
 .exact noF ((BW c).symm.trans h)
noncomputable def P8(e:E)(F:Ak->Ak):Ak:=if c:e.ctorIdx=1 then E.bl.elim (motive_1:=λ_=>Ak) e c F else Ad
theorem cM{e:E}{F:Ak->Ak}(h:P8 e F=Ab):∃ b,e=E.bl b/\F b=Ab:=by
 by_cases c:e.ctorIdx=1
 .exact E.bl.elim (motive_1:=λe=>P8 e F=Ab->∃ b,e=E.bl b/\F b=Ab) e c (λb h=>⟨b,rfl,h⟩) h
 .exact noF ((BW c).symm.trans h)
noncomputable def Lz(e:E)(F:Af->Ak):Ak:=if c:e.ctorIdx=4 then E.var.elim (motive_1:=λ_=>Ak) e c F else Ad
theorem Oc{e:E}{F:Af->Ak}(h:Lz e F=Ab):∃ i,e=E.var i/\F i=Ab:=by
 by_cases c:e.ctorIdx=4
 .exact E.var.elim (motive_1:=λe=>Lz e F=Ab->∃ i,e=E.var i/\F i=Ab) e c (λi h=>⟨i,rfl,h⟩) h
 .exact noF ((BW c).symm.trans h)
noncomputable def Kw(e:E)(F:Af->Es->Ak):Ak:=if c:e.ctorIdx=14 then E.call.elim (motive_1:=λ_=>Ak) e c F else Ad
theorem Q6{e:E}{F:Af->Es->Ak}(h:Kw e F=Ab):∃ f as,e=E.call f as/\F f as=Ab:=by
 by_cases c:e.ctorIdx=14
 .exact E.call.elim (motive_1:=λe=>Kw e F=Ab->∃ f as,e=E.call f as/\F f as=Ab) e c (λf as h=>⟨f,as,rfl,h⟩) h
 .exact noF ((BW c).symm.trans h)
noncomputable def Mx(e:E):Ak:=decide (e.ctorIdx=0)
theorem Zz{e:E}(h:Mx e=Ab):e=.non:=E.non.elim (motive_1:=λe=>e=.non) e (AQ h) rfl
noncomputable def Dt:Am->Ak
 |.Starred _ _=>Ad
 |_=>Ab
noncomputable def RY:Am->Ak
 |.Slice _ _ _ _=>Ad
 |_=>Ab
noncomputable def Ky:Am->Ak
 |.Set _ _ _=>Ad
 |_=>Ab
noncomputable def Gg:Am->Ak
 |.ListComp _ _ _ _=>Ad
 |.SetComp _ _ _ _=>Ad
 |.DictComp _ _ _ _ _=>Ad
 |_=>Ab
noncomputable def UZ(tu:Ak):Am->Ak
 |.Tuple ..=>tu
 |.Name ..=>!tu
 |_=>Ad
noncomputable def oF:Am->Ak
 |.Tuple _ _ _=>Ab
 |_=>Ad
noncomputable def LU:Am->Ak
 |.UnaryOp _ _ _=>Ad
 |.BoolOp _ _ _=>Ad
 |.IfExp _ _ _ _=>Ad
 |.Compare _ _ _ _=>Ad
 |_=>Ab
noncomputable def Pl:Ki->An Ag
 |.int=>Aa "int"
 |.bool=>Aa "bool"
 |.str=>Aa "str"
 |.list=>Aa "list"
 |.tuple=>Aa "tuple"
 |_=>Ae
noncomputable def Po:BI->An Ag
 |.len=>Aa "len"
 |.abs=>Ae
 |.max=>Ae
 |.min=>Ae
 |.int=>Ae
 |.list=>Aa "list"
 |.tuple=>Aa "tuple"
 |.all=>Aa "all"
 |.any=>Ae
 |.sum=>Ae
 |.sorted=>Ae
 |.str=>Aa "str"
 |.tmin=>Ae
 |.tmax=>Ae
 |_=>Ae
noncomputable def Pa(o scope:BK):BK:={scope with names:=scope.names.map λ(n,k)=>if (k==.free&&o.kind==.function&&o.names.lookup n==Aa .cell) then (n,.cell) else (n,k)}
noncomputable def JL:Ac Af->Ac Ag->Ac Ag->Ac Ag
 |t::ts,x::xs,N=>JL ts xs ((N.map λy=>if y==x then N.getD t x else y).set t x)
 |_,_,N=>N
noncomputable def Kl:Ac Ag->Ak
 |[]=>Ab
 |x::xs=>!xs.contains x&&Kl xs
noncomputable def LL(T:Tc)(scope:BK)(ts:Ac Af)(N':Ac Ag):Ak:=
  scope.kind==.function&&scope.names.all (λy=>scope.names.lookup y.1==Aa y.2) &&
  scope.names.all (λy=>y.2 != .free||T.sc.names.lookup y.1==Aa .cell||T.sc.names.lookup y.1==Aa .free) &&
  N'.length==T.N.length&&Kl N' &&
  (Di N'.length).all λi=>ts.contains i||(match N'[i]? with
    |some x=>(scope.names.lookup x != Aa .local&&scope.names.lookup x != Aa .cell)&&(scope.names.lookup x != Aa .free||T.N[i]? == Aa x)
    | none=>Ab)
noncomputable def Fw:Ac Am->An (Ac Ag)
 |[]=>Aa []
 |.Name x _::r=>(Fw r).map (x :: ·)
 |_=>Ae
noncomputable def tgN(ys:Ac Am):Ac Ag:=(Fw ys).getD []
noncomputable def tgB(T:Tc):Ac Af->Ac Ag->Ak
 |[],[]=>Ab
 |t::ts,x::xs=>T.N[t]? == Aa x&&T.sc.names.lookup x==Aa .local&&tgB T ts xs
 |_,_=>Ad
noncomputable def tgO(T:Tc)(scope:BK)(t:Af)(x:Ag):Ak:=T.N[t]? == Aa x&&(T.sc.names.lookup x==Aa .local||(T.sc.names.lookup x==Aa .cell&&scope.names.lookup x==Aa .cell))
noncomputable def tgC(T:Tc):Ac Af->Ac Ag->Ak
 |[],[]=>Ab
 |t::ts,x::xs=>T.N[t]? == Aa x&&Gk T x&&tgC T ts xs
 |_,_=>Ad
noncomputable def Tc.blk(T:Tc)(scope:BK)(ts:Ac Af)(xs:Ac Ag):Tc:={T with sc:=Pa T.sc scope,N:=JL ts xs T.N,tp:=Ad}
noncomputable def pU(f:Ag):Ak:=(f==("triple" : Ag)||(f==("points" : Ag)||f==("row" : Ag)))
noncomputable def Jk:Am->Ak
 |.Call _ [] _ _=>Ad
 |_=>Ab
theorem Kh{o:Am}{f:Ag}{w:F0 Aj}(h:Jk o=Ab):Cd o f env w=w:=by
 cases o with
 |Call g as ks p=>
  cases as with
  |nil=>cases h
  |cons=>cases g<;>rfl
 |_=>rfl
noncomputable def P9:E->Ak
 |.lst _=>Ab
 |.comp _ _ _ _=>Ab
 |.compT _ _ _ _=>Ab
 |.bin .Add _ _=>Ab
 |.bi .list _=>Ab
 |.sl _ _ _=>Ab
 |_=>Ad
theorem cQ(Z:Gam){e:E}(h:P9 e=Ab):Ew Z e=Ab:=by
 unfold P9 at h;split at h<;>first|rfl|cases h
noncomputable def inX(l:Ac (Ag×Af))(g:Ag)(c:Af):Ak:=l.any λp=>p.1==g&&p.2==c
noncomputable def ocB(T:Tc)(t:Ag)(k:Af):Ak:=t==MQ k&&decide (k<3)&&glB T t&&Fi t
noncomputable def qE(T:Tc)(t:Ag):Ki->Ak
 |.verr=>t==("ValueError" : Ag)&&isB T t
 |.cls c=>inX T.exs t c&&glB T t&&Fi t
 |_=>Ad
noncomputable def Vh:Am->An (Am×Am×AA)
  | .Compare x ops ys p=>(match ops with
    | [.Lt]=>(match ys with
      |[y]=>Aa (x,y,p)
      | _=>Ae)
    | _=>Ae)
  |_=>Ae
noncomputable def Pu(_:Es):An (E×E):=Ae
noncomputable def PZ(_:Tc)(_:Tc->Am->E->Ak)(_:Am)(_:Ac C4)(_:Ac Am)(_:BI)(_:Es):Ak:=Ad
noncomputable def Vd(T:Tc)(e:Am)(b:BI)(as:Es):Ak:=Ad
noncomputable def SU:Am->An (Ag×AA)
 |.Name x p=>Aa (x,p)
 |_=>Ae
noncomputable def SV:Am->An (Am×Ac Am×Ac D4×AA)
 |.Call f as ks p=>Aa (f,as,ks,p)
 |_=>Ae
noncomputable def pN:Am->An (Ac Am×Af×AA)
 |.Tuple es k p=>Aa (es,k,p)
 |_=>Ae
noncomputable def one{α:Type}:Ac α->An α
 |[a]=>Aa a
 |_=>Ae
noncomputable def Ve(e:Am):An (Ag×Ag×Ac Am):=(SV e).bind λc=>(SU c.1).bind λg=>(one c.2.1).bind λa=>(SV a).bind λd=>(SU d.1).bind λh=>if (c.2.2.1.isEmpty&&d.2.2.1.isEmpty)=Ab then Aa (g.1,h.1,d.2.1) else Ae
noncomputable def UU(e:Am):An (Ag×Ag×Am×Am):=match Ve e with
  | some (g,h,bs)=>(match bs with
    |[x,y]=>Aa (g,h,x,y)
    | _=>Ae)
  |none=>Ae
noncomputable def Pz(_:Es):An (E×E):=Ae
noncomputable def UT(e:Am):An (Ag×Ag×Am):=match Ve e with
  | some (g,h,bs)=>(match bs with
    |[x]=>Aa (g,h,x)
    | _=>Ae)
  |none=>Ae
noncomputable def M2:Es->An (Ag×E)
  | .cons a r=>(match a with
    | .str s=>(match r with
      | .cons b r'=>(match r' with
        | .nil=>(match b with
          |.var _=>Ae
          | b=>Aa (s,b))
        | _=>Ae)
      | _=>Ae)
    | _=>Ae)
  |.nil=>Ae
theorem eJ{s:Ag}{a:E}(q:M2 as=Aa (s,a)):as=.cons (.str s) (.cons a .nil)/\∀ U r,top U a r=r:=by
 cases as with
 |nil=>cases q
 |cons a r=>
  cases a with
  |str s=>
   cases r with
   |nil=>cases q
   |cons b r'=>
    cases r' with
    |nil=>cases b<;>first|(cases q;exact⟨rfl,λ_ _=>rfl⟩)|cases q
    |cons=>cases q
  |_=>cases q
noncomputable def M1:Es->An (E×Ag)
  | .cons a r=>(match r with
    | .cons b r'=>(match b with
      | .str y=>(match r' with
        |.nil=>Aa (a,y)
        | _=>Ae)
      | _=>Ae)
    | _=>Ae)
  |.nil=>Ae
theorem eI{s:Ag}{a:E}(q:M1 as=Aa (a,s)):as=.cons a (.cons (.str s) .nil):=by
 cases as with
 |nil=>cases q
 |cons a r=>
  cases r with
  |nil=>cases q
  |cons b r'=>
   cases b with
   |str s=>
    cases r' with
    |nil=>cases q;rfl
    |cons=>cases q
   |_=>cases q
noncomputable def Pw(_:Es):An E:=Ae
noncomputable def two(e:Am):An (Am×Am):=(pN e).bind λt=>match t.1 with
  |[a,b]=>Aa (a,b)
  |_=>Ae
noncomputable def Qb(_:Es):An E:=Ae
noncomputable def U_5(_:Am):An Am:=Ae
noncomputable def U_1:Am->An (Am×Ai)
  | .Subscript v s _=>(match s with
    | .Slice lo hi st _=>(match lo with
      | some (.Constant (.int k) _ _)=>(match hi with
        | none=>(match st with
          |some (.Constant (.int j) _ _)=>if j=2 then Aa (v,k) else Ae
          | _=>Ae)
        | some _=>Ae)
      | _=>Ae)
    | _=>Ae)
  |_=>Ae
noncomputable def Pv(_:Es):An (E×Ai):=Ae
mutual
noncomputable def A8:Af->Tc->Am->E->Ak
  |0,_,_,_=>Ad
  |n+1,T,e,c=>match c with
    |.non=>GC e λc=>decide (c=.none)
    |.bl b=>GC e λc=>decide (c=.bool b)
    |.int i=>GC e λc=>decide (c=.int i)
    |.str x=>GC e λc=>decide (c=.str x)
    |.var i=>Et e λx=>isV T x i
    |.glob g=>Ad
    |.bin op a b=>MI e λx op' y=>decide (op'=op)&&A8 n T x a&&A8 n T y b
    |.un op a=>Ad
    |.no a=>KG e λo x=>decide (o=.Not)&&A8 n T x a
    |.and es=>Jh e λo xs _=>decide (o=.And)&&(chkEs n T xs es && !xs.isEmpty)
    |.or es=>Jh e λo xs _=>decide (o=.Or)&&(chkEs n T xs es && !xs.isEmpty)
    |.cmp op a b=>Kv e λx os ys=>D2 os λop'=>D2 ys λy=>decide (op'=op) && !behindInMarks op y&&A8 n T x a&&A8 n T y b
    |.cmp2 op1 op2 a b c=>Kv e λx os ys=>GB os λo1 o2=>GB ys λy z=>decide (o1=op1)&&decide (o2=op2) && !lastMarks [op1,op2] [y,z]&&A8 n T x a&&A8 n T y b&&A8 n T z c
    |.ite c a b=>Ad
    |.call f as=>JC e λg x xs=>(T.fns.any λp=>p.1==g&&p.2.1==f&&p.2.2==xs.length+1)&&decide (xs.length<900)&&glB T g&&Fi g&&chkEs n T (x::xs) as
    |.bi b as=>(JC e λg x xs=>Po b==Aa g&&isB T g&&chkEs n T (x::xs) as)||(Vd T e b as||P6 T e b as)||(match Pz as with|some (a,c)=>(match UU e with|some (g,h,x,y)=>decide (b=.list)&&g==("list" : Ag)&&h==("range" : Ag)&&isB T g&&isB T h&&Dt x&&Dt y&&A8 n T x a&&A8 n T y c|none=>Ad)|none=>Ad)||(match Pv as with|some (a,k)=>(match U_1 e with|some (x,j)=>decide (b=.stp)&&decide (j=k)&&decide (0<=k)&&A8 n T x a|none=>Ad)|none=>Ad)||(match Pw as with|some a=>(match UT e with|some (g,h,x)=>decide (b=.lset)&&g==("len" : Ag)&&h==("set" : Ag)&&isB T g&&isB T h&&Dt x&&A8 n T x a|none=>Ad)|none=>Ad)||(match Pu as with|some (a,c)=>(match Vh e with|some (x,y,_)=>decide (b=.tlt) && !behindInMarks .Lt y&&A8 n T x a&&A8 n T y c|none=>Ad)|none=>Ad)||(match M2 as with|some (s,a)=>HI e λf l ks cp=>ks.isEmpty&&(GD f λo m ap=>m==("join" : Ag)&&ap.endLine==cp.line&&(GC o λc=>decide (c=.str s)&&decide (b=.sjoin)&&(D2 l λy=>Dt y&&A8 n T y a)))|none=>Ad)||(match M1 as with|some (a,s)=>HI e λf l ks cp=>ks.isEmpty&&(GD f λo m ap=>m==("split" : Ag)&&ap.endLine==cp.line&&Jk o&&A8 n T o a&&(D2 l λy=>GC y λc=>decide (c=.str s)&&decide (b=.ssplit)))|none=>Ad)||(match Qb as with|some a=>(match U_5 e with|some x=>decide (b=.rvs)&&A8 n T x a|none=>Ad)|none=>Ad)
    |.isi a ks=>(D2 ks λk=>Iq e λg l=>GB l λx t=>Et t λt=>g==("isinstance" : Ag)&&isB T g&&Pl k==Aa t&&isB T t&&Dt x&&A8 n T x a)||(D2 ks λk=>Iq e λg l=>GB l λx t=>Et t λt=>g==("isinstance" : Ag)&&isB T g&&Dt x&&A8 n T x a&&qE T t k)
    |.idx a i=>Pf e λx y=>RY y&&A8 n T x a&&A8 n T y i
    |.sl a lo hi=>Ad
    |.tup es=>Jf e λxs=>chkEs n T xs es&&decide (xs.length<=1000)
    |.lst es=>Lw e λxs=>chkEs n T xs es&&decide (xs.length<=1000)
    |.comp elt t it c=>P7 e λx tg iter ifs scope=>Et tg λy=>chkI n T Ad iter it&&Ky iter&&LL T scope [t] (JL [t] [y] T.N)&&tgO (T.blk scope [t] [y]) scope t y&&chkT n (T.blk scope [t] [y]) ifs c&&A8 n (T.blk scope [t] [y]) x elt
    |.compT elt ts it c=>Ad
    |.tupI _=>Ad
    |.dnew=>Ad
    |.fld o f=>GD e λw g _=>g==f&&pU f&&Jk w&&A8 n T w o
    |.ofl o f=>GD e λw g _=>g==f&&(f==("triple" : Ag)||f==("p" : Ag))&&Jk w&&A8 n T w o
    |.iso a k=>Iq e λg l=>GB l λx t=>Et t λt=>g==("isinstance" : Ag)&&isB T g&&Dt x&&A8 n T x a&&ocB T t k
    |.meth m ms o=>HI e λf l ks cp=>ks.isEmpty&&(l.isEmpty&&(GD f λw g ap=>g==m&&(m==("told" : Ag)||m==("shown" : Ag))&&ap.endLine==cp.line&&Jk w&&A8 n T w o&&ms.all λq=>T.fns.any λp=>(Fj.lookup p.1==Aa (q.1,m))&&p.2.1==q.2&&p.2.2==1))
    |.mkob _ _=>Ad
    |.methA m ms o a=>HI e λf l ks cp=>ks.isEmpty&&(D2 l λy=>GD f λw g ap=>g==m&&(m==("across" : Ag)||m==("meets" : Ag))&&ap.endLine==cp.line&&Jk w&&A8 n T w o&&Dt y&&A8 n T y a&&ms.all λq=>(q.1==0)==Ad&&T.fns.any λp=>(Fj.lookup p.1==Aa (q.1,m))&&p.2.1==q.2&&p.2.2==2)
    |.mkn c as=>JC e λg x xs=>ocB T g c&&xs.length==1&&chkEs n T (x::xs) as
    |.mkx c as=>T.tp&&(JC e λg x xs=>inX T.rzs g c&&glB T g&&Fi g&&decide (xs.length<=1000)&&chkEs n T (x::xs) as)
noncomputable def Hi:Af->Tc->Am->E->Ak
 |0,_,_,_=>Ad
 |n+1,T,e,c=>(KG e λo x=>decide (o=.Not)&&(MP c λa=>Hi n T x a)) ||
  (Jh e λo xs _=>(decide (o=.And)&&(MJ c λes=>chkBs n T xs es && !xs.isEmpty))||(decide (o=.Or)&&(MO c λes=>chkBs n T xs es && !xs.isEmpty))) ||
  (Kv e λx os ys=>(MF c λop a b=>D2 os λop'=>D2 ys λy=>decide (op'=op) && !behindInMarks op y&&A8 n T x a&&A8 n T y b) ||
   (MG c λop1 op2 a b c=>GB os λo1 o2=>GB ys λy z=>decide (o1=op1)&&decide (o2=op2) && !lastMarks [op1,op2] [y,z]&&A8 n T x a&&A8 n T y b&&A8 n T z c) ||
   (MH c λb as=>PZ T (A8 n) x os ys b as)) ||
  LU e&&A8 n T e c
noncomputable def chkBs:Af->Tc->Ac Am->Es->Ak
  |0,_,_,_=>Ad
  |n+1,T,xs,es=>match xs,es with
    |[],.nil=>Ab
    |x::xs,.cons e es=>Hi n T x e&&chkBs n T xs es
    |_,_=>Ad
noncomputable def chkEs:Af->Tc->Ac Am->Es->Ak
  |0,_,_,_=>Ad
  |n+1,T,xs,es=>match xs,es with
    |[],.nil=>Ab
    |x::xs,.cons e es=>Dt x&&A8 n T x e&&chkEs n T xs es
    |_,_=>Ad
noncomputable def Vf:Af->Tc->An Am->E->Ak
  |0,_,_,_=>Ad
  |n+1,T,x,e=>match x with
    |none=>Mx e
    |some x=>!(Mx e)&&A8 n T x e
noncomputable def chkT:Af->Tc->Ac Am->E->Ak
  |0,_,_,_=>Ad
  |n+1,T,xs,e=>match xs with
    |[]=>P8 e λb=>b
    |x::r=>r.isEmpty&&Hi n T x e
noncomputable def chkI:Af->Tc->Ak->Am->I->Ak
  |0,_,_,_,_=>Ad
  |n+1,T,tu,e,i=>match i with
    |.e a=>A8 n T e a
    |.rng a=>Iq e λg l=>D2 l λx=>g==("range" : Ag)&&isB T g&&Dt x&&A8 n T x a
    |.enm a=>Ad
    |.zip a b=>Ad
    |.rng2 a b=>Iq e λg l=>GB l λx y=>g==("range" : Ag)&&isB T g&&Dt x&&Dt y&&A8 n T x a&&A8 n T y b
    |.zip3 a b c=>Ad
end
noncomputable def PY:E->E->Ak
 |.var _,.int _=>Ab
 |_,_=>Ad
noncomputable def U_3:Fb->Ak
 |.Sub=>Ab
 |_=>Ad
noncomputable def MU:E->Ak
 |.idx a b=>PY a b
 |.bin op a b=>U_3 op&&PY a b
 |.var _=>Ab
 |.int _=>Ab
 |.bl _=>Ab
 |.str _=>Ab
 |.non=>Ab
 |_=>Ad
noncomputable def Ip:Es->Ak
 |.nil=>Ab
 |.cons e es=>MU e&&Ip es
noncomputable def GI:Am->An (Ag×AA)
 |.Name x p=>Aa (x,p)
 |_=>Ae
theorem HF{e:Am}{t:Ag×AA}(h:GI e=Aa t):e=.Name t.1 t.2:=by
 cases e with
 |Name x p=>cases h;rfl
 |_=>exact nomatch (show Ae=Aa t from h)
noncomputable def UK:Am->An (Am×Ac Am×AA)
  | .Call f as ks p=>(match ks with
    |[]=>Aa (f,as,p)
    | _=>Ae)
  |_=>Ae
theorem bM{e:Am}{t:Am×Ac Am×AA}(h:UK e=Aa t):e=.Call t.1 t.2.1 [] t.2.2:=by
 cases e with
 |Call f as ks p=>
  cases ks with
  |nil=>cases h;rfl
  |cons=>exact nomatch (show Ae=Aa t from h)
 |_=>exact nomatch (show Ae=Aa t from h)
noncomputable def LG{α:Type}:Ac α->An (α×α)
 |[a,b]=>Aa (a,b)
 |_=>Ae
theorem Mb{l:Ac α}{t:α×α}(h:LG l=Aa t):l=[t.1,t.2]:=by
 cases l with
 |nil=>exact nomatch (show Ae=Aa t from h)
 |cons a l=>
  cases l with
  |nil=>exact nomatch (show Ae=Aa t from h)
  |cons b l=>
   cases l with
   |nil=>cases h;rfl
   |cons=>exact nomatch (show Ae=Aa t from h)
noncomputable def xHd:EH->An (Ag×Ag×AG×Ac AG)
  | .ExceptHandler ty nm b _=>(match nm,b,ty with
    |some m,h0::hs,Aa e=>(GI e).bind λg=>Aa (g.1,m,h0,hs)
    | _,_,_=>Ae)
theorem gN{h:EH}{g m:Ag}(q:xHd h=Aa (g,m,h0,hs)):∃ p r,h=.ExceptHandler (Aa (.Name g p)) (Aa m) (h0::hs) r:=by
 obtain⟨ty,nm,b,r⟩:=h;cases nm with
 |none=>cases ty<;>cases b<;>exact nomatch (show Ae=Aa (g,m,h0,hs) from q)
 |some m'=>
  cases b with
  |nil=>cases ty<;>exact nomatch (show Ae=Aa (g,m,h0,hs) from q)
  |cons h0' hs'=>
   cases ty with
   |none=>exact nomatch (show Ae=Aa (g,m,h0,hs) from q)
   |some e=>
    obtain⟨g',e1,q⟩:=Av.mp (show ((GI e).bind λg=>Aa (g.1,m',h0',hs'))=Aa (g,m,h0,hs) from q)
    cases q;rw[HF e1];exact⟨_,_,rfl⟩
noncomputable def PL:AG->An (AG×Ac EH×Ac AG)
  | .Try b hs es fs _=>(match b,fs with
    |[bt],[]=>Aa (bt,hs,es)
    | _,_=>Ae)
  |_=>Ae
theorem bI{st bt:AG}{hs:Ac EH}{es:Ac AG}(q:PL st=Aa (bt,hs,es)):∃ p,st=.Try [bt] hs es [] p:=by
 cases st with
 |Try b h e f p=>
  cases b with
  |nil=>cases f<;>exact nomatch (show Ae=Aa (bt,hs,es) from q)
  |cons x b=>
   cases b with
   |cons=>cases f<;>exact nomatch (show Ae=Aa (bt,hs,es) from q)
   |nil=>
    cases f with
    |nil=>cases q;exact⟨_,rfl⟩
    |cons=>exact nomatch (show Ae=Aa (bt,hs,es) from q)
 |_=>exact nomatch (show Ae=Aa (bt,hs,es) from q)
noncomputable def Vc(e:Am)(F:Ag->Ag->Am->Ak):Ak:=Iq e λg l=>GB l λa t=>Et a λv=>F g v t
theorem cL{e:Am}{F:Ag->Ag->Am->Ak}(h:Vc e F=Ab):∃ g p v q t r,e=.Call (.Name g p) [.Name v q,t] [] r/\F g v t=Ab:=by
 obtain⟨g,p,l,r,rfl,h⟩:=IX h;obtain⟨a,t,rfl,h⟩:=Ie h;obtain⟨v,q,rfl,h⟩:=ED h;exact⟨g,p,v,q,t,r,rfl,h⟩
noncomputable def PK(T:Tc):Ac Am->Ac Ki->Ak
  |[],ks=>ks.isEmpty
  | e::r,ks=>Ii ks λk ks=>Et e λt=>(match k with
    |.cls c=>inX T.exs t c&&glB T t&&Fi t
    | _=>Ad)&&PK T r ks
noncomputable def LA(f:Am->E->Ak):Ac Am->Es->Ak
 |[],.nil=>Ab
 |x::xs,.cons e es=>Dt x&&f x e&&LA f xs es
 |_,_=>Ad
noncomputable def pK(T:Tc)(t:Am)(ks:Ac Ki):Ak:=Ii ks λk r=>match k with
  |.verr=>r.isEmpty&&(Et t λt=>t==("ValueError" : Ag)&&isB T t)
  | .cls c=>(match r with
    |[]=>Et t λt=>inX T.exs t c&&glB T t&&Fi t
    | k2::r=>Jf t λts=>PK T ts (.cls c::k2::r)&&decide (ts.length<=1000))
  |_=>Ad
noncomputable def HJ:Af->Tc->Af->Am->E->Ak
  |0,_,_,_,_=>Ad
  |n+1,T,x,e,c=>match c with
    |.bl b=>GC e λk=>decide (k=.bool b)
    |.no a=>KG e λo y=>decide (o=.Not)&&HJ n T x y a
    | .and es=>(match es with
      |.nil=>Ad
      | .cons a r=>(match r with
        |.nil=>Jh e λo l _=>decide (o=.And)&&(D2 l λy=>HJ n T x y a)
        | .cons a' as=>Jh e λo l p=>decide (o=.And)&&(Ii l λy l=>Ii l λz zs=>HJ n T x y a&&HJ n T x (.BoolOp .And (z::zs) p) (.and (.cons a' as)))))
    |.isi a ks=>Lz a λi=>Vc e λg v t=>i==x&&g==("isinstance" : Ag)&&isB T g&&isV T v x&&pK T t ks
    |.call _ _=>Ad
    |.str s=>GC e λk=>decide (k=.str s)
    |.lst es=>Lw e λxs=>LA (HJ n T x) xs es&&decide (xs.length<=1000)
    |.tup es=>Jf e λxs=>LA (HJ n T x) xs es&&decide (xs.length<=1000)
    |.bin op a b=>decide (op=.Add)&&(Lz a λi=>MI e λl o y=>decide (o=.Add)&&(Et l λv=>isV T v i&&HJ n T x y b))
    |.fld o f=>Lz o λi=>GD e λw g _=>Et w λv=>i==x&&g==f&&(f==("triple" : Ag)||(f==("points" : Ag)||f==("row" : Ag)))&&isV T v x
    |_=>Ad
noncomputable def qF:E->Ak
 |.lst _=>Ab
 |_=>Ad
noncomputable def Ps:Af->Tc->Af->Ac AG->Ss->Ak
  |0,_,_,_,_=>Ad
  |n+1,T,x,sts,ss=>match ss with
    |.nil=>sts.isEmpty
    | .cons s ss=>Ii sts λst r=>(match s with
      |.asg i b e=>Ji st λy v=>T.N[i]? == Aa y&&Gk T y&&Gg v&&HJ n T x v e&&(!b||qF e)
      |.ife _ _ _=>Ad
      |.ret _=>Ad
      |.app _ _=>Ad
      | _=>Ad)&&Ps n T x r ss
noncomputable def PX:E->Ak
 |.var _=>Ab
 |.cmp _ a b=>MU a&&MU b
 |_=>Ad
noncomputable def Pd:Es->Ak
 |.nil=>Ab
 |.cons e es=>(match e with | .var _=>Ab|_=>Ad)&&Pd es
noncomputable def ML(n:Af)(T:Tc)(v:Am):E->Ak
 |.mkn c as=>A8 n T v (.mkn c as)&&Pd as
 |.methA m ms o a=>A8 n T v (.methA m ms o a)
 |_=>Ad
noncomputable def Mo(n:Af)(T:Tc)(st:AG)(s:S):Ak:=match s with
  |.expr e=>(Kw e λf as=>Jg st λv=>A8 n T v (.call f as)&&Ip as)||(Jg st λv=>ML n T v e)
  |.asg i b e=>!b&&(Kw e λf as=>Ji st λy v=>T.N[i]? == Aa y&&Gk T y&&A8 n T v (.call f as)&&Ip as)
  |_=>Ad
noncomputable def Ph:Ss->(S->Ak)->Ak
  |.nil,_=>Ad
  | .cons a r,F=>(match r with
    |.nil=>F a
    | .cons _ _=>Ad)
theorem Q4{l:Ss}{F:S->Ak}(h:Ph l F=Ab):∃ a,l=.cons a .nil/\F a=Ab:=by
 cases l with
 |nil=>exact noF h
 |cons a r=>
  cases r with
  |nil=>exact⟨a,rfl,h⟩
  |cons=>exact noF h
noncomputable def SR(f:AG->S->Ak)(n:Af)(T:Tc)(st:AG):S->Ak
 |.ife c a b=>Ph a λa=>Ph b λb=>LH st λt xs ys=>D2 xs λx=>D2 ys λy=>Hi n T t c&&PX c&&f x a&&f y b
 |_=>Ad
noncomputable def MM:Af->Af->Tc->AG->S->Ak
 |0,n,T,st,s=>Mo n T st s
 |m+1,n,T,st,s=>Mo n T st s||SR (MM m n T) n T st s
noncomputable def pX:E->Ak
  | .bi b as=>(match b,as with
    |.len,.nil=>Ab
    | _,_=>Ad)
  |_=>Ad
noncomputable def pW:S->Ak
 |.expr e=>pX e
 |_=>Ad
noncomputable def M0:Ss->Ak
 |.cons s _=>pW s
 |.nil=>Ad
noncomputable def hdB(T:Tc)(g:Ag)(c:Af):Ak:=inX T.exs g c&&inX T.rzs g c&&glB T g&&Fi g
noncomputable def Pk:Es->Ak
 |.nil=>Ab
 |.cons e es=>P9 e&&Pk es
noncomputable def Pt(n:Af)(T:Tc)(i:Af)(es:Es)(p:Af)(e2:E)(r:Af)(e3 c:E)(k:Af)(s1 s2 s3 s4 s5:AG):Ak:=
 (Ji s1 λx v=>T.N[i]? == Aa x&&Gk T x&&(Lw v λl=>decide (l.length<=1000)&&Pk es&&chkEs n T l es)) &&
 (Ji s2 λx v=>T.N[p]? == Aa x&&Gk T x&&Gg v&&A8 n T v e2) &&
 (Ji s3 λx v=>T.N[r]? == Aa x&&Gk T x&&Gg v&&A8 n T v e3) &&
 (LH s4 λt _ ys=>ys.isEmpty&&Hi n T t c) &&
 (Ku s5 λtg it xs ys=>ys.isEmpty&&(Et tg λx=>tgC T [k] [x]&&(Et it λy=>isV T y i&&(D2 xs λb=>Ud b λz m l=>l.isEmpty&&(m==("clear" : Ag)&&isV T z k))))) &&
 ((i==p)==Ad&&(i==r)==Ad&&(i==k)==Ad)
mutual
noncomputable def LN:Af->Tc->AG->S->Ak
  |0,_,_,_=>Ad
  |n+1,T,st,s=>match s with
    |.pass=>Ad
    |.brk=>Ad
    |.cont=>Ad
    |.asg i _ e=>Ji st λx v=>T.N[i]? == Aa x&&Gk T x&&A8 n T v e
    |.asgT ts e=>Ad
    |.expr e=>Jg st λv=>Gg v&&A8 n T v e
    |.ret e=>MD st λo=>match o with|some v=>A8 n T v e|none=>Ad
    |.retN=>Ad
    |.retc ts it f as=>MD st λo=>match o with|some v=>(P7 v λx tg iter ifs scope=>ifs.isEmpty&&(Jf tg λys=>(Fw ys).isSome&&chkI n T Ab iter it&&Ky iter&&LL T scope ts (JL ts (tgN ys) T.N)&&tgB (T.blk scope ts (tgN ys)) ts (tgN ys)&&Ip as&&A8 n (T.blk scope ts (tgN ys)) x (.call f as)))|none=>Ad
    |.ife c a b=>LH st λt xs ys=>Hi n T t c&&chkSs n T xs a&&chkSs n T ys b
    |.fors t it body=>Ku st λtg iter xs ys=>ys.isEmpty&&(Et tg λx=>tgC T [t] [x]&&Ky iter&&chkI n T Ad iter it&&chkSs n T xs body)
    |.forT ts it body=>Ku st λtg iter xs zs=>zs.isEmpty&&(Jf tg λys=>(Fw ys).isSome&&tgC T ts (tgN ys)&&Ky iter&&chkI n T Ab iter it&&chkSs n T xs body)
    |.forO i ts body=>Ku st λtg iter xs zs=>zs.isEmpty&&(Jf tg λys=>(Fw ys).isSome&&tgC T ts (tgN ys)&&Ky iter&&(Iq iter λg l=>D2 l λx=>g==("enumerate" : Ag)&&isB T g&&(Et x λz=>isV T z i)&&chkSs n T xs body))
    |.whl c body=>Ad
    |.rais c as=>!(T.rzs.any λp=>p.2==c)||(ME st λa b=>b.isNone&&(match a with|some e=>JC e λg x xs=>inX T.rzs g c&&glB T g&&Fi g&&decide (xs.length<=1000)&&chkEs n T (x::xs) as|none=>Ad))
    |.tryx bs c x h=>(match bs with | .cons b .nil=>(match PL st with|some (bt,[h1],[])=>(match xHd h1 with|some (g,m,h0,hs)=>hdB T g c&&T.N[x]? == Aa m&&T.sc.names.lookup m==Aa .local&&MM 6 n T bt b&&Ps n T x (h0::hs) h|none=>Ad)|_=>Ad)|_=>Ad)
    |.try2 _ _ _ _ _ _ _=>Ad
    |.app i e=>Ad
    |.ext i e=>Ad
    |.rev i=>Ad
    |.clr i=>Ad
    |.put i k e=>Ad
    |.swp _ _ _=>Ad
    |.apop _ _ _=>Ad
    |.ins i k e=>Ad
    |.dput _ _ _=>Ad
    |.dsd _ _ _=>Ad
    |.hand _ _ _ _ _ _ _ _=>Ad
    |.rel _=>Ad
noncomputable def chkSs:Af->Tc->Ac AG->Ss->Ak
  |0,_,_,_=>Ad
  | n+1,T,sts,ss=>(match ss with
    |.nil=>sts.isEmpty
    |.cons (.rel i) ss=>chkSs n T sts ss
    | .cons (.hand i es p e r e' c k) ss=>(match sts with
      |s1::s2::s3::s4::s5::q=>Pt n T i es p e r e' c k s1 s2 s3 s4 s5&&chkSs n T q ss
      | _=>Ad)
    | .cons s ss=>(match sts with
      |st::r=>LN n T st s&&chkSs n T r ss
      | []=>Ad))||M0 ss
end
noncomputable def El(fuel:Af)(hot:Ak)(fns:Ac (Ag×Af×Af))(bl:Ac Ag)(rzs exs gls:Ac (Ag×Af))(ps N:Ac Ag)(st:AG)(df:Df):Ak:=
  let sc:=BF st
  sc.kind==.function && !sc.isCoroutine && !sc.isGenerator&&Kl N&&N.take ps.length==ps&&ps.all (λx=>sc.names.lookup x==Aa .local||sc.names.lookup x==Aa .cell)&&sc.names.all (λy=>y.2 != .free)&&N.length==df.n &&
  (match hot with
  |true=>Ad
  | false=>chkSs fuel ⟨sc,N,fns,bl,rzs,exs,gls,Ab⟩ (Ef st) df.body)
structure XT (up:Af->Ac Af) (xn:Af->Ac D->R Ex) (CL:ClA) (rzs exs:Ac (Ag×Af)) (K:Fg) (mg:Ag->An Aj):Prop where
 xc:∀ c C,CL c=Aa C->XcOk K C
 rz:∀ p∈rzs,∃ C,CL p.2=Aa C/\mg p.1=Aa (.ref C)
 ex:∀ p∈exs,∃ C,mg p.1=Aa (.ref C)/\Ls K CL up p.2 C/\∀ c D,CL c=Aa D->BB K (.ref D) (.ref C)=Aa ((up c).contains p.2)
 made:∀ c C ds,CL c=Aa C->xn c ds=.bad\/(xn c ds=.ok ⟨c,[]⟩/\Dg K C Ae=Ab)\/∃ f,XIn K mg C f/\KB xn c f ds
 nf:∀ c C,CL c=Aa C->∀ f:Ag,(f==("triple" : Ag)||(f==("points" : Ag)||f==("row" : Ag)))=Ab->FO K C=Ab/\Aq K (.ref C) f=Aa Ae
 xb:∀ c,(∀ p∈rzs,p.2≠c)->∀ ds,xn c ds=.bad
def M6(K:Fg)(mg:Ag->An Aj)(CL:ClA)(x:Ag)(d:D):Prop:=∃ u v,mg x=Aa u/\Bs v u/\∀ H A,Rep K CL H A v d
structure OS (K:Fg) (mg:Ag->An Aj):Prop where
 oc:∀ c C,OC K c=Aa C->OCls K C
 kit:∀ c C c' C',OC K c=Aa C->OC K c'=Aa C'->BR K (.ref C) (.ref C')=Aa ((oup c).contains c')
 at_:∀ c,c<3->∃ C,OC K c=Aa C/\mg (MQ c)=Aa (.ref C)
 kp:∀ c C,OC K c=Aa C->Bf K (.ref C)=Ab
 mf2:∀ c C m f,OC K c=Aa C->(c==0)=Ad->(m==("across" : Ag)||m==("meets" : Ag))=Ab->Aq K (.ref C) m=Aa (Aa (.ref f))->CD K (.ref f)=Ab
 mf:∀ c C m f,OC K c=Aa C->(m==("told" : Ag)||m==("shown" : Ag))=Ab->Aq K (.ref C) m=Aa (Aa (.ref f))->CD K (.ref f)=Ab
def MkR(P:AL)(w:Az)(K:Fg)(mg:Ag->An Aj)(base:AE)(CL:ClA)(F:Af->Ac D->R D)(k c:Af):Prop:=(∀ ds,F (900+c) ds=.bad)\/∃ C f fd G k',OC K c=Aa C/\Mk K C f/\DB K fd ["self", "p", "numbers"] []/\k'+1=k/\FnOk P w K mg base (CXR P w) k' f fd ["self", "p", "numbers"] (spI K CL G)/\(∀ ds,ds.length=2->F (900+c) ds=.bad\/F (900+c) ds=(G ds).bind (Dk c))
structure VX (Z:Gam) (CL:ClA) (k:Af) (W:XW) (T:Tc) (X:Cx):Prop where
 sc:X.env.scope=T.sc
 kd:T.sc.kind=.function
 N:X.N=T.N
 nd:T.N.Nodup
 calm:X.calm=Ab
 room:Room k X.A
 bl:∀ x,x∈T.bl->X.mg x=Ae
 os:OS X.K X.mg
 mkr:∀ c,c<3->MkR X.prog X.w X.K X.mg X.base CL Z.F k c
 fn:∀ p∈T.fns,∃ f fd ps,Ha X.K X.mg p.1=Aa (.ref f)/\Bf X.K (.ref f)=Ab/\DB X.K fd ps []/\ps.length=p.2.2%1000/\(p.2.2<1000->FnOk X.prog X.w X.K X.mg X.base (CXR X.prog X.w) k f fd ps (spD X.K CL (p.2.2%1000) (Z.fr p.2.1) (Z.F p.2.1)))/\(1000<=p.2.2->HotOk X.prog X.w X.K X.mg X.base k f fd ps (spH X.K CL (p.2.2%1000) (Z.fr p.2.1) (Z.F p.2.1)))
 own:Dz (model X.prog X.w) X.A X.env X.xe
 px:∀ A,HH (CXR X.prog X.w) X (EKW X.K CL A W)
 rz:LP X CL W
 fz:KM X CL W
 xt:XT Z.up Z.xn CL T.rzs T.exs X.K X.mg
 gl:∀ p∈T.gls,M6 X.K X.mg CL p.1 (Z.G p.2)
 ex:T.tp=Ab->X.ex=[]
theorem S9:∀ A,HH (CXR X.prog X.w) X (EKW X.K CL A W0):=λA pI Y H s ev s' I h=>by
 obtain⟨e,T,cls,dx,H',_,_,_,_,_,_,_,_,_,_,x,_,w⟩:=h;exact w.elim
theorem U_4:LP X CL W0:=λ_ _ _ _ _ _ _ _ _ _ _ _ _ _ z=>z.elim
def Rf{α:Type}(g f:Rho->R α):Prop:=∀ U,g U=.bad\/g U=f U
section
variable{X:Cx}{CL:ClA}{W:XW}{a:Am}{f g:Rho->R D}
theorem SE.ref(h:SE X CL W a f)(r:Rf g f):SE X CL W a g:=λA=>PE.weak (h A) λY H Q ⟨hA,U,q,p⟩=>⟨hA,U,q,by
 rcases r U with e|e
 .rw[e]at p;exact p.elim
 .rw[e]at p;exact p⟩
theorem SB.ref{f g:Rho->R Ak}(h:SB X CL W a f)(r:Rf g f):SB X CL W a g:=λA=>PT.weak (h A) λY H Q ⟨hA,U,q,p⟩=>⟨hA,U,q,by
 rcases r U with e|e
 .rw[e]at p;exact p.elim
 .rw[e]at p;exact p⟩
theorem SW.ref{f g:Rho->R Ak}(h:SW X CL W a f)(r:Rf g f):SW X CL W a g:=λA=>PW.weak (h A) λY H Q ⟨hA,U,q,p⟩=>⟨hA,U,q,by
 rcases r U with e|e
 .rw[e]at p;exact p.elim
 .rw[e]at p;exact p⟩
theorem SC.ref{fr:Ak}(h:SC X CL W fr a f)(r:Rf g f):SC X CL W fr a g:=λA=>PE.weak (h A) λY H Q ⟨hA,U,q,p⟩=>⟨hA,U,q,by
 rcases r U with e|e
 .rw[e]at p;exact p.elim
 .rw[e]at p;exact p⟩
theorem SS.ref{st:AG}{f g:Rho->O}(h:SS X CL W st f)(r:∀ U,g U=.bad\/g U=f U):SS X CL W st g:=λFz B=>PS.weak (h Fz B) λD Y H ⟨U,x,p⟩=>⟨U,x,by
 rcases r U with e|e
 .rw[e]at p;exact p.elim
 .rw[e]at p;exact p⟩
end
theorem K6:∀{l:Ac Ag},Kl l=Ab->l.Nodup
 |[],_=>List.nodup_nil
 |x::xs,h=>by
  unfold Kl at h;simp only[Al,Bm,VA,decide_eq_false_iff_not]at h;exact List.nodup_cons.mpr ⟨h.1,K6 h.2⟩
section
variable{T:Tc}{X:Cx}{Z:Gam}{CL:ClA}{k:Af}{W:XW}
theorem RF(h:PR T x=Ab):Vis T.sc x:=by
 unfold PR at h;split at h
 .exact .inl (by assumption)
 .exact .inr (.inl (by assumption))
 .exact .inr (.inr (by assumption))
 .cases h
theorem JA(h:Gk T x=Ab):Loc T.sc x:=by
 unfold Gk at h;split at h
 .exact .inl (by assumption)
 .exact .inr (by assumption)
 .cases h
theorem Mf(h:Fi x=Ab):Fj.lookup x=Ae:=by
 unfold Fi at h;exact DQ.mp (A7 h).2
theorem Fx(h:Fi x=Ab):(x==("__debug__" : Ag))=Ad/\(x==("__classdict__" : Ag))=Ad/\x≠"__name__" := by
 unfold Fi at h;replace h:=(A7 h).1;simp only[Al,Bm]at h;exact⟨h.1.1,h.1.2,λe=>by subst e;exact absurd h.2 (by simp)⟩
theorem Ij{i:Af}(v:VX Z CL k W T X)(h:isV T x i=Ab):PE X (.Name x pos) (Eu i):=by
 unfold isV at h;simp only[Al,AB]at h;obtain⟨h2,h3,_⟩:=Fx h.2;exact Kk (by rw[v.N];exact h.1.1) (by rw[v.sc];exact RF h.1.2) h2 h3
theorem G6(v:VX Z CL k W T X)(h:isB T x=Ab):Gl X x/\X.mg x=Ae/\x≠"__name__"/\(x==("__debug__" : Ag))=Ad:=by
 unfold isB glB at h;simp only[Al,AB,VA,AD]at h;obtain⟨h2,h3,h4⟩:=Fx h.2;exact⟨by show X.env.scope.names.lookup x=_;rw[v.sc];exact h.1.2,v.bl x h.1.1,h4,h2⟩
theorem C9{x:Am}(h:Dt x=Ab):Ar (x::xs) env=(Ad,eval x env)::Ar xs env:=by
 cases x<;>first|rfl|cases h
theorem Zd{y:Am}(h:RY y=Ab):OF y:=by
 intro o i;cases y<;>first|rfl|cases h
theorem Kj{e:Am}(h:Ky e=Ab):∀ x,BL e env x=pure x:=by
 intro x;cases e<;>first|rfl|cases h
theorem Ib{e:Am}{t:An Am}{l:Af}(h:Gg e=Ab):CF e t l env=pure Ad:=by
 cases e<;>first|rfl|cases h
theorem aK{e:Am}(h:LU e=Ab):∀ whole,HQ e env whole=(do let v <-whole;standAt e.pos;holding [v] (truthy v)):=by
 intro whole;cases e<;>first|rfl|cases h
theorem X3(v:VX Z CL k W T X)(scope:BK):relabel scope X.env=Pa T.sc scope:=by
 unfold relabel Pa;have:∀ n,X.env.kindOf n=T.sc.names.lookup n:=λn=>by show X.env.scope.names.lookup n=_;rw[v.sc]
 simp only[this,v.sc]
theorem O7(v:VX Z CL k W T X)(h:LL T scope ts N'=Ab):BlockOk X scope N' ts/\N'.Nodup/\scope.kind=.function:=by
 unfold LL at h;simp only[Al,AB,Ca,BS,GO,KQ]at h;obtain⟨⟨⟨⟨⟨h1,h2⟩,h4⟩,h5⟩,h6⟩,h7⟩:=h;have at7:∀ i x,N'[i]?=Aa x->i∈ts\/((scope.names.lookup x≠Aa .local/\scope.names.lookup x≠Aa .cell)/\(scope.names.lookup x≠Aa .free\/T.N[i]?=Aa x)):=λi x e=>by
  have hi:=(A9.mp e).1;have:=h7 i (Fk.mpr hi);rcases this with z|z
  .exact .inl (by simpa using z)
  .rw[e]at z;simp only[Al,GO,KQ,BS,AB]at z;exact .inr z
 refine⟨⟨h1,h2,λy hy hl=>by rw[h2 y hy,hl],λy hy hf=>?_,by rw[v.N];exact h5,λi x e hf hn=>?_,λi x e hl=>?_⟩,K6 h6,h1⟩
 .rw[v.sc];rcases h4 y hy with (z|z)|z
  .exact absurd hf z
  .exact .inl z
  .exact .inr z
 .rw[v.N];rcases at7 i x e with z|⟨_,z⟩
  .exact absurd z hn
  .exact z.resolve_left λq=>q hf
 .rcases at7 i x e with z|⟨z,_⟩
  .exact z
  .exact hl.elim (λq=>absurd q z.1) (λq=>absurd q z.2)
theorem VX.blk{xs:Ac Ag}{cl:Ac (Ag×Ah)}{s:Ao}{fp:Ac Ah}(v:VX Z CL k W T X)(h:LL T scope ts (JL ts xs T.N)=Ab):VX Z CL k W0 (T.blk scope ts xs) (cxC X scope cl C (JL ts xs T.N) s H fp):=by
 obtain⟨_,h2,h3⟩:=O7 v h;exact⟨X3 v scope,h3,rfl,h2,v.calm,v.room,v.bl,v.os,v.mkr,v.fn,PassesOwn.never,S9,U_4,UN,v.xt,v.gl,λz=>nomatch z⟩
theorem bS{t:Af}(v:VX Z CL k W T X)(hfn:scope.names.lookup x=Aa .cell->X.fn x=Ab)(h:tgO T scope t x=Ab):PG X (.Name x pos) (Eg t):=by
 unfold tgO at h;simp only[Al,BS,AB]at h;rcases h with ⟨h1,h2|h2⟩
 .exact Lk (by rw[v.N];exact v.nd) (by rw[v.N];exact h1) (by rw[v.sc];exact .inl h2) (.inr (by rw[v.sc];exact h2))
 .exact Lk (by rw[v.N];exact v.nd) (by rw[v.N];exact h1) (by rw[v.sc];exact .inr h2.1) (.inl (hfn h2.2))
theorem Nz{y:Am}{r:Ac Am}{zs:Ac Ag}(h:Fw (y::r)=Aa zs):∃ x p ws,y=.Name x p/\Fw r=Aa ws/\zs=x::ws:=by
 cases y with
 |Name x p=>
  have h':(Fw r).map (x :: ·)=Aa zs:=h;cases e:Fw r with
  |none=>rw[e]at h';cases h'
  |some ws=>rw[e]at h';cases h';exact⟨x,p,ws,rfl,rfl,rfl⟩
 |_=>cases h
theorem NR(x:Ag)(p:AA)(r:Ac Am)(env:Cc):DS (.Name x p::r) env=(Ad,assign (.Name x p) env)::DS r env:=rfl
theorem Qm:∀(ys:Ac Am)(zs:Ac Ag),Fw ys=Aa zs->(DS ys env).length=ys.length/\(DS ys env).findIdx? (·.1)=Ae/\(DS ys env).map (·.2)=ys.map λy=>assign y env:=by
 intro ys
 induction ys with
 |nil=>intro _ _;exact⟨rfl,rfl,rfl⟩
 |cons y r ih=>
  intro zs h;obtain⟨x,p,ws,rfl,e,rfl⟩:=Nz h;obtain⟨h1,h2,h3⟩:=ih ws e;rw[NR];refine⟨?_,?_,?_⟩
  .rw[Ba,Ba,h1]
  .rw[List.findIdx?_cons,h2];simp
  .rw[B2,B2,h3]
theorem aJ(v:VX Z CL k W T X):∀(ys:Ac Am)(ts:Ac Af)(zs:Ac Ag),Fw ys=Aa zs->tgB T ts zs=Ab->PGs X ys (ts.foldr (λt u=>Ir (Eg t) u) Ix)/\ts.length=ys.length:=by
 intro ys
 induction ys with
 |nil=>
  intro ts zs e h;cases e;cases ts with
  |nil=>exact⟨Sf,rfl⟩
  |cons t ts=>cases h
 |cons y r ih=>
  intro ts zs e h;obtain⟨x,p,ws,rfl,e2,rfl⟩:=Nz e;cases ts with
  |nil=>cases h
  |cons t ts=>
   have h':(T.N[t]? == Aa x&&T.sc.names.lookup x==Aa .local&&tgB T ts ws)=Ab:=h;simp only[Al,AB]at h';obtain⟨h1,h2⟩:=ih ts ws e2 h'.2;exact⟨Ry (Lk (by rw[v.N];exact v.nd) (by rw[v.N];exact h'.1.1) (by rw[v.sc];exact .inl h'.1.2) (.inr (by rw[v.sc];exact h'.1.2))) h1 (by rw[NR];rfl),congrArg (· + 1) h2⟩
theorem aI(v:VX Z CL k W T X)(hn:(Fw ys).isSome=Ab)(h:tgB T ts (tgN ys)=Ab):PG X (.Tuple ys kk pos) (LO X.K ts.length (ts.foldr (λt u=>Ir (Eg t) u) Ix)):=by
 cases e:Fw ys with
 |none=>rw[e]at hn;cases hn
 |some zs=>
  have e2:tgN ys=zs:=by unfold tgN;rw[e];rfl
  rw[e2]at h;obtain⟨h1,h2⟩:=aJ v ys ts zs e h;obtain⟨h3,h4,_⟩:=Qm (env:=X.env) ys zs e;exact S5 v.calm h1 (by rw[h3,h2]) h4
end
noncomputable def Es.len:Es->Af
 |.nil=>0
 |.cons _ es=>es.len+1
theorem G7(Z:Gam)(U:Rho):∀(es:Es)(ds:Ac D),evA Z U es=.ok ds->ds.length=es.len
 |.nil,ds,h=>by cases h;rfl
 |.cons e es,ds,h=>by
  obtain⟨x,h1,h2⟩:=Ju (Rh Z U e es ▸ h);obtain⟨xs,h3,h4⟩:=Ju h2;cases h4;exact congrArg (· + 1) (G7 Z U es xs h3)
theorem Ln(Z:Gam)(U:Rho):∀(es:Es)(ds:Ac D),evB Z U es=.ok ds->ds.length=es.len
 |.nil,ds,h=>by cases h;rfl
 |.cons e es,ds,h=>by
  obtain⟨x,h1,h2⟩:=Ju (Oi Z U e es ▸ h);obtain⟨xs,h3,h4⟩:=Ju h2;cases h4;exact congrArg (· + 1) (Ln Z U es xs h3)
theorem Tp(Z:Gam)(U:Rho)(e:E)(h:shE U e=Ab):top U e (evE Z U e)=evE Z U e:=by
 cases e with
 |var i=>
  show DW U i=EF U i;have h':shV U i=Ab:=h;unfold shV at h';unfold DW EF;cases q:U[i]? with
  |none=>rfl
  |some x=>
   cases x with
   |none=>rfl
   |some y=>
    obtain⟨d,o⟩:=y;cases o with
    |true=>rw[q]at h';cases h'
    |false=>rfl
 |_=>rfl
theorem Lp(Z:Gam)(U:Rho):∀(es:Es),Hd U es=Ab->evB Z U es=evA Z U es
 |.nil,_=>rfl
 |.cons e es,h=>by
  simp only[X8,Al]at h;rw[Rh,Oi,Tp Z U e h.1,Lp Z U es h.2]
theorem OM(Z:Gam)(c:E):Rf (λU=>evE Z U c) (λU=>top U c (evE Z U c)):=λU=>by
 by_cases h:shE U c=Ab
 .exact .inr (Tp Z U c h).symm
 .cases c with
  |var i=>
   refine .inl ?_;show EF U i=.bad;have h':¬ shV U i=Ab:=h;unfold shV at h';unfold EF;cases q:U[i]? with
   |none=>rfl
   |some x=>
    cases x with
    |none=>rfl
    |some y=>
     obtain⟨d,o⟩:=y;cases o with
     |true=>rfl
     |false=>rw[q]at h';exact absurd rfl h'
  |_=>exact absurd rfl h
def Pcs(X:Cx)(CL:ClA)(W:XW)(e:Am)(f:Rho->R D):Prop:=∃ tg iter elt ifs scope pos N' ts fi fc fe as g,e=.ListComp elt [⟨tg,iter,ifs,0⟩] scope pos/\BlockOk X scope N' ts/\SI X CL W tg iter fi/\GG X.K CL ts as g /\
 (∀ cl C s H fp,PG (cxC X scope cl C N' s H fp) tg g)/\(∀ cl C s H fp,STs (cxC X scope cl C N' s H fp) CL ifs fc)/\(∀ cl C s H fp,SE (cxC X scope cl C N' s H fp) CL W0 elt fe)/\(∀ x,BL iter X.env x=pure x) /\
 ∀ U,f U=(fi U).bind λxs=>(noX (Bz (λx=>(as x U).bind fc) (λx=>(as x U).bind fe) xs)).bind λys=>.ok (.lst ys)
theorem Pcs.sc{e:Am}{f:Rho->R D}(hc:X.calm=Ab)(h:Pcs X CL W e f):SC X CL W Ab e f:=by
 obtain⟨tg,iter,elt,ifs,scope,pos,N',ts,fi,fc,fe,as,g,rfl,B,hi,hGG,hg,ht,he,hs,ef⟩:=h;exact SC.congr (Z_9 hc B hi hGG hg ht he hs) ef
structure OkE (Z:Gam) (CL:ClA) (W:XW) (X:Cx) (e:Am) (c:E):Prop where
 se:SE X CL W e (λU=>evE Z U c)
 st:ST X CL W e (λU=>top U c (evE Z U c))
 nw:Ew Z c=Ab->SC X CL W Ab e (λU=>evE Z U c)
 cp:Gg e=Ad->Pcs X CL W e (λU=>evE Z U c)
section
variable{Z:Gam}{CL:ClA}{W:XW}{X:Cx}{e:Am}{c:E}
theorem De(h:SE X CL W e (λU=>evE Z U c))(ht:∀ U r,top U c r=r)(hn:Ew Z c=Ad)(hc:Gg e=Ab):OkE Z CL W X e c:=
 ⟨h,by simp only[ht];exact h.st,λz=>absurd z (by rw[hn];decide),λz=>absurd z (by rw[hc];decide)⟩
theorem Tb(h:SC X CL W Ab e (λU=>evE Z U c))(ht:∀ U r,top U c r=r)(hc:Gg e=Ab):OkE Z CL W X e c:=
 ⟨h.se,by simp only[ht];exact h.se.st,λ_=>h,λz=>absurd z (by rw[hc];decide)⟩
theorem oX(hc:X.calm=Ab)(h:Pcs X CL W e (λU=>evE Z U c))(ht:∀ U r,top U c r=r):OkE Z CL W X e c:=
 ⟨(h.sc hc).se,by simp only[ht];exact(h.sc hc).se.st,λ_=>h.sc hc,λ_=>h⟩
end
theorem pL{k:Ki}(h:Pl k=Aa x):∃ T,tyK k=Aa T/\CU x=Aa (.type T):=by
 cases k<;>simp only[Pl]at h<;>cases h
 .exact⟨_,rfl,PyProof.Rows.boot_int⟩
 .exact⟨_,rfl,PyProof.Rows.boot_bool⟩
 .exact⟨_,rfl,VT⟩
 .exact⟨_,rfl,VS⟩
 .exact⟨_,rfl,VU⟩
structure Snd (Z:Gam) (CL:ClA) (k:Af) (n:Af):Prop where
 e:∀(W:XW)(T:Tc)(X:Cx)(x:Am)(c:E),VX Z CL k W T X->A8 n T x c=Ab->OkE Z CL W X x c
 b:∀(W:XW)(T:Tc)(X:Cx)(x:Am)(c:E),VX Z CL k W T X->Hi n T x c=Ab->SB X CL W x (λU=>(top U c (evE Z U c)).bind BM)
 bs:∀(W:XW)(T:Tc)(X:Cx)(xs:Ac Am)(es:Es)(pos:AA),VX Z CL k W T X->chkBs n T xs es=Ab->xs≠[]->SW X CL W (.BoolOp .And xs pos) (λU=>(evN Z U es).bind BM)/\SW X CL W (.BoolOp .Or xs pos) (λU=>(evO Z U es).bind BM)
 es:∀(W:XW)(T:Tc)(X:Cx)(xs:Ac Am)(es:Es),VX Z CL k W T X->chkEs n T xs es=Ab->SA X CL W xs (λU=>evA Z U es)/\SAT X CL W xs (λU=>evB Z U es)/\xs.length=es.len/\(∀ pos,xs≠[]->SE X CL W (.BoolOp .And xs pos) (λU=>evN Z U es)/\SE X CL W (.BoolOp .Or xs pos) (λU=>evO Z U es))/\(∀ pos,(Bu pos (Ar xs X.env)).any (·.1)=Ad)
 o:∀(W:XW)(T:Tc)(X:Cx)(x:An Am)(c:E),VX Z CL k W T X->Vf n T x c=Ab->SO X CL W x (λU=>(top U c (evE Z U c)).bind (slE c))
 t:∀(T:Tc)(X:Cx)(xs:Ac Am)(c:E),VX Z CL k W0 T X->chkT n T xs c=Ab->STs X CL xs (λU=>(top U c (evE Z U c)).bind BM)
 i:∀(W:XW)(T:Tc)(X:Cx)(tu:Ak)(tg x:Am)(i:I),VX Z CL k W T X->UZ tu tg=Ab->chkI n T tu x i=Ab->SI X CL W tg x (λU=>evI Z U i)
section
variable{Z:Gam}{CL:ClA}{W:XW}{k n:Af}{T:Tc}{X:Cx}
theorem Zb:Snd Z CL k 0:=⟨λ_ _ _ _ _ _ h=>noF h,λ_ _ _ _ _ _ h=>noF h,λ_ _ _ _ _ _ _ h=>noF h,λ_ _ _ _ _ _ h=>noF h,λ_ _ _ _ _ _ h=>noF h,λ_ _ _ _ _ h=>noF h,λ_ _ _ _ _ _ _ _ _ h=>noF h⟩
theorem Qq{x:Am}(h:Dt x=Ab)(hx:(Bu pos (Ar xs env)).any (·.1)=Ad):(Bu pos (Ar (x::xs) env)).any (·.1)=Ad:=by
 rw[C9 h];show (Ad||(Bu pos (Ar xs env)).any (·.1))=Ad;rw[hx];rfl
theorem fR(S:Snd Z CL k n)(W:XW)(T:Tc)(X:Cx)(xs:Ac Am)(es:Es)(v:VX Z CL k W T X)(h:chkEs (n+1) T xs es=Ab):SA X CL W xs (λU=>evA Z U es)/\SAT X CL W xs (λU=>evB Z U es)/\xs.length=es.len/\(∀ pos,xs≠[]->SE X CL W (.BoolOp .And xs pos) (λU=>evN Z U es)/\SE X CL W (.BoolOp .Or xs pos) (λU=>evO Z U es))/\(∀ pos,(Bu pos (Ar xs X.env)).any (·.1)=Ad):=by
 cases xs with
 |nil=>
  cases es with
  |nil=>exact⟨SY,aB,rfl,λ_ z=>absurd rfl z,λ_=>rfl⟩
  |cons=>exact noF h
 |cons x xs=>
  cases es with
  |nil=>exact noF h
  |cons e es=>
   replace h:(Dt x&&A8 n T x e&&chkEs n T xs es)=Ab:=h;simp only[Al]at h;obtain⟨⟨h0,h1⟩,h2⟩:=h;have he:=S.e W T X x e v h1;obtain⟨a1,a2,a3,a4,a5⟩:=S.es W T X xs es v h2;refine⟨Sd he.se a1 (C9 h0),YN he.st a2 (C9 h0),congrArg (· + 1) a3,λpos _=>?_,λpos=>Qq h0 (a5 pos)⟩
   cases xs with
   |nil=>
    cases es with
    |nil=>exact⟨OT he.se,OT he.se⟩
    |cons=>cases a3
   |cons y ys=>
    cases es with
    |nil=>cases a3
    |cons e' es'=>
     obtain⟨b1,b2⟩:=a4 pos (by simp)
     exact⟨TJ he.se b1,nF he.se b2⟩
theorem lE(S:Snd Z CL k n)(W:XW)(T:Tc)(X:Cx)(x:An Am)(c:E)(v:VX Z CL k W T X)(h:Vf (n+1) T x c=Ab):SO X CL W x (λU=>(top U c (evE Z U c)).bind (slE c)):=by
 cases x with
 |none=>
  obtain rfl:=Zz h;exact aX
 |some x=>
  replace h:(!(Mx c)&&A8 n T x c)=Ab:=h;rw[Al]at h;have q:=aW (S.e W T X x c v h.2).st;have e:slE c=λd=>(Fh d).bind λi=>.ok (Aa i):=by
   funext d
   cases c<;>first|rfl|exact absurd (show Ad=Ab from h.1) At
  rw[e];exact q
theorem lC(S:Snd Z CL k n)(T:Tc)(X:Cx)(xs:Ac Am)(c:E)(v:VX Z CL k W0 T X)(h:chkT (n+1) T xs c=Ab):STs X CL xs (λU=>(top U c (evE Z U c)).bind BM):=by
 cases xs with
 |nil=>
  replace h:=cM h;obtain⟨b,rfl,h⟩:=h;subst h;exact RP
 |cons x xs=>
  replace h:(xs.isEmpty&&Hi n T x c)=Ab:=h;rw[Al]at h;obtain rfl:=EC h.1;exact aN (S.b W0 T X x c v h.2)
theorem lF(S:Snd Z CL k n)(W:XW)(T:Tc)(X:Cx)(tu:Ak)(tg x:Am)(i:I)(v:VX Z CL k W T X)(ht':UZ tu tg=Ab)(h:chkI (n+1) T tu x i=Ab):SI X CL W tg x (λU=>evI Z U i):=by
 have ht:tu=Ab->oF tg=Ab:=λz=>by
  subst z;cases tg<;>first|rfl|cases ht'
 cases i with
 |e a=>
  exact pZ (S.e W T X x a v h).se
 |rng a=>
  replace h:=IX h;obtain⟨g,pp,l,qq,rfl,h⟩:=h;replace h:=EU h;obtain⟨y,rfl,h⟩:=h;simp only[Al,AB]at h;obtain⟨⟨⟨rfl,h1⟩,h2⟩,h3⟩:=h;obtain⟨g1,g2,_,_⟩:=G6 v h1;exact fY (S.e W T X _ a v h3).st g1 g2 (C9 h2)
 |rng2 a b=>
  replace h:=IX h;obtain⟨g,pp,l,qq,rfl,h⟩:=h;replace h:=Ie h;obtain⟨y,z,rfl,h⟩:=h;simp only[Al,AB]at h;obtain⟨⟨⟨⟨⟨rfl,h1⟩,h2⟩,h3⟩,h4⟩,h5⟩:=h;obtain⟨g1,g2,_,_⟩:=G6 v h1;exact aY (S.e W T X _ a v h4).st (S.e W T X _ b v h5).st g1 g2 (by rw[C9 h2,C9 h3];rfl) (by rw[C9 h3];rfl)
 |zip a b=>exact absurd (show Ad=Ab from h) At
 |zip3 a b c=>exact absurd (show Ad=Ab from h) At
 |enm a=>exact absurd (show Ad=Ab from h) At
theorem Ke{c:Prop}[FQ c]{b:Ak}:(if c then R.ok (D.bl b) else .bad)=.bad\/∃ b',(if c then R.ok (D.bl b) else .bad)=.ok (.bl b'):=by
 by_cases h:c
 .rw[AC h];exact .inr ⟨_,rfl⟩
 .rw[AJ h];exact .inl rfl
theorem Rk(op:C4)(d d':D):BN op d d'=.bad\/∃ b,BN op d d'=.ok (.bl b):=by
 cases op with
 |Eq=>exact Ke
 |NotEq=>exact Ke
 |In=>
  cases d' with
  |lst ys=>exact Ke
  |tup ys=>exact Ke
  |dic kvs=>
   show (match Jl d with|some k=>R.ok (D.bl (kvs.any λp=>p.1==k))|none=>.bad)=.bad\/∃ b,(match Jl d with|some k=>R.ok (D.bl (kvs.any λp=>p.1==k))|none=>.bad)=.ok (.bl b)
   cases Jl d with
   |some k=>exact .inr ⟨_,rfl⟩
   |none=>exact .inl rfl
  |_=>exact .inl rfl
 |NotIn=>
  cases d' with
  |lst ys=>exact Ke
  |tup ys=>exact Ke
  |_=>exact .inl rfl
 |Is=>
  cases d' with
  |non=>cases d<;>first|exact .inr ⟨_,rfl⟩|exact .inl rfl
  |_=>cases d<;>first|exact .inl rfl|exact .inr ⟨_,rfl⟩
 |IsNot=>
  cases d' with
  |non=>cases d<;>first|exact .inr ⟨_,rfl⟩|exact .inl rfl
  |_=>cases d<;>first|exact .inl rfl|exact .inr ⟨_,rfl⟩
 |_=>
  cases d with
  |int i=>cases d'<;>first|exact .inr ⟨_,rfl⟩|exact .inl rfl
  |_=>exact .inl rfl
theorem Su(op:C4)(d d':D):(BN op d d').bind BM=.bad\/(BN op d d').bind BM=(BN op d d').bind DC:=by
 rcases Rk op d d' with h|⟨b,h⟩
 .rw[h];exact .inl rfl
 .rw[h];exact .inr rfl
theorem jM(e e':E)(es:Es):Rf (λU=>(evN Z U (.cons e (.cons e' es))).bind BM) (λU=>((top U e (evE Z U e)).bind BM).bind λc=>if c=Ab then (evN Z U (.cons e' es)).bind BM else .ok Ad):=λU=>by
 have e0:evN Z U (.cons e (.cons e' es))=(evE Z U e).bind λx=>(DC x).bind λc=>if c=Ab then evN Z U (.cons e' es) else .ok (.bl Ad):=rfl
 dsimp only;rw[e0];rcases OM Z e U with z|z<;>dsimp only at z
 .rw[z];exact .inl rfl
 .rw[<-z];cases evE Z U e with
  |bad=>exact .inl rfl
  |exn x=>exact .inr rfl
  |ok d=>
   cases d with
   |bl b=>cases b<;>exact .inr rfl
   |_=>exact .inl rfl
theorem jL(e e':E)(es:Es):Rf (λU=>(evO Z U (.cons e (.cons e' es))).bind BM) (λU=>((top U e (evE Z U e)).bind BM).bind λc=>if c=Ab then .ok Ab else (evO Z U (.cons e' es)).bind BM):=λU=>by
 have e0:evO Z U (.cons e (.cons e' es))=(evE Z U e).bind λx=>(DC x).bind λc=>if c=Ab then .ok (.bl Ab) else evO Z U (.cons e' es):=rfl
 dsimp only;rw[e0];rcases OM Z e U with z|z<;>dsimp only at z
 .rw[z];exact .inl rfl
 .rw[<-z];cases evE Z U e with
  |bad=>exact .inl rfl
  |exn x=>exact .inr rfl
  |ok d=>
   cases d with
   |bl b=>cases b<;>exact .inr rfl
   |_=>exact .inl rfl
theorem Rf.tru(e:E):Rf (λU=>(evE Z U e).bind BM) (λU=>(top U e (evE Z U e)).bind BM):=λU=>by
 rcases OM Z e U with z|z<;>dsimp only at z ⊢
 .rw[z];exact .inl rfl
 .rw[<-z];exact .inr rfl
theorem fS(S:Snd Z CL k n)(W:XW)(T:Tc)(X:Cx)(xs:Ac Am)(es:Es)(pos:AA)(v:VX Z CL k W T X)(h:chkBs (n+1) T xs es=Ab)(hne:xs≠[]):SW X CL W (.BoolOp .And xs pos) (λU=>(evN Z U es).bind BM)/\SW X CL W (.BoolOp .Or xs pos) (λU=>(evO Z U es).bind BM):=by
 cases xs with
 |nil=>exact absurd rfl hne
 |cons x xs=>
  cases es with
  |nil=>exact noF h
  |cons e es=>
   replace h:(Hi n T x e&&chkBs n T xs es)=Ab:=h;simp only[Al]at h;obtain⟨h1,h2⟩:=h;have he:=S.b W T X x e v h1;cases xs with
   |nil=>
    cases es with
    |nil=>exact⟨SW.ref (aM he) (Rf.tru e),SW.ref (fM he) (Rf.tru e)⟩
    |cons=>
     cases n with
     |zero=>exact absurd (show Ad=Ab from h2) At
     |succ n=>exact absurd (show Ad=Ab from h2) At
   |cons y ys=>
    cases es with
    |nil=>
     cases n with
     |zero=>exact absurd (show Ad=Ab from h2) At
     |succ n=>exact absurd (show Ad=Ab from h2) At
    |cons e' es'=>
     obtain⟨b1,b2⟩:=S.bs W T X (y::ys) (.cons e' es') pos v h2 (by simp)
     exact⟨SW.ref (fN he b1) (jM e e' es'),SW.ref (lB he b2) (jL e e' es')⟩
theorem bR(S:Snd Z CL k n){x:Am}{ops:Ac C4}{b:BI}(v:VX Z CL k W T X)(h:PZ T (A8 n) x ops ys b as=Ab):SB X CL W (.Compare x ops ys pos) (λU=>(top U (.bi b as) (evE Z U (.bi b as))).bind BM):=by
 exact absurd (show Ad=Ab from h) At
theorem lH(S:Snd Z CL k n)(W:XW)(T:Tc)(X:Cx)(x:Am)(c:E)(v:VX Z CL k W T X)(h:Hi (n+1) T x c=Ab):SB X CL W x (λU=>(top U c (evE Z U c)).bind BM):=by
 have plain:∀ e,LU e=Ab->A8 n T e c=Ab->SB X CL W e (λU=>(top U c (evE Z U c)).bind BM):=λe h1 h2=>fJ (S.e W T X e c v h2).st (aK h1)
 replace h:((KG x λo x=>decide (o=.Not)&&(MP c λa=>Hi n T x a))||(Jh x λo xs _=>(decide (o=.And)&&(MJ c λes=>chkBs n T xs es && !xs.isEmpty))||(decide (o=.Or)&&(MO c λes=>chkBs n T xs es && !xs.isEmpty)))||(Kv x λx os ys=>(MF c λop a b=>D2 os λop'=>D2 ys λy=>decide (op'=op) && !behindInMarks op y&&A8 n T x a&&A8 n T y b)||(MG c λop1 op2 a b c=>GB os λo1 o2=>GB ys λy z=>decide (o1=op1)&&decide (o2=op2) && !lastMarks [op1,op2] [y,z]&&A8 n T x a&&A8 n T y b&&A8 n T z c)||(MH c λb as=>PZ T (A8 n) x os ys b as))||LU x&&A8 n T x c)=Ab:=h
 replace h:=(orT h).imp_left λz=>(orT z).imp_left orT
 rcases h with ((h|h)|h)|h
 .replace h:=Oo h;obtain⟨o,y,p,rfl,h⟩:=h;replace h:=A7 h;obtain⟨h0,h⟩:=h;obtain rfl:=AQ h0;replace h:=cK h;obtain⟨a,rfl,h⟩:=h
  .skip
   refine SB.ref (fK (S.b W T X _ a v h)) λU=>?_
   show ((top U a (evE Z U a)).bind λx=>(DC x).bind λb=>.ok (.bl (!b))).bind BM=.bad\/((top U a (evE Z U a)).bind λx=>(DC x).bind λb=>.ok (.bl (!b))).bind BM=_
   cases top U a (evE Z U a) with
   |bad=>exact .inl rfl
   |exn x=>exact .inr rfl
   |ok d=>cases d<;>first|exact .inr rfl|exact .inl rfl
 .replace h:=Ld h;obtain⟨o,ys,p,rfl,h⟩:=h;replace h:=orT h;rcases h with h|h
  .replace h:=A7 h;obtain⟨h0,h⟩:=h;obtain rfl:=AQ h0;replace h:=Z_1 h;obtain⟨es,rfl,h⟩:=h;simp only[Al,Bm,DP]at h;exact(S.bs W T X _ _ _ v h.1 h.2).1.sb
  .replace h:=A7 h;obtain⟨h0,h⟩:=h;obtain rfl:=AQ h0;replace h:=cJ h;obtain⟨es,rfl,h⟩:=h;simp only[Al,Bm,DP]at h;exact(S.bs W T X _ _ _ v h.1 h.2).2.sb
 .replace h:=Od h;obtain⟨w,os,ys,p,rfl,h⟩:=h;replace h:=(orT h).imp_left orT;rcases h with (h|h)|h
  .replace h:=ZW h;obtain⟨op,a,b,rfl,h⟩:=h;replace h:=EU h;obtain⟨op',rfl,h⟩:=h;replace h:=EU h;obtain⟨y,rfl,h⟩:=h
   .simp only[Al,Bm,AD]at h;obtain⟨⟨⟨rfl,h1⟩,h2⟩,h3⟩:=h;refine SB.ref (fL (J8 v.room.units _) (S.e W T X _ a v h2).st (S.e W T X _ b v h3).st h1) λU=>?_
    show ((top U a (evE Z U a)).bind λx=>(top U b (evE Z U b)).bind λy=>BN op' x y).bind BM=.bad\/((top U a (evE Z U a)).bind λx=>(top U b (evE Z U b)).bind λy=>BN op' x y).bind BM=_
    cases top U a (evE Z U a) with
    |bad=>exact .inl rfl
    |exn x=>exact .inr rfl
    |ok d=>
     cases top U b (evE Z U b) with
     |bad=>exact .inl rfl
     |exn x=>exact .inr rfl
     |ok d'=>
      dsimp only[R.bind];exact Su _ d d'
  .replace h:=ZX h;obtain⟨op1,op2,a,b,c,rfl,h⟩:=h;replace h:=Ie h;obtain⟨o1,o2,rfl,h⟩:=h;replace h:=Ie h;obtain⟨y,z,rfl,h⟩:=h
   .simp only[Al,Bm,AD]at h;obtain⟨⟨⟨⟨⟨rfl,rfl⟩,h1⟩,h2⟩,h3⟩,h4⟩:=h;refine SB.ref (Zi v.room.units (S.e W T X _ a v h2).st (S.e W T X _ b v h3).st (S.e W T X _ c v h4).st h1) λU=>?_
    show ((top U a (evE Z U a)).bind λx=>(top U b (evE Z U b)).bind λy=>(BN o1 x y).bind λz=>(DC z).bind λk=>if k=Ab then (top U c (evE Z U c)).bind λu=>BN o2 y u else .ok (.bl Ad)).bind BM=.bad\/((top U a (evE Z U a)).bind λx=>(top U b (evE Z U b)).bind λy=>(BN o1 x y).bind λz=>(DC z).bind λk=>if k=Ab then (top U c (evE Z U c)).bind λu=>BN o2 y u else .ok (.bl Ad)).bind BM=_
    cases top U a (evE Z U a) with
    |bad=>exact .inl rfl
    |exn x=>exact .inr rfl
    |ok d=>
     cases top U b (evE Z U b) with
     |bad=>exact .inl rfl
     |exn x=>exact .inr rfl
     |ok d'=>
      dsimp only[R.bind];cases BN o1 d d' with
      |bad=>exact .inl rfl
      |exn x=>exact .inr rfl
      |ok d3=>
       cases d3 with
       |bl k=>
        cases k with
        |false=>exact .inr rfl
        |true=>
         dsimp only[R.bind,DC];rw[AC rfl,AC rfl];cases top U c (evE Z U c) with
         |bad=>exact .inl rfl
         |exn x=>exact .inr rfl
         |ok d4=>exact Su _ d' d4
       |_=>exact .inl rfl
  .replace h:=ZY h;obtain⟨b,as,rfl,h⟩:=h;exact bR S v h
 .exact plain _ (A7 h).1 (A7 h).2
end
section
variable{Z:Gam}{CL:ClA}{W:XW}{k n:Af}{T:Tc}{X:Cx}
theorem pM{b:BI}{x:Am}(v:VX Z CL k W T X)(hb:Po b=Aa g)(hg:isB T g=Ab)(hs:SAT X CL W (x::xs) (λU=>evB Z U as))(h0:Dt x=Ab)(hpl:∀ pos,(Bu pos (Ar xs X.env)).any (·.1)=Ad):OkE Z CL W X (.Call (.Name g p) (x::xs) [] pos) (.bi b as):=by
 obtain⟨g1,g2,g3,g4⟩:=G6 v hg;cases b<;>simp only[Po]at hb<;>cases hb
 .exact De (TH jJ g1 g2 PySem.boot_len hs g3 g4 (C9 h0) hpl) (λ_ _=>rfl) rfl rfl
 .exact Tb (fW fA g1 g2 VS hs g3 g4 (C9 h0) hpl) (λ_ _=>rfl) rfl
 .exact De (TF Z_6 g1 g2 VU hs g3 g4 (C9 h0) hpl) (λ_ _=>rfl) rfl rfl
 .exact De (TH (jK v.calm) g1 g2 PyProof.Rows.boot_all hs g3 g4 (C9 h0) hpl) (λ_ _=>rfl) rfl rfl
 .exact De (TF kD g1 g2 VT hs g3 g4 (C9 h0) hpl) (λ_ _=>rfl) rfl rfl
theorem Qv{β:Type}[BEq α][LawfulBEq α]{a:α}{b:β}:∀{l:Ac (α×β)},l.lookup a=Aa b->(a,b)∈l:=by
 intro l
 induction l with
 |nil=>intro h;cases h
 |cons p r ih=>
  intro h;obtain⟨x,y⟩:=p;by_cases z:(a==x)=Ab
  .simp only[BX,z]at h;cases h;rw[eq_of_beq z];exact AO
  .have z':(a==x)=Ad:=by simpa using z
   simp only[BX,z']at h;exact AF _ (ih h)
theorem JE{l:Ac (Ag×Af)}(h:inX l g c=Ab):(g,c)∈l:=by
 unfold inX at h;simp only[Dr,Al,AB]at h;obtain⟨p,hp,rfl,rfl⟩:=h;exact hp
theorem Hy{x:Am}{es:Es}(h:chkEs n T (x::xs) es=Ab):Dt x=Ab/\∃ e es',es=.cons e es'/\∃ m,n=m+1/\chkEs m T xs es'=Ab:=by
 cases n with
 |zero=>exact noF h
 |succ m=>
  cases es with
  |nil=>exact noF h
  |cons e es=>
   replace h:(Dt x&&A8 m T x e&&chkEs m T xs es)=Ab:=h;simp only[Al]at h;exact⟨h.1.1,e,es,rfl,m,rfl,h.2⟩
theorem QI:∀(m:Af)(xs:Ac Am)(es:Es),chkEs m T xs es=Ab->xs.length=es.len:=by
 intro m
 induction m with
 |zero=>intro xs es h;exact noF h
 |succ m ih=>
  intro xs es h;cases xs with
  |nil=>
   cases es with
   |nil=>rfl
   |cons e es=>exact noF h
  |cons x xs=>
   cases es with
   |nil=>exact noF h
   |cons e es=>
    have h':(Dt x&&A8 m T x e&&chkEs m T xs es)=Ab:=h;exact congrArg (· + 1) (ih xs es (A7 h').2)
theorem Hx:∀(m:Af)(xs:Ac Am)(es:Es),chkEs m T xs es=Ab->∀ pos,(Bu pos (Ar xs X.env)).any (·.1)=Ad:=by
 intro m
 induction m with
 |zero=>intro xs es h;exact noF h
 |succ m ih=>
  intro xs es h pos;cases xs with
  |nil=>rfl
  |cons x xs=>
   obtain⟨h0,e,es',rfl,m',e1,h1⟩:=Hy h;cases e1;exact Qq h0 (ih xs es' h1 pos)
theorem bT(S:Snd Z CL k n){x:Am}{b:BI}(v:VX Z CL k W T X)(h:(match M2 as with|some (s,a)=>HI x λf l ks cp=>ks.isEmpty&&(GD f λo m ap=>m==("join" : Ag)&&ap.endLine==cp.line&&(GC o λc=>decide (c=.str s)&&decide (b=.sjoin)&&(D2 l λy=>Dt y&&A8 n T y a)))|none=>Ad)=Ab):OkE Z CL W X x (.bi b as):=by
 cases q1:M2 as with
 |none=>rw[q1]at h;cases h
 |some t=>
  obtain⟨s,a⟩:=t;rw[q1]at h;obtain⟨e,te⟩:=eJ q1;subst e;replace h:=Jv h;obtain⟨f,l,ks,cp,rfl,h⟩:=h;replace h:=A7 h;obtain⟨h0,h⟩:=h;obtain rfl:=EC h0;replace h:=IY h;obtain⟨o,m,ap,rfl,h⟩:=h;replace h:=A7 h;obtain⟨h1,h⟩:=h;replace h1:=A7 h1;obtain⟨h1,h2⟩:=h1;obtain rfl:=eq_of_beq h1;replace h:=IW h;obtain⟨c,u,p,rfl,h⟩:=h;replace h:=A7 h;obtain⟨h3,h⟩:=h;replace h3:=A7 h3;obtain⟨h3,h4⟩:=h3;obtain rfl:=AQ h3;obtain rfl:=AQ h4;replace h:=EU h;obtain⟨y,rfl,h⟩:=h;replace h:=A7 h;obtain⟨h5,h6⟩:=h;refine De (SE.congr (bC (S.e W T X _ a v h6).se rfl (by rw[C9 h5];rfl) h2 (by rw[C9 h5];rfl)) λU=>?_) (λ_ _=>rfl) rfl rfl
  simp only[Mm,evB,R.bind_assoc,R.bind_ok,RK,So,te]
theorem ZC{x:Am}{b:BI}(v:VX Z CL k W T X)(h:P6 T x b as=Ab):OkE Z CL W X x (.bi b as):=by
 have bd:∀ x d:D,(match x with | .lst xs=>Lx xs d|_=>.bad)=biD .index [x,d]:=λx d=>by cases x<;>rfl
 unfold P6 at h;split at h
 .simp only[Al,AB,AD]at h;obtain⟨⟨⟨rfl,rfl⟩,h2⟩,h3⟩:=h;split at h3
  .simp only[Al]at h3;refine De (SE.congr (Rt v.room.units (Ih (Ij v h3.1)) (Ih (Ij v h3.2)) (λU e z=>Lh z) rfl rfl (by rw[h2];exact Dx _) rfl) λU=>?_) (λ_ _=>rfl) rfl rfl
   simp only[Mm,evB,R.bind_assoc,R.bind_ok,RJ]
   congr 1;funext x;congr 1;funext d
   exact(bd x d).symm
  .cases h3
 .simp only[Al,AB,AD]at h;obtain⟨⟨⟨rfl,rfl⟩,h2⟩,h3⟩:=h;split at h3
  .refine De (SE.congr (Rt v.room.units (Ih (Ij v h3)) TB.st (λU e z=>nomatch z) rfl rfl (by rw[h2];exact Dx _) rfl) λU=>?_) (λ_ _=>rfl) rfl rfl
   simp only[Mm,evB,R.bind_assoc,R.bind_ok,RJ]
   congr 1;funext x
   exact(bd x .non).symm
  .cases h3
 .cases h
theorem Za(S:Snd Z CL k n){x:Am}{b:BI}(v:VX Z CL k W T X)(h:(match M1 as with|some (a,s)=>HI x λf l ks cp=>ks.isEmpty&&(GD f λo m ap=>m==("split" : Ag)&&ap.endLine==cp.line&&Jk o&&A8 n T o a&&(D2 l λy=>GC y λc=>decide (c=.str s)&&decide (b=.ssplit)))|none=>Ad)=Ab):OkE Z CL W X x (.bi b as):=by
 cases q1:M1 as with
 |none=>rw[q1]at h;cases h
 |some t=>
  obtain⟨a,s⟩:=t;rw[q1]at h;have e:=eI q1;subst e;replace h:=Jv h;obtain⟨f,l,ks,cp,rfl,h⟩:=h;replace h:=A7 h;obtain⟨h0,h⟩:=h;obtain rfl:=EC h0;replace h:=IY h;obtain⟨o,m,ap,rfl,h⟩:=h;replace h:=A7 h;obtain⟨h1,h⟩:=h;replace h1:=A7 h1;obtain⟨h1,h6⟩:=h1;replace h1:=A7 h1;obtain⟨h1,h3⟩:=h1;replace h1:=A7 h1;obtain⟨h1,h2⟩:=h1;obtain rfl:=eq_of_beq h1;replace h:=EU h;obtain⟨y,rfl,h⟩:=h;replace h:=IW h;obtain⟨c,u,p,rfl,h⟩:=h;replace h:=A7 h;obtain⟨h4,h5⟩:=h;obtain rfl:=AQ h4;obtain rfl:=AQ h5;refine De (SE.congr (Zc (S.e W T X _ a v h6).st (Kh h3) h2).se λU=>?_) (λ_ _=>rfl) rfl rfl
  simp only[Mm,evB,R.bind_assoc,R.bind_ok,RK,So]
theorem iP(S:Snd Z CL k n){x:Am}{b:BI}(v:VX Z CL k W T X)(h:(match Qb as with|some a=>(match U_5 x with|some y=>decide (b=.rvs)&&A8 n T y a|none=>Ad)|none=>Ad)=Ab):OkE Z CL W X x (.bi b as):=by
 simp[Qb]at h
theorem gR(S:Snd Z CL k n){x:Am}{b:BI}(v:VX Z CL k W T X)(h:(match Pu as with|some (a,c)=>(match Vh x with|some (y,z,_)=>decide (b=.tlt) && !behindInMarks .Lt z&&A8 n T y a&&A8 n T z c|none=>Ad)|none=>Ad)=Ab):OkE Z CL W X x (.bi b as):=by
 simp[Pu]at h
theorem jS{x:Am}{b:BI}(v:VX Z CL k W T X)(h:Vd T x b as=Ab):OkE Z CL W X x (.bi b as):=by
 exact absurd h At
theorem fP(S:Snd Z CL k n){x:Am}{b:BI}(v:VX Z CL k W T X)(h:(match Pv as with|some (a,k)=>(match U_1 x with|some (y,j)=>decide (b=.stp)&&decide (j=k)&&decide (0<=k)&&A8 n T y a|none=>Ad)|none=>Ad)=Ab):OkE Z CL W X x (.bi b as):=by
 simp[Pv]at h
theorem gZ(S:Snd Z CL k n){x:Am}{b:BI}(v:VX Z CL k W T X)(h:(match Pz as with|some (a,c)=>(match UU x with|some (g,h,y,z)=>decide (b=.list)&&g==("list" : Ag)&&h==("range" : Ag)&&isB T g&&isB T h&&Dt y&&Dt z&&A8 n T y a&&A8 n T z c|none=>Ad)|none=>Ad)=Ab):OkE Z CL W X x (.bi b as):=by
 simp[Pz]at h
theorem cV(S:Snd Z CL k n){x:Am}{b:BI}(v:VX Z CL k W T X)(h:(match Pw as with|some a=>(match UT x with|some (g,h,y)=>decide (b=.lset)&&g==("len" : Ag)&&h==("set" : Ag)&&isB T g&&isB T h&&Dt y&&A8 n T y a|none=>Ad)|none=>Ad)=Ab):OkE Z CL W X x (.bi b as):=by
 simp[Pw]at h
theorem Q8{e:Am}{m:Ag}{o a:E}(v:VX Z CL k W T X)(h:A8 (n+1) T e (.methA m ms o a)=Ab):∃ w y ap cp,e=.Call (.Attribute w m ap) [y] [] cp/\(m==("across" : Ag)||m==("meets" : Ag))=Ab/\(ap.endLine==cp.line)=Ab/\Jk w=Ab/\A8 n T w o=Ab/\Dt y=Ab/\A8 n T y a=Ab /\
  ∀ c id C,ms.lookup c=Aa id->OC X.K c=Aa C->∃ f fd ps fr,Cls X.K C/\Meth X.K C m f/\DB X.K fd ps []/\FnOk X.prog X.w X.K X.mg X.base (CXR X.prog X.w) k f fd ps (spD X.K CL 2 fr (Z.F id)):=by
 replace h:=Jv h;obtain⟨f,l,ks,cp,rfl,h⟩:=h;replace h:=A7 h;obtain⟨h0,h⟩:=h;obtain rfl:=EC h0;replace h:=EU h;obtain⟨y,rfl,h⟩:=h;replace h:=IY h;obtain⟨w,g,ap,rfl,h⟩:=h;replace h:=A7 h;obtain⟨h,h7⟩:=h;replace h:=A7 h;obtain⟨h,h6⟩:=h;replace h:=A7 h;obtain⟨h,h5⟩:=h;replace h:=A7 h;obtain⟨h,h4⟩:=h;replace h:=A7 h;obtain⟨h,h3⟩:=h;replace h:=A7 h;obtain⟨h,h2⟩:=h;replace h:=A7 h;obtain⟨h,h1⟩:=h;obtain rfl:=eq_of_beq h;refine⟨w,y,ap,cp,rfl,h1,h2,h3,h4,h5,h6,λc id C hl hC=>?_⟩
 have hm:=Ca.mp h7 _ (Qv hl);simp only[Dr,Al,AB]at hm;obtain⟨hz,p,hp,⟨e1,e2⟩,e3⟩:=hm;obtain⟨fa,fd,ps,m1,m2,m3,m4,m5,_⟩:=v.fn p hp;have m5:=m5 (by omega)
 rw[e3,e2]at m5;have at1:=Ra m1 e1 hC;exact⟨fa,fd,ps,_,(v.os.oc c C hC).cl,⟨at1,v.os.mf2 c C _ fa hC (by simpa using hz) h1 at1,m2⟩,m3,m5⟩
theorem lG(S:Snd Z CL k n)(W:XW)(T:Tc)(X:Cx)(x:Am)(c:E)(v:VX Z CL k W T X)(h:A8 (n+1) T x c=Ab):OkE Z CL W X x c:=by
 cases c with
 |non=>
  replace h:=IW h;obtain⟨c,u,p,rfl,h⟩:=h;obtain rfl:=AQ h;exact De TB (λ_ _=>rfl) rfl rfl
 |bl b=>
  replace h:=IW h;obtain⟨c,u,p,rfl,h⟩:=h;obtain rfl:=AQ h;exact De TU (λ_ _=>rfl) rfl rfl
 |int i=>
  replace h:=IW h;obtain⟨c,u,p,rfl,h⟩:=h;obtain rfl:=AQ h;exact De fF (λ_ _=>rfl) rfl rfl
 |str i=>
  replace h:=IW h;obtain⟨c,u,p,rfl,h⟩:=h;obtain rfl:=AQ h;exact De Mr (λ_ _=>rfl) rfl rfl
 |var i=>
  replace h:=ED h;obtain⟨y,p,rfl,h⟩:=h;exact⟨fZ (Ij v h),Ih (Ij v h),λz=>(nomatch z),λz=>(nomatch z)⟩
 |glob g=>exact absurd (show Ad=Ab from h) At
 |bin op a b=>
  replace h:=Q7 h;obtain⟨y,op',z,p,rfl,h⟩:=h;simp only[Al,AD]at h;obtain⟨⟨rfl,h1⟩,h2⟩:=h;have ha:=(S.e W T X _ a v h1).st;have hb:=(S.e W T X _ b v h2).st;refine⟨OU (On _) ha hb,(OU (On _) ha hb).st,λz=>?_,λz=>nomatch z⟩
  cases op'<;>first|exact fX ha hb|cases z
 |un op a=>exact absurd (show Ad=Ab from h) At
 |no a=>
  replace h:=Oo h;obtain⟨o,y,p,rfl,h⟩:=h;replace h:=A7 h;obtain⟨h0,h⟩:=h;obtain rfl:=AQ h0;exact De (Tz (S.e W T X _ a v h).st) (λ_ _=>rfl) rfl rfl
 |and es=>
  replace h:=Ld h;obtain⟨o,ys,p,rfl,h⟩:=h;replace h:=A7 h;obtain⟨h0,h⟩:=h;obtain rfl:=AQ h0;simp only[Al,Bm,DP]at h;exact De ((S.es W T X _ es v h.1).2.2.2.1 _ h.2).1 (λ_ _=>rfl) rfl rfl
 |or es=>
  replace h:=Ld h;obtain⟨o,ys,p,rfl,h⟩:=h;replace h:=A7 h;obtain⟨h0,h⟩:=h;obtain rfl:=AQ h0;simp only[Al,Bm,DP]at h;exact De ((S.es W T X _ es v h.1).2.2.2.1 _ h.2).2 (λ_ _=>rfl) rfl rfl
 |cmp op a b=>
  replace h:=Od h;obtain⟨y,os,ys,p,rfl,h⟩:=h;replace h:=EU h;obtain⟨op',rfl,h⟩:=h;replace h:=EU h;obtain⟨z,rfl,h⟩:=h;simp only[Al,Bm,AD]at h;obtain⟨⟨⟨rfl,h1⟩,h2⟩,h3⟩:=h;exact De (fH (J8 v.room.units _) (S.e W T X _ a v h2).st (S.e W T X _ b v h3).st h1) (λ_ _=>rfl) rfl rfl
 |cmp2 op1 op2 a b c=>
  replace h:=Od h;obtain⟨y,os,ys,p,rfl,h⟩:=h;replace h:=Ie h;obtain⟨o1,o2,rfl,h⟩:=h;replace h:=Ie h;obtain⟨z,w,rfl,h⟩:=h;simp only[Al,Bm,AD]at h;obtain⟨⟨⟨⟨⟨rfl,rfl⟩,h1⟩,h2⟩,h3⟩,h4⟩:=h;exact De (Zg v.room.units (S.e W T X _ a v h2).st (S.e W T X _ b v h3).st (S.e W T X _ c v h4).st h1) (λ_ _=>rfl) rfl rfl
 |ite c a b=>exact absurd (show Ad=Ab from h) At
 |call f as=>
  replace h:=Ia h;obtain⟨g,pp,y,ys,qq,rfl,h⟩:=h;simp only[Al,Dr,AB,AD]at h;obtain⟨⟨⟨⟨⟨p,hp,⟨rfl,rfl⟩,hl⟩,h900⟩,h1⟩,h2⟩,h3⟩:=h;obtain⟨fa,fd,ps,m1,m2,m3,m4,m5,_⟩:=v.fn p hp;have hlt:p.2.2<1000:=by omega
  rw[FJ hlt]at m4 m5;have m5:=m5 hlt;obtain⟨n2,n3,n4⟩:=Fx h2;replace m1:=L3 m1 (Mf h2);obtain⟨a1,a2,a3,a4,a5⟩:=S.es W T X _ as v h3;obtain⟨s0,e,es',rfl,m,rfl,s1⟩:=Hy h3;have q:SC X CL W (Z.fr p.2.1) (.Call (.Name p.1 pp) (y::ys) [] qq) (λU=>evE Z U (.call p.2.1 (.cons e es'))):=aA (sh:=λU=>Hd U (.cons e es')) m5 v.room (by unfold glB at h1;show X.env.scope.names.lookup p.1=_;rw[v.sc];exact eq_of_beq h1) m1 m2 m3 v.px a1 a2 (λU z=>Lp Z U _ z) (λU ds z=>by rw[Ln Z U _ _ z,<-a3,hl];rfl) n2 (C9 s0) (Hx m ys es' s1)
  exact⟨q.se,q.se.st,λz=>by
   have z':Z.fr p.2.1=Ab:=z;rw[z']at q;exact q,λz=>nomatch z⟩
 |bi b as=>
  unfold A8 at h;dsimp only at h;simp only[BS]at h;rcases h with (((((((h|h)|h)|h)|h)|h)|h)|h)|h
  .replace h:=Ia h;obtain⟨g,pp,y,ys,qq,rfl,h⟩:=h;simp only[Al,AB]at h;obtain⟨⟨h1,h2⟩,h3⟩:=h;obtain⟨s0,e,es',rfl,m,rfl,s1⟩:=Hy h3;exact pM v h1 h2 (S.es W T X _ _ v h3).2.1 s0 (Hx m _ es' s1)
  .rcases h with h|h
   .exact jS v h
   .exact ZC v h
  .exact gZ S v h
  .exact fP S v h
  .exact cV S v h
  .exact gR S v h
  .exact bT S v h
  .exact Za S v h
  .exact iP S v h
 |isi a ks=>
  replace h:=orT h;rcases h with h|h
  .skip
   replace h:=EU h;obtain⟨k',rfl,h⟩:=h;replace h:=IX h;obtain⟨g,pp,l,qq,rfl,h⟩:=h;replace h:=Ie h;obtain⟨y,t,rfl,h⟩:=h;replace h:=ED h;obtain⟨t,pt,rfl,h⟩:=h;simp only[Al,AB]at h;obtain⟨⟨⟨⟨⟨rfl,h1⟩,h2⟩,h3⟩,h4⟩,h5⟩:=h;obtain⟨g1,g2,_,_⟩:=G6 v h1;obtain⟨b1,b2,b3,b4⟩:=G6 v h3;obtain⟨ty,t1,t2⟩:=pL h2;exact De (fE t1 g1 g2 b1 b2 t2 b3 b4 (S.e W T X _ a v h5).st (C9 h4)) (λ_ _=>rfl) rfl rfl
  .replace h:=EU h;obtain⟨k',rfl,h⟩:=h;replace h:=IX h;obtain⟨g,pp,l,qq,rfl,h⟩:=h;replace h:=Ie h;obtain⟨y,t,rfl,h⟩:=h;replace h:=ED h;obtain⟨t,pt,rfl,h⟩:=h;simp only[Al,AB]at h;obtain⟨⟨⟨⟨rfl,h1⟩,h4⟩,h5⟩,h6⟩:=h;obtain⟨g1,g2,_,_⟩:=G6 v h1;cases k' with
   |verr=>
    replace h6:=A7 (a:=t==("ValueError" : Ag)) h6;obtain⟨h6,h7⟩:=h6;obtain rfl:=eq_of_beq h6;obtain⟨b1,b2,_,_⟩:=G6 v h7;exact De (TC v.xt.xc g1 g2 b1 b2 (S.e W T X _ a v h5).st (C9 h4)) (λ_ _=>rfl) rfl rfl
   |cls c=>
    replace h6:=A7 (a:=inX T.exs t c&&glB T t) h6;obtain⟨h6,h8⟩:=h6;replace h6:=A7 h6;obtain⟨h6,h7⟩:=h6;obtain⟨C,m1,m3,_⟩:=v.xt.ex _ (JE h6);obtain⟨n2,_,_⟩:=Fx h8;exact De (TD v.xt.xc g1 g2 (by unfold glB at h7;show X.env.scope.names.lookup _=_;rw[v.sc];exact eq_of_beq h7) m1 m3 n2 (S.e W T X _ a v h5).st (C9 h4)) (λ_ _=>rfl) rfl rfl
   |_=>exact noF h6
 |idx a i=>
  replace h:=ZS h;obtain⟨y,z,p,rfl,h⟩:=h;simp only[Al]at h;obtain⟨⟨h1,h2⟩,h3⟩:=h;exact De (fG (Zd h1) (S.e W T X _ a v h2).st (S.e W T X _ i v h3).st) (λ_ _=>rfl) rfl rfl
 |sl a lo hi=>exact absurd (show Ad=Ab from h) At
 |tup es=>
  replace h:=Kb h;obtain⟨ys,cc,p,rfl,h⟩:=h;simp only[Al,AD]at h;have q:=S.es W T X _ es v h.1;exact De (Tx q.1 λU ds z=>by rw[G7 Z U _ _ z,<-q.2.2.1];omega) (λ_ _=>rfl) rfl rfl
 |lst es=>
  replace h:=L7 h;obtain⟨ys,p,rfl,h⟩:=h;simp only[Al,AD]at h;have q:=S.es W T X _ es v h.1;exact Tb (OJ q.1 λU ds z=>by rw[G7 Z U _ _ z,<-q.2.2.1];omega) (λ_ _=>rfl) rfl
 |comp elt t it c=>
  replace h:=RV (e:=x) (F:=_) (by unfold A8 at h;exact h)
  obtain⟨y,tg,it',ifs,scope,p,rfl,h⟩:=h;replace h:=ED h;obtain⟨w,pw,rfl,h⟩:=h;simp only[Al]at h;obtain⟨⟨⟨⟨⟨h1,h2⟩,h3⟩,h4⟩,h5⟩,h6⟩:=h;refine oX v.calm ⟨_,_,_,_,_,_,_,_,_,_,_,_,_,rfl,(O7 v h3).1,S.i W T X Ad _ _ it v rfl h1,eS t,λcl C s H fp=>bS (v.blk h3) (λz=>AB.mpr z) h4,λcl C s H fp=>S.t _ _ _ c (v.blk h3) h5,λcl C s H fp=>(S.e W0 _ _ _ elt (v.blk h3) h6).se,Kj h2,λU=>rfl⟩ (λ_ _=>rfl)
 |compT elt ts it c=>exact absurd (show Ad=Ab from h) At
 |tupI it=>exact absurd (show Ad=Ab from h) At
 |dnew=>exact noF h
 |fld o f=>
  replace h:=IY h;obtain⟨w,g,p,rfl,h⟩:=h;simp only[Al,AB]at h;obtain⟨⟨⟨rfl,h2⟩,h3⟩,h4⟩:=h;exact De (Sb v.xt.xc (λc C z=>v.xt.nf c C z _ h2) (S.e W T X _ o v h4).st (Kh h3)) (λ_ _=>rfl) rfl rfl
 |ofl o f=>
  replace h:=IY h;obtain⟨w,g,p,rfl,h⟩:=h;simp only[Al,BS,AB]at h;obtain⟨⟨⟨rfl,h2⟩,h3⟩,h4⟩:=h;refine De (gA (λc C z=>?_) (S.e W T X _ o v h4).st (Kh h3)) (λ_ _=>rfl) rfl rfl
  rcases h2 with h2|h2<;>rw[h2]
  .exact⟨(v.os.oc c C z).cl,(v.os.oc c C z).nt⟩
  .exact⟨(v.os.oc c C z).cl,(v.os.oc c C z).np⟩
 |iso a k'=>
  replace h:=IX h;obtain⟨g,pp,l,qq,rfl,h⟩:=h;replace h:=Ie h;obtain⟨y,t,rfl,h⟩:=h;replace h:=ED h;obtain⟨t,pt,rfl,h⟩:=h;unfold ocB at h;simp only[Al,AB,AD]at h;obtain⟨⟨⟨⟨rfl,h1⟩,h4⟩,h5⟩,⟨⟨⟨e6,h7⟩,h8⟩,h9⟩⟩:=h;obtain⟨g1,g2,_,_⟩:=G6 v h1;obtain⟨n2,_,_⟩:=Fx h9;obtain⟨C',o1,o2⟩:=v.os.at_ k' h7;exact De (gG v.os.oc g1 g2 (by unfold glB at h8;show X.env.scope.names.lookup _=_;rw[v.sc];exact eq_of_beq h8) (by rw[e6];exact o2) (λc C z=>v.os.kit c C k' C' z o1) n2 (S.e W T X _ a v h5).st (C9 h4)) (λ_ _=>rfl) rfl rfl
 |meth m ms o=>
  replace h:=Jv h;obtain⟨f,l,ks,cp,rfl,h⟩:=h;replace h:=A7 h;obtain⟨h0,h⟩:=h;obtain rfl:=EC h0;replace h:=A7 h;obtain⟨h0',h⟩:=h;obtain rfl:=EC h0';replace h:=IY h;obtain⟨w,g,ap,rfl,h⟩:=h;replace h:=A7 h;obtain⟨h,h5⟩:=h;replace h:=A7 h;obtain⟨h,h4⟩:=h;replace h:=A7 h;obtain⟨h,h3⟩:=h;replace h:=A7 h;obtain⟨h,h2⟩:=h;replace h:=A7 h;obtain⟨h,h1⟩:=h;obtain rfl:=eq_of_beq h;refine De (bA v.room v.px (S.e W T X _ o v h4).st (λc id C hl hC=>?_) (Kh h3) h2) (λ_ _=>rfl) rfl rfl
  have hm:=Ca.mp h5 _ (Qv hl);simp only[Dr,Al,AB]at hm;obtain⟨p,hp,⟨e1,e2⟩,e3⟩:=hm;obtain⟨fa,fd,ps,m1,m2,m3,m4,m5,_⟩:=v.fn p hp;have m5:=m5 (by omega)
  rw[e3,e2]at m5;have at1:=Ra m1 e1 hC;exact⟨fa,fd,ps,_,(v.os.oc c C hC).cl,⟨at1,v.os.mf c C _ fa hC h1 at1,m2⟩,m3,m5⟩
 |mkob c e=>exact noF h
 |methA m ms o a=>
  obtain⟨w,y,ap,cp,rfl,h1,h2,h3,h4,h5,h6,hms⟩:=Q8 v h;exact De (Ze v.room v.px (S.e W T X _ o v h4).st (S.e W T X _ a v h6).se hms (Kh h3) h2 (C9 h5)) (λ_ _=>rfl) rfl rfl
 |mkn c as=>
  replace h:=Ia h;obtain⟨g,np,x,xs,cpos,rfl,h⟩:=h;unfold ocB at h;simp only[Al,AB,AD]at h;obtain⟨⟨⟨⟨⟨e6,h7⟩,h8⟩,h9⟩,hl⟩,h5⟩:=h;obtain⟨n2,_,_⟩:=Fx h9;obtain⟨s0,e,es',rfl,m,rfl,s1⟩:=Hy h5;have q:=S.es W T X _ _ v h5;rcases v.mkr c h7 with hb|⟨C,f,fd,G,k',o1,M,hb,hk,FI,hF⟩
  .obtain⟨C',o2,o3⟩:=v.os.at_ c h7;exact De (Zf (v.os.kp c _ o2) hb (by unfold glB at h8;show X.env.scope.names.lookup g=_;rw[v.sc];exact eq_of_beq h8) (by rw[e6];exact o3) n2 q.1 (C9 s0) (Hx m xs es' s1 _)) (λ_ _=>rfl) rfl rfl
  .obtain⟨C',o2,o3⟩:=v.os.at_ c h7;have:C'=C:=by rw[o1]at o2;exact(Bk o2).symm
   subst this;subst hk;exact De (bB M o1 (v.os.oc c _ o1) FI v.room hb v.px hF (by unfold glB at h8;show X.env.scope.names.lookup g=_;rw[v.sc];exact eq_of_beq h8) (by rw[e6];exact o3) n2 q.1 (λU ds z=>by rw[G7 Z U _ _ z,<-q.2.2.1,Ba,hl]) (C9 s0) (Hx m xs es' s1 _)) (λ_ _=>rfl) rfl rfl
 |mkx c as=>
  replace h:=A7 h;obtain⟨h0,h⟩:=h;replace h:=Ia h;obtain⟨g,np,x,xs,cpos,rfl,h⟩:=h;simp only[Al,AD]at h;obtain⟨⟨⟨⟨h1,h2⟩,h3⟩,h4⟩,h5⟩:=h;obtain⟨C,m1,m2⟩:=v.xt.rz _ (JE h1);obtain⟨n2,_,_⟩:=Fx h3;obtain⟨s0,e,es',rfl,m,rfl,s1⟩:=Hy h5;have q:=S.es W T X _ _ v h5;exact De (nG (v.ex h0) v.room (by unfold glB at h2;show X.env.scope.names.lookup g=_;rw[v.sc];exact eq_of_beq h2) m2 n2 m1 q.1 (λds=>v.xt.made c C ds m1) (C9 s0) (Hx m xs es' s1 _) (λU ds z=>by rw[G7 Z U _ _ z,<-q.2.2.1,Ba];omega)) (λ_ _=>rfl) rfl rfl
theorem snd:∀ n,Snd Z CL k n
 |0=>Zb
 |n+1=>⟨lG (snd n),lH (snd n),fS (snd n),fR (snd n),lE (snd n),lC (snd n),lF (snd n)⟩
end
section
variable{Z:Gam}{CL:ClA}{W:XW}{k n:Af}{T:Tc}{X:Cx}
theorem RN{t:Af}(v:VX Z CL k W T X)(hf:∀ x,X.fn x=Ab)(h:tgC T [t] [x]=Ab):PG X (.Name x pos) (Eg t):=by
 unfold tgC at h;simp only[Al,AB]at h;exact Lk (by rw[v.N];exact v.nd) (by rw[v.N];exact h.1.1) (by rw[v.sc];exact JA h.1.2) (.inl (hf x))
theorem aH(v:VX Z CL k W T X)(hf:∀ x,X.fn x=Ab):∀(ys:Ac Am)(ts:Ac Af)(zs:Ac Ag),Fw ys=Aa zs->tgC T ts zs=Ab->PGs X ys (ts.foldr (λt u=>Ir (Eg t) u) Ix)/\ts.length=ys.length:=by
 intro ys
 induction ys with
 |nil=>
  intro ts zs e h;cases e;cases ts with
  |nil=>exact⟨Sf,rfl⟩
  |cons t ts=>cases h
 |cons y r ih=>
  intro ts zs e h;obtain⟨x,p,ws,rfl,e2,rfl⟩:=Nz e;cases ts with
  |nil=>cases h
  |cons t ts=>
   have h':(T.N[t]? == Aa x&&Gk T x&&tgC T ts ws)=Ab:=h;simp only[Al,AB]at h';obtain⟨h1,h2⟩:=ih ts ws e2 h'.2;exact⟨Ry (Lk (by rw[v.N];exact v.nd) (by rw[v.N];exact h'.1.1) (by rw[v.sc];exact JA h'.1.2) (.inl (hf x))) h1 (by rw[NR];rfl),congrArg (· + 1) h2⟩
theorem RM(v:VX Z CL k W T X)(hf:∀ x,X.fn x=Ab)(hn:(Fw ys).isSome=Ab)(h:tgC T ts (tgN ys)=Ab):PG X (.Tuple ys kk pos) (LO X.K ts.length (ts.foldr (λt u=>Ir (Eg t) u) Ix)):=by
 cases e:Fw ys with
 |none=>rw[e]at hn;cases hn
 |some zs=>
  have e2:tgN ys=zs:=by unfold tgN;rw[e];rfl
  rw[e2]at h;obtain⟨h1,h2⟩:=aH v hf ys ts zs e h;obtain⟨h3,h4,_⟩:=Qm (env:=X.env) ys zs e;exact S5 v.calm h1 (by rw[h3,h2]) h4
theorem NI(ts:Ac Af):∀ d U x,ER ts d U≠.exn x:=λd U x h=>by
 unfold ER at h;cases d with
 |tup xs=>
  dsimp only at h;cases e:Er ts xs U with
  |some r=>rw[e]at h;cases h
  |none=>rw[e]at h;cases h
 |_=>cases h
theorem Y_5{gs:Ac Iz}{l:Af}:∃ b,CF (.ListComp elt gs scope pos) (Aa (.Name x pos')) l env=pure b/\(b=Ab->env.scope.names.lookup x=Aa .local):=by
 refine⟨_,rfl,λh=>?_⟩
 simp only[Al,AB]at h;exact h.1.1.2
theorem OX{v0:Am}{i:Af}{e:E}{fr:Ak}(v:VX Z CL k W T X)(hf:∀ x,X.fn x=Ab)(hi:T.N[i]?=Aa x)(hl:Gk T x=Ab)(o:OkE Z CL W X v0 e)(hfr:fr=Ab->Ew Z e=Ab):SAs X CL W fr i (.Assign [.Name x p] v0 pos) (λU=>evE Z U e):=by
 have hN:X.N.Nodup:=by rw[v.N];exact v.nd
 have hi':X.N[i]?=Aa x:=by rw[v.N];exact hi
 have hx:Loc X.env.scope x:=by rw[v.sc];exact JA hl
 have sc:SC X CL W fr v0 (λU=>evE Z U e):=by
  cases fr with
  |false=>exact o.se.sc
  |true=>exact o.nw (hfr rfl)
 cases hc:Gg v0 with
 |true=>exact SC.sas hN hi' hx sc (Ib hc) (.inl (hf x))
 |false=>
  obtain⟨tg,iter,elt,ifs,scope,pos2,N',ts,fi,fc,fe,as,g,rfl,B,h2,hGG,hg,ht,he,hs,ef⟩:=o.cp hc;obtain⟨b,hb,hb'⟩:=Y_5 (elt:=elt) (gs:=[⟨tg,iter,ifs,0⟩]) (scope:=scope) (pos:=pos2) (pos':=p) (x:=x) (l:=pos.line) (env:=X.env);cases b with
  |false=>exact SC.sas hN hi' hx sc hb (.inl (hf x))
  |true=>
   have q:=YO (pos2:=pos) v.calm B h2 hGG hg ht he hs hN hi' (hb' rfl) hb;have q':SAs X CL W Ab i (.Assign [.Name x p] (.ListComp elt [⟨tg,iter,ifs,0⟩] scope pos2) pos) (λU=>evE Z U e):=by
    have:(λU=>evE Z U e)=_:=funext ef
    rw[this];exact q
   cases fr with
   |true=>exact q'
   | false=>exact λA=>PS.weak (q' A) λD Y H ⟨hA,U,gd,z⟩=>⟨hA,U,gd,by
     dsimp only at z ⊢;cases e0:evE Z U e with
     |ok d=>
      rw[e0]at z;exact λv' H' s' r'=>z v' H' s' ⟨r'.1,λ_=>r'.2 rfl⟩
     |exn y=>rw[e0]at z;exact z
     | bad=>rw[e0]at z;exact z⟩
theorem QF(U:Rho)(e:E)(h:∀ i,e≠.var i):evS Z U (.ret e)=O.of U (evE Z U e) λd=>.ret d (Ew Z e):=by
 have k:∀ b:Ak,b=Ad->top U e (evE Z U e)=evE Z U e->(O.of U (top U e (evE Z U e)) λd=>.ret d (Ew Z e||b))=O.of U (evE Z U e) λd=>.ret d (Ew Z e):=λb hb ht=>by
  rw[hb,ht];simp only[DH]
 rw[RU];cases e with
 |var i=>exact absurd rfl (h i)
 |_=>exact k _ rfl rfl
structure DefX (X:Cx):Prop where
 fn:∀ x,X.fn x=Ab
 ex:X.ex=[]
 st:X.stack=X.env::X.outer
 fm:X.env.frame=Aa X.env.locals
structure SndS (Z:Gam) (CL:ClA) (k:Af) (n:Af):Prop where
 s:∀(W:XW)(T:Tc)(X:Cx)(x:AG)(c:S),VX Z CL k W T X->DefX X->LN n T x c=Ab->SS X CL W x (λU=>evS Z U c)
 ss:∀(W:XW)(T:Tc)(X:Cx)(x:Ac AG)(c:Ss),VX Z CL k W T X->DefX X->chkSs n T x c=Ab->SSs X CL W x (λU=>evSs Z U c)
theorem eO(x y:D)(e:Ex):F6 x y≠.exn e:=by
 intro z;cases x with
 |lst xs=>cases y<;>first|exact Kf z|cases z
 |tup xs=>cases y<;>first|exact Kf z|cases z
 |str x=>
  cases y with
  |int i=>
   have z':(if Dl x.length=Ab then Dq (KI x) i else .bad)=.exn e:=z
   split at z'
   .exact Kf z'
   .cases z'
  |_=>cases z
 |dic kvs=>
  have z':(match (Jl y).bind (O4 kvs) with|some d=>R.ok d|none=>.bad)=.exn e:=z
  cases h:(Jl y).bind (O4 kvs) with
  |none=>rw[h]at z';cases z'
  |some k=>rw[h]at z';cases z'
 |_=>cases z
theorem RI{i:Af}{y:Ex}:DW U i≠.exn y:=λz'=>by
 exact Lh z'
theorem L5(Z:Gam)(U:Rho)(e:E)(h:MU e=Ab)(y:Ex):top U e (evE Z U e)≠.exn y:=by
 cases e with
 |var i=>
  intro z;have z':DW U i=.exn y:=z;exact Lh z'
 |idx a b=>
  cases a with
  |var i=>
   cases b with
   |int j=>
    intro z;have z':(DW U i).bind (λx=>F6 x (.int j))=.exn y:=z
    cases e1:DW U i with
    |bad=>rw[e1]at z';cases z'
    |exn w=>exact RI e1
    |ok d=>rw[e1]at z';exact eO _ _ _ z'
   |_=>exact noF h
  |_=>exact noF h
 |bin op a b=>
  have h:(U_3 op&&PY a b)=Ab:=h;rw[Al]at h;obtain⟨h0,h⟩:=h;cases op with
  |Sub=>
   cases a with
   |var i=>
    cases b with
    |int j=>
     intro z;have z':(DW U i).bind (λx=>CM .Sub x (.int j))=.exn y:=z
     cases e1:DW U i with
     |bad=>rw[e1]at z';cases z'
     |exn w=>exact RI e1
     |ok d=>rw[e1]at z';cases d<;>cases z'
    |_=>exact noF h
   |_=>exact noF h
  |_=>exact absurd (show Ad=Ab from h0) At
 |int i=>intro z;cases z
 |bl i=>intro z;cases z
 |str i=>intro z;cases z
 |non=>intro z;cases z
 |_=>cases h
theorem LR(Z:Gam)(U:Rho):∀(es:Es),Ip es=Ab->∀ y,evB Z U es≠.exn y
 |.nil,_,y=>λz=>by cases z
 |.cons e es,h,y=>λz=>by
  unfold Ip at h;rw[Al]at h;rw[Oi]at z;cases e1:top U e (evE Z U e) with
  |bad=>rw[e1]at z;cases z
  |exn w=>exact L5 Z U e h.1 w e1
  |ok d=>
   rw[e1,R.bind_ok]at z;cases e2:evB Z U es with
   |bad=>rw[e2]at z;cases z
   |exn w=>exact LR Z U es h.2 w e2
   |ok ds=>rw[e2]at z;cases z
theorem VX.pw(v:VX Z CL k W T X)(own:Dz (model X.prog X.w) X.A X.env Xw):VX Z CL k W0 T (Cx.pw X pI Xw):=⟨v.sc,v.kd,v.N,v.nd,v.calm,v.room,v.bl,v.os,v.mkr,v.fn,own,S9,U_4,UN,v.xt,v.gl,v.ex⟩
theorem QR(o:O):(o.seq λU'=>O.next U')=o:=by cases o<;>rfl
theorem STB.congr{st:Ac AG}{f g:Rho->O}(h:STB X CL st f)(e:∀ U,g U=f U):STB X CL st g:=by
 have:g=f:=funext e;rw[this];exact h
theorem NX(Z:Gam)(U:Rho):∀(es:Es),Pd es=Ab->∀ y,evA Z U es≠.exn y
 |.nil,_,y=>λz=>by cases z
 |.cons e es,h,y=>λz=>by
  replace h:=A7 h;cases e with
  |var i=>
   have z':(EF U i).bind (λx=>(evA Z U es).bind λxs=>.ok (x::xs))=.exn y:=z
   cases e1:EF U i with
   |bad=>rw[e1]at z';cases z'
   |exn w=>
    unfold EF at e1;split at e1<;>cases e1
   |ok d=>
    rw[e1,R.bind_ok]at z';cases e2:evA Z U es with
    |bad=>rw[e2]at z';cases z'
    |exn w=>exact NX Z U es h.2 w e2
    |ok ds=>rw[e2]at z';cases z'
  |_=>exact noF h.1
theorem kZ(v:VX Z CL k W T X){e:Am}{c:E}(h:ML n T e c=Ab)(pI:Pn)(Xw:Vq)(own:Dz (model X.prog X.w) X.A X.env Xw)(Y0:L2.St)(E0:XK)(A:Ah->Prop)(hx:∀ pins' H1 s1 ev s',Inv (Cx.pw X pI Xw) pins' Y0 H1 s1->CXR X.prog X.w X.stack H1 s1 E0 ev s'->Xw ev s'):PE (Cx.pw X pI Xw) e (λY H Q=>Y=Y0/\AOk H A/\∃ U,Good X.K CL A U Y H/\G8 X.K CL (λH=>Rep X.K CL H A) E0 H (evE Z U c) Q):=by
 have v':=v.pw (pI:=pI) own;cases c with
 |mkn c as=>
  replace h:=A7 h;obtain⟨h,hsim⟩:=h;cases n with
  |zero=>exact noF h
  |succ n=>
   replace h:=Ia h;obtain⟨g,np,x,xs,cpos,rfl,h⟩:=h;unfold ocB at h;simp only[Al,AB,AD]at h;obtain⟨⟨⟨⟨⟨e6,h7⟩,h8⟩,h9⟩,hl⟩,h5⟩:=h;obtain⟨n2,_,_⟩:=Fx h9;obtain⟨s0,e,es',rfl,m,rfl,s1⟩:=Hy h5;have q:=(snd (Z:=Z) (CL:=CL) (k:=k) (m+1)).es W0 T (Cx.pw X pI Xw) _ _ v' h5;rcases v.mkr c h7 with hb|⟨C,f,fd,G,k',o1,M,hb,hk,FI,hF⟩
   .intro pins' s Y H Q I ⟨_,_,U,_,p⟩
    exfalso
    have p':G8 X.K CL (λH=>Rep X.K CL H A) E0 H ((evA Z U (.cons e es')).bind λxs=>Z.F (900+c) xs) Q:=p
    cases e1:evA Z U (.cons e es') with
    |bad=>rw[e1]at p';exact p'.elim
    |exn y=>exact NX Z U _ hsim y e1
    |ok ds=>rw[e1,R.bind_ok,hb ds]at p';exact p'.elim
   .obtain⟨C',o2,o3⟩:=v.os.at_ c h7;have:C'=C:=by rw[o1]at o2;exact(Bk o2).symm
    subst this;subst hk;exact ZM (X:=Cx.pw X pI Xw) (F:=Z.F (900+c)) (fs:=λU=>evA Z U (.cons e es')) M o1 (v.os.oc c _ o1) FI v.room hb hx hF (by unfold glB at h8;show X.env.scope.names.lookup g=_;rw[v.sc];exact eq_of_beq h8) (by rw[e6];exact o3) n2 q.1 (λU y=>NX Z U _ hsim y) (λU ds z=>by rw[G7 Z U _ _ z,<-q.2.2.1,Ba,hl]) (C9 s0) (Hx m xs es' s1 _) A
 |methA m ms o a=>
  cases n with
  |zero=>exact noF h
  |succ n=>
   obtain⟨w,y,ap,cp,rfl,h1,h2,h3,h4,h5,h6,hms⟩:=Q8 v' h;exact Q2 (X:=Cx.pw X pI Xw) (F:=Z.F) v.room hx ((snd (Z:=Z) (CL:=CL) (k:=k) n).e W0 T (Cx.pw X pI Xw) _ o v' h4).st ((snd (Z:=Z) (CL:=CL) (k:=k) n).e W0 T (Cx.pw X pI Xw) _ a v' h6).se hms (Kh h3) h2 (C9 h5) A
 |_=>exact noF h
theorem Ys{v:Am}{c:E}(h:ML n T v c=Ab):Gg v=Ab:=by
 cases c with
 |mkn c as=>
  replace h:=A7 h;obtain⟨h,_⟩:=h;cases n with
  |zero=>exact noF h
  |succ n=>
   replace h:=Ia h;obtain⟨g,np,x,xs,cpos,rfl,h⟩:=h;rfl
 |methA m ms o a=>
  cases n with
  |zero=>exact noF h
  |succ n=>
   replace h:=Jv h;obtain⟨f,l,ks,cp,rfl,h⟩:=h;rfl
 |_=>exact noF h
theorem Tq(Sn:Snd Z CL k n)(v:VX Z CL k W T X)(hf:DefX X){st:AG}{s:S}(h:Mo n T st s=Ab):STB X CL [st] (λU=>evSs Z U (.cons s .nil))/\∀ U y U',evSs Z U (.cons s .nil)=.exn y U'->U'=U:=by
 have seq:∀ U,evSs Z U (.cons s .nil)=evS Z U s:=λU=>QR _
 have ofn:∀{r:R D}{f:D->Rho}{U U':Rho}{y:Ex},(O.of U r λd=>O.next (f d))=.exn y U'->U'=U:=λ{r f U U' y} z=>by
  cases r with
  |ok d=>cases z
  |exn w=>cases z;rfl
  |bad=>cases z
 have call:∀{e:Am}{f:Af}{as:Es},A8 n T e (.call f as)=Ab->Ip as=Ab->∃ g pp y ys qq,e=.Call (.Name g pp) (y::ys) [] qq/\∃ p∈T.fns,g=p.1/\f=p.2.1/\p.2.2=ys.length+1/\ys.length<900/\glB T g=Ab/\Fi g=Ab/\∃ m,n=m+1/\chkEs m T (y::ys) as=Ab:=λ{e f as} h _=>by
  cases n with
  |zero=>exact noF h
  |succ m=>
   replace h:=Ia h;obtain⟨g,pp,y,ys,qq,rfl,h⟩:=h;simp only[Al,Dr,AB,AD]at h;obtain⟨⟨⟨⟨⟨p,hp,⟨e1,e2⟩,hl⟩,h900⟩,h1⟩,h2⟩,h3⟩:=h;exact⟨g,pp,y,ys,qq,rfl,p,hp,e1.symm,e2.symm,hl,h900,h1,h2,m,rfl,h3⟩
 cases s with
 |expr e0=>
  replace h:((Kw e0 λf as=>Jg st λv=>A8 n T v (.call f as)&&Ip as)||(Jg st λv=>ML n T v e0))=Ab:=h
  replace h:=orT h;rcases h with h|h
  rotate_left
  .replace h:=L9 h;obtain⟨v0,pos,rfl,h⟩:=h;refine⟨STB.congr (fT hf.ex (kZ v h) (Ib (Ys h))) λU=>seq U,λU y U' z=>?_⟩
   rw[seq]at z;exact ofn (f:=λ_=>U) z
  replace h:=Q6 h;obtain⟨f,as,rfl,h⟩:=h;replace h:=L9 h;obtain⟨v0,pos,rfl,h⟩:=h;rw[Al]at h;obtain⟨g,pp,y,ys,qq,rfl,p,hp,rfl,rfl,hl,h900,h1,h2,m,rfl,h3⟩:=call h.1 h.2;obtain⟨fa,fd,ps,m1,m2,m3,m4,m5,_⟩:=v.fn p hp;have hlt:p.2.2<1000:=by omega
  rw[FJ hlt]at m4 m5;have m5:=m5 hlt;obtain⟨n2,n3,n4⟩:=Fx h2;replace m1:=L3 m1 (Mf h2);obtain⟨s0,e,es',rfl,m',rfl,s1⟩:=Hy h3;have hlen:ys.length+1=(Es.cons e es').len:=(snd (Z:=Z) (CL:=CL) (k:=k) (m'+1)).es W T X _ _ v h3 |>.2.2.1;refine⟨STB.congr (Y_7 (X:=X) (fs:=λU=>evA Z U (.cons e es')) (sh:=λU=>Hd U (.cons e es')) hf.ex m5 v.room (by unfold glB at h1;show X.env.scope.names.lookup p.1=_;rw[v.sc];exact eq_of_beq h1) m1 m2 m3 (λU z=>Lp Z U _ z) (λU ds z=>by rw[Ln Z U _ _ z,<-hlen,hl]) (λU=>LR Z U _ h.2) n2 (C9 s0) (Hx m' ys es' s1) (λpI Xw own=>by
   obtain⟨a1,a2,_⟩:=(snd (Z:=Z) (CL:=CL) (k:=k) (m'+1)).es W0 T (Cx.pw X pI Xw) _ _ (v.pw own) h3;exact⟨a1,a2⟩) (Ib rfl)) λU=>seq U,λU y U' z=>?_⟩
  rw[seq]at z;exact ofn (f:=λ_=>U) z
 |asg i b0 e0=>
  replace h:(!b0&&(Kw e0 λf as=>Ji st λy v=>T.N[i]? == Aa y&&Gk T y&&A8 n T v (.call f as)&&Ip as))=Ab:=h
  replace h:=A7 h;obtain⟨hb,h⟩:=h;cases b0 with
  |true=>exact absurd (show Ad=Ab from hb) At
  |false=>
  replace h:=Q6 h;obtain⟨f,as,rfl,h⟩:=h;replace h:=Kc h;obtain⟨y0,p0,v0,pos,rfl,h⟩:=h;simp only[Al,AB]at h;obtain⟨⟨⟨i1,i2⟩,hc⟩,hsim⟩:=h;obtain⟨g,pp,y,ys,qq,rfl,p,hp,rfl,rfl,hl,h900,h1,h2,m,rfl,h3⟩:=call hc hsim;obtain⟨fa,fd,ps,m1,m2,m3,m4,m5,_⟩:=v.fn p hp;have hlt:p.2.2<1000:=by omega
  rw[FJ hlt]at m4 m5;have m5:=m5 hlt;obtain⟨n2,n3,n4⟩:=Fx h2;replace m1:=L3 m1 (Mf h2);obtain⟨s0,e,es',rfl,m',rfl,s1⟩:=Hy h3;have hlen:ys.length+1=(Es.cons e es').len:=(snd (Z:=Z) (CL:=CL) (k:=k) (m'+1)).es W T X _ _ v h3 |>.2.2.1;refine⟨STB.congr (aP (X:=X) (fs:=λU=>evA Z U (.cons e es')) (sh:=λU=>Hd U (.cons e es')) (i:=i) hf.ex m5 v.room (by unfold glB at h1;show X.env.scope.names.lookup p.1=_;rw[v.sc];exact eq_of_beq h1) m1 m2 m3 (λU z=>Lp Z U _ z) (λU ds z=>by rw[Ln Z U _ _ z,<-hlen,hl]) (λU=>LR Z U _ hsim) n2 (C9 s0) (Hx m' ys es' s1) (λpI Xw own=>by
   obtain⟨a1,a2,_⟩:=(snd (Z:=Z) (CL:=CL) (k:=k) (m'+1)).es W0 T (Cx.pw X pI Xw) _ _ (v.pw own) h3;exact⟨a1,a2⟩) (by rw[v.N];exact v.nd) (by rw[v.N];exact i1) (by rw[v.sc];exact JA i2) (.inl (hf.fn _)) (Ib rfl)) λU=>seq U,λU y U' z=>?_⟩
  rw[seq]at z;exact ofn (f:=λd=>U.set i (Aa (d,Ad))) z
 |_=>exact noF h
theorem fB(op:C4)(x y:D)(e:Ex):BN op x y≠.exn e:=λz=>by
 rcases Rk op x y with w|⟨b,w⟩<;>(rw[w]at z;cases z)
theorem bP(x:D)(e:Ex):BM x≠.exn e:=by
 unfold BM;split<;>first|(intro z;cases z;done)|(split<;>intro z<;>cases z)
theorem Rs(Z:Gam)(U:Rho)(c:E)(h:PX c=Ab)(y:Ex):(top U c (evE Z U c)).bind BM≠.exn y:=by
 have key:∀ e,top U c (evE Z U c)≠.exn e:=by
  cases c with
  |var i=>exact L5 Z U (.var i) rfl
  |cmp op a b=>
   unfold PX at h;rw[Al]at h;intro e z;have z':((top U a (evE Z U a)).bind λx=>(top U b (evE Z U b)).bind λy=>BN op x y)=.exn e:=by
    have e0:evE Z U (.cmp op a b)=((top U a (evE Z U a)).bind λx=>(top U b (evE Z U b)).bind λy=>BN op x y):=eW Z U op a b
    rw[<-e0];exact z
   cases e1:top U a (evE Z U a) with
   |bad=>rw[e1]at z';cases z'
   |exn w=>exact L5 Z U a h.1 w e1
   |ok d=>
    rw[e1,R.bind_ok]at z';cases e2:top U b (evE Z U b) with
    |bad=>rw[e2]at z';cases z'
    |exn w=>exact L5 Z U b h.2 w e2
    |ok d2=>rw[e2,R.bind_ok]at z';exact fB _ _ _ _ z'
  |_=>cases h
 intro z;cases e1:top U c (evE Z U c) with
 |bad=>rw[e1]at z;cases z
 |exn w=>exact key w e1
 |ok d=>rw[e1,R.bind_ok]at z;exact bP _ _ z
theorem lL(Sn:Snd Z CL k n)(v:VX Z CL k W T X)(hf:DefX X):∀(m:Af){st:AG}{s:S},MM m n T st s=Ab->STB X CL [st] (λU=>evSs Z U (.cons s .nil))/\∀ U y U',evSs Z U (.cons s .nil)=.exn y U'->U'=U:=by
 intro m
 induction m with
 |zero=>intro st s h;exact Tq Sn v hf h
 |succ m ih=>
  intro st s h;replace h:=orT (a:=Mo n T st s) (b:=SR (MM m n T) n T st s) h;rcases h with h|h
  .exact Tq Sn v hf h
  .cases s with
   |ife c a b=>
    replace h:=Q4 h;obtain⟨a,rfl,h⟩:=h;replace h:=Q4 h;obtain⟨b,rfl,h⟩:=h;replace h:=Op h;obtain⟨t,xs,ys,pos,rfl,h⟩:=h;replace h:=EU h;obtain⟨xs,rfl,h⟩:=h;replace h:=EU h;obtain⟨ys,rfl,h⟩:=h;simp only[Al]at h;obtain⟨⟨⟨h1,h2⟩,h3⟩,h4⟩:=h;obtain⟨a1,a2⟩:=ih h3;obtain⟨b1,b2⟩:=ih h4;have ev:∀ U,evSs Z U (.cons (.ife c (.cons a .nil) (.cons b .nil)) .nil)=O.of U ((top U c (evE Z U c)).bind BM) λk=>if k=Ab then evSs Z U (.cons a .nil) else evSs Z U (.cons b .nil):=λU=>QR _
    refine⟨STB.congr (aO (λpI Xw own=>(Sn.b W0 T (Cx.pw X pI Xw) _ _ (v.pw own) h1)) (λU y=>Rs Z U c h2 y) a1 b1) λU=>ev U,λU y U' z=>?_⟩
    rw[ev]at z;cases e1:(top U c (evE Z U c)).bind BM with
    |bad=>rw[e1]at z;cases z
    |exn w=>exact absurd e1 (Rs Z U c h2 w)
    |ok k=>
     rw[e1,O.of_ok]at z;cases k with
     |true=>exact a2 U y U' z
     |false=>exact b2 U y U' z
   |_=>exact noF h
theorem Ll{i:Af}{e:Ah}(v:VX Z CL k W T X)(h:isV T x i=Ab):PE (Cx.hot X e) (.Name x pos) (Eu i):=by
 unfold isV at h;simp only[Al,AB]at h;obtain⟨h2,h3,_⟩:=Fx h.2;exact Kk (by show X.N[i]?=_;rw[v.N];exact h.1.1) (by show Vis X.env.scope x;rw[v.sc];exact RF h.1.2) h2 h3
theorem Th{x:Af}{t:Am}{c:E}:∀{n:Af},HJ n T x t c=Ab->∀ U r,top U c r=r:=λ{n} h=>by
 cases n with
 |zero=>exact noF h
 |succ n=>
  cases c with
  |var i=>exact noF h
  |_=>exact λ_ _=>rfl
theorem Z_5(v:VX Z CL k W T X)(e:Ah):∀(ts:Ac Am)(ks:Ac Ki),PK T ts ks=Ab->∃ cs:Ac (Af×Ah),ks=cs.map (λq=>Ki.cls q.1)/\cs.length=ts.length/\PA (Cx.hot X e) ts (U_0 (cs.map λq:Af×Ah=>q.2))/\∀ q∈cs,Ls X.K CL Z.up q.1 q.2:=by
 intro ts
 induction ts with
 |nil=>
  intro ks h;obtain rfl:=EC h;exact⟨[],rfl,rfl,Fe,λq hq=>nomatch hq⟩
 |cons t ts ih=>
  intro ks h;replace h:=IU h;obtain⟨kk,ks,rfl,h⟩:=h;replace h:=ED h;obtain⟨t,p,rfl,h⟩:=h;replace h:=A7 h;obtain⟨h,h4⟩:=h;cases kk with
  |cls c=>
   replace h:(inX T.exs t c&&glB T t&&Fi t)=Ab:=h;simp only[Al]at h;obtain⟨⟨h1,h2⟩,h3⟩:=h;obtain⟨cs,e1,e2,e3,e4⟩:=ih ks h4;obtain⟨C,m1,m3,_⟩:=v.xt.ex _ (JE h1);obtain⟨n2,_,_⟩:=Fx h3;refine⟨(c,C)::cs,by rw[e1];rfl,by rw[Ba,Ba,e2],?_,λq hq=>?_⟩
   .exact DU (Om (X:=Cx.hot X e) (v:=.ref C) (by unfold glB at h2;show X.env.scope.names.lookup t=_;rw[v.sc];exact eq_of_beq h2) m1 rfl n2) e3 rfl
   .rcases AH.mp hq with rfl|hq
    .exact m3
    .exact e4 q hq
  |_=>exact noF h
theorem MB{e:Ah}{f:Am->E->Ak}(ih:∀ t c,f t c=Ab->SE (Cx.hot X e) CL W0 t (λU=>evE Z U c)):∀(xs:Ac Am)(es:Es),LA f xs es=Ab->SA (Cx.hot X e) CL W0 xs (λU=>evA Z U es)/\xs.length=es.len
 |[],.nil,_=>⟨SY,rfl⟩
 |[],.cons _ _,h=>nomatch (show Ad=Ab from h)
 |_::_,.nil,h=>nomatch (show Ad=Ab from h)
 |x::xs,.cons c es,h=>by
  have h:(Dt x&&f x c&&LA f xs es)=Ab:=h;simp only[Al]at h;obtain⟨⟨h1,h2⟩,h3⟩:=h;obtain⟨q,l⟩:=MB ih xs es h3;exact⟨Sd (ih x c h2) q (C9 h1),by rw[Ba,l];rfl⟩
theorem Ut(v:VX Z CL k W T X)(e:Ah)(x:Af):∀(n:Af)(t:Am)(c:E),HJ n T x t c=Ab->SE (Cx.hot X e) CL W0 t (λU=>evE Z U c):=by
 intro n
 induction n with
 |zero=>intro t c h;exact noF h
 |succ n ih=>
  intro t c h;cases c with
  |bl b=>
   replace h:=IW h;obtain⟨k,u,p,rfl,h⟩:=h;obtain rfl:=AQ h;exact TU
  |no a=>
   replace h:=Oo h;obtain⟨o,y,p,rfl,h⟩:=h;replace h:=A7 h;obtain⟨h0,h⟩:=h;obtain rfl:=AQ h0;have q:=(ih _ _ h).st;refine SE.congr (Tz q) λU=>?_
   show ((top U a (evE Z U a)).bind λx=>(DC x).bind λb=>R.ok (D.bl (!b)))=_
   rw[Th h]
  |and es=>
   cases es with
   |nil=>exact noF h
   |cons a as=>
    cases as with
    |nil=>
     replace h:=Ld h;obtain⟨o,l,p,rfl,h⟩:=h;replace h:=A7 h;obtain⟨h0,h⟩:=h;obtain rfl:=AQ h0;replace h:=EU h;obtain⟨y,rfl,h⟩:=h;exact SE.congr (OT (ih _ _ h)) λU=>rfl
    |cons a' as=>
     replace h:=Ld h;obtain⟨o,l,p,rfl,h⟩:=h;replace h:=A7 h;obtain⟨h0,h⟩:=h;obtain rfl:=AQ h0;replace h:=IU h;obtain⟨y,l,rfl,h⟩:=h;replace h:=IU h;obtain⟨z,zs,rfl,h⟩:=h;exact SE.congr (TJ (ih _ _ (A7 h).1) (ih _ _ (A7 h).2)) λU=>rfl
  |isi a ks=>
   replace h:=Oc h;obtain⟨i,rfl,h⟩:=h;replace h:=cL h;obtain⟨g,pp,w,pq,u,pr,rfl,h⟩:=h;simp only[Al,AB]at h;obtain⟨⟨⟨⟨rfl,rfl⟩,h3⟩,h4⟩,h⟩:=h;obtain⟨g1,g2,_,_⟩:=G6 v h3;replace h:=IU h;obtain⟨kk,ks,rfl,h⟩:=h;cases kk with
   |verr=>
    replace h:=A7 h;obtain⟨h0,h⟩:=h;obtain rfl:=EC h0;replace h:=ED h;obtain⟨t,pt,rfl,h⟩:=h;simp only[Al,AB]at h;obtain⟨h5,h6⟩:=h;obtain⟨b1,b2,_,_⟩:=G6 v h6;rw[h5]at b1 b2 ⊢;exact TC (X:=Cx.hot X e) v.xt.xc g1 g2 b1 b2 (Ih (Ll v h4)) rfl
   |cls c=>
    cases ks with
    |nil=>
     replace h:=ED h;obtain⟨t,pt,rfl,h⟩:=h;simp only[Al]at h;obtain⟨⟨h5,h6⟩,h7⟩:=h;obtain⟨C,m1,m3,_⟩:=v.xt.ex _ (JE h5);obtain⟨n2,_,_⟩:=Fx h7;exact TD (X:=Cx.hot X e) v.xt.xc g1 g2 (by unfold glB at h6;show X.env.scope.names.lookup _=_;rw[v.sc];exact eq_of_beq h6) m1 m3 n2 (Ih (Ll v h4)) rfl
    |cons k2 ks=>
     replace h:=Kb h;obtain⟨ts,z1,z2,rfl,h⟩:=h;replace h:=A7 h;obtain⟨h5,h6⟩:=h;obtain⟨cs,e1,e2,e3,e4⟩:=Z_5 v e _ _ h5;have hne:cs≠[]:=by rintro rfl;cases e1
     rw[e1];exact gF (X:=Cx.hot X e) (W:=W0) (up:=Z.up) v.xt.xc g1 g2 e3 hne (by rw[e2];exact AQ h6) e4 (Ih (Ll v h4)) rfl
   |_=>exact noF h
  |call f as=>exact absurd (show Ad=Ab from h) At
  |str s=>
   replace h:=IW h;obtain⟨k,u,p,rfl,h⟩:=h;obtain rfl:=AQ h;exact Mr
  |lst es=>
   replace h:=L7 h;obtain⟨xs,p,rfl,h⟩:=h;simp only[Al,AD]at h;obtain⟨q,ql⟩:=MB (ih) _ _ h.1;exact(OJ q λU ds z=>by rw[G7 Z U _ _ z,<-ql];omega).se
  |tup es=>
   replace h:=Kb h;obtain⟨xs,cc,p,rfl,h⟩:=h;simp only[Al,AD]at h;obtain⟨q,ql⟩:=MB (ih) _ _ h.1;exact Tx q λU ds z=>by rw[G7 Z U _ _ z,<-ql];omega
  |bin op a b=>
   replace h:=A7 h;obtain⟨h0,h⟩:=h;obtain rfl:=AQ h0;replace h:=Oc h;obtain⟨i,rfl,h⟩:=h;replace h:=Q7 h;obtain⟨l,o,y,p,rfl,h⟩:=h;replace h:=A7 h;obtain⟨h0,h⟩:=h;obtain rfl:=AQ h0;replace h:=ED h;obtain⟨w,pw,rfl,h⟩:=h;replace h:=A7 h;obtain⟨h1,h2⟩:=h;refine SE.congr (OU (On .Add) (Ih (Ll v h1)) (ih _ _ h2).st) λU=>?_
   show ((DW U i).bind λx=>(top U b (evE Z U b)).bind λy=>CM .Add x y)=_
   rw[Th h2]
  |fld o f=>
   replace h:=Oc h;obtain⟨i,rfl,h⟩:=h;replace h:=IY h;obtain⟨w,g,p,rfl,h⟩:=h;replace h:=ED h;obtain⟨w,pw,rfl,h⟩:=h;simp only[Al,AB]at h;obtain⟨⟨⟨rfl,rfl⟩,h3⟩,h4⟩:=h;exact Sb (X:=Cx.hot X e) v.xt.xc (λc C z=>v.xt.nf c C z _ h3) (Ih (Ll v h4)) rfl
  |_=>exact noF h
theorem oP(v:VX Z CL k W T X)(hf:DefX X)(e:Ah)(x:Af):∀(n:Af)(sts:Ac AG)(ss:Ss),Ps n T x sts ss=Ab->SSs (Cx.hot X e) CL W0 sts (λU=>evSs Z U ss):=by
 intro n
 induction n with
 |zero=>intro t c h;exact noF h
 |succ n ih=>
  intro sts ss0 h;cases ss0 with
  |nil=>
   obtain rfl:=EC h;exact RQ
  |cons s ss0=>
   replace h:=IU h;obtain⟨st,r,rfl,h⟩:=h;replace h:=A7 h;obtain⟨h,h5⟩:=h;cases s with
   |asg i b e0=>
    replace h:=Kc h;obtain⟨y,py,v0,pos,rfl,h⟩:=h;simp only[Al,AB]at h;obtain⟨⟨⟨⟨h1,h2⟩,h3⟩,h4⟩,h6⟩:=h;cases b with
    |true=>
     cases e0 with
     |lst es=>
      have sc:SC (Cx.hot X e) CL W0 Ab v0 (λU=>evE Z U (.lst es)):=by
       cases n with
       |zero=>exact absurd (show Ad=Ab from h4) At
       |succ n=>
        replace h4:=L7 h4;obtain⟨l,pl,rfl,h4⟩:=h4;obtain⟨q,ql⟩:=MB (Ut v e x n) _ _ (A7 h4).1;have hle:=AQ (A7 h4).2;exact OJ q λU ds z=>by rw[G7 Z U _ _ z,<-ql];omega
      have q:=Oa (RT (SC.sas (X:=Cx.hot X e) (pos:=pos) (pos':=py) (by show X.N.Nodup;rw[v.N];exact v.nd) (by show X.N[i]?=_;rw[v.N];exact h1) (by show Loc X.env.scope _;rw[v.sc];exact JA h2) sc (Ib h3) (.inl (hf.fn _)))) (ih _ _ h5)
      have ef:(λU=>evSs Z U (.cons (.asg i Ab (.lst es)) ss0))=λU=>(O.of U (evE Z U (.lst es)) λd=>setF U i d).seq λU=>evSs Z U ss0:=by
       funext U
       show (evS Z U (.asg i Ab (.lst es))).seq _=_;rw[Yy];rfl
      rw[ef];exact q
     |_=>exact absurd (show Ad=Ab from h6) At
    |false=>
    exact Oa (fV (X:=Cx.hot X e) (by show X.N.Nodup;rw[v.N];exact v.nd) (by show X.N[_]?=_;rw[v.N];exact h1) (by show Loc X.env.scope _;rw[v.sc];exact JA h2) (Ut v e x n _ _ h4) (Ib h3) (.inl (hf.fn _))) (ih _ _ h5)
   |ife c a b=>exact absurd (show Ad=Ab from h) At
   |ret e0=>exact absurd (show Ad=Ab from h) At
   |app i e0=>exact absurd (show Ad=Ab from h) At
   |_=>exact noF h
theorem kP(v:VX Z CL k W T X)(h:hdB T g c=Ab):Vl X CL Z.up g c:=by
 unfold hdB at h;simp only[Al]at h;obtain⟨⟨⟨i1,i0⟩,i2⟩,i3⟩:=h;obtain⟨C,m1,m3,m4⟩:=v.xt.ex _ (JE i1);obtain⟨C0,r1,r2⟩:=v.xt.rz _ (JE i0);obtain⟨n2,_,_⟩:=Fx i3;refine⟨C,by unfold glB at i2;show X.env.scope.names.lookup g=_;rw[v.sc];exact eq_of_beq i2,m1,n2,?_,λc' D hD=>m4 c' D hD⟩
 have e0:=m1.symm.trans r2;cases e0;exact v.xt.xc _ _ r1
theorem lD(Z_:SndS Z CL k n)(W:XW)(T:Tc)(X:Cx)(st:AG)(c:S)(v:VX Z CL k W T X)(hf:DefX X)(h:LN (n+1) T st c=Ab):SS X CL W st (λU=>evS Z U c):=by
  have E:=snd (Z:=Z) (CL:=CL) (k:=k) n;cases c with
  |pass=>exact absurd (show Ad=Ab from h) At
  |brk=>exact absurd (show Ad=Ab from h) At
  |cont=>exact absurd (show Ad=Ab from h) At
  |asg i fresh e=>
    replace h:=Kc h;obtain⟨x,px,v0,pos,rfl,h⟩:=h;simp only[Al,AB]at h;obtain⟨⟨h1,h2⟩,h3⟩:=h;have o:=E.e W T X _ e v h3;cases fresh with
    |false=>exact Tv (OX (fr:=Ad) v hf.fn h1 h2 o (λz=>nomatch z))
    |true=>
      cases hn:Ew Z e with
      |true=>
        refine SS.ref (RT (OX (fr:=Ab) v hf.fn h1 h2 o (λ_=>hn))) λU=>.inr ?_
        show O.of U (evE Z U e) (λd=>if Ab=Ab then (if Ew Z e=Ab then (match d with
          |.lst xs=>.next (U.set i (Aa (.lst xs,Ab)))
          |.dic xs=>.next (U.set i (Aa (.dic xs,Ab)))
          | _=>.bad) else .bad) else .next (U.set i (Aa (d,Ad))))=_
        rw[hn];rfl
      |false=>
        refine SS.ref (Tv (OX (fr:=Ad) v hf.fn h1 h2 o (λz=>nomatch z))) λU=>?_
        have e0:evS Z U (.asg i Ab e)=O.of U (evE Z U e) (λd=>if Ab=Ab then (if Ew Z e=Ab then (match d with
          |.lst xs=>.next (U.set i (Aa (.lst xs,Ab)))
          |.dic xs=>.next (U.set i (Aa (.dic xs,Ab)))
          | _=>.bad) else .bad) else .next (U.set i (Aa (d,Ad)))):=rfl
        rw[e0,hn];cases evE Z U e with
        |ok d=>exact .inl rfl
        |exn y=>exact .inr rfl
        |bad=>exact .inl rfl
  |asgT ts e=>exact absurd (show Ad=Ab from h) At
  |expr e=>
    replace h:=L9 h;obtain⟨v0,pos,rfl,h⟩:=h;simp only[Al]at h;exact aV (E.e W T X _ e v h.2).se (Ib h.1)
  |ret e=>
    replace h:=Q5 h;obtain⟨o,pos,rfl,h⟩:=h;cases o with
    |none=>exact noF h
    |some v0=>
    replace h:A8 n T v0 e=Ab:=h;have o:=E.e W T X _ e v h;cases hv:Ew Z e with
    |true=>
      refine SS.ref (RS (o.nw hv)) λU=>.inr ?_
      rw[QF U e (λi z=>by subst z;cases hv),hv]
    |false=>
      cases e with
      |var i=>
        cases n with
        |zero=>exact noF h
        |succ n=>
          replace h:=ED h;obtain⟨y,py,rfl,h⟩:=h;exact aR (Ij v h)
      |_=>
        refine SS.ref (aS o.se) λU=>.inr ?_
        rw[QF U _ (by intro i z;cases z),hv]
  |retN=>exact absurd (show Ad=Ab from h) At
  |retc ts it f as=>
    replace h:=Q5 h;obtain⟨o,pos,rfl,h⟩:=h;cases o with
    |none=>exact noF h
    |some v0=>
      replace h:=RV h;obtain⟨y,tg,it',ifs,scope,p0,rfl,h⟩:=h;replace h:=A7 h;obtain⟨hn,h⟩:=h;obtain rfl:=EC hn;replace h:=Kb h;obtain⟨ys,cc,pw,rfl,h⟩:=h;simp only[Al]at h;obtain⟨⟨⟨⟨⟨⟨h0,h1⟩,h2⟩,h3⟩,h4⟩,h5⟩,h6⟩:=h;cases n with
      |zero=>exact noF h6
      |succ m=>
        replace h6:=Ia h6;obtain⟨g,pp,y1,ys1,qq,rfl,h6⟩:=h6;simp only[Al,Dr,AB,AD]at h6;obtain⟨⟨⟨⟨⟨p,hp,⟨rfl,rfl⟩,hl⟩,h900⟩,g1⟩,g2⟩,g3⟩:=h6;obtain⟨fa,fd,ps,m1,m2,m3,m4,m5,_⟩:=v.fn p hp;have hlt:p.2.2<1000:=by omega
        rw[FJ hlt]at m4 m5;have m5:=m5 hlt;obtain⟨n2,n3,n4⟩:=Fx g2;replace m1:=L3 m1 (Mf g2);obtain⟨s0,e,es',rfl,m',rfl,s1⟩:=Hy g3;have hlen:ys1.length+1=(Es.cons e es').len:=QI _ _ _ g3;exact RS (Zh (fs:=λU=>evA Z U (.cons e es')) (sh:=λU=>Hd U (.cons e es')) v.calm hf.st hf.fm v.fz (O7 v h3).1 (E.i W T X Ab _ _ it v rfl h1) (kQ ts) (NI ts) (λcl C s H fp=>aI (v.blk h3) h0 h4) (Kj h2) m5 v.room (λcl C s H fp=>by
          have vb:=v.blk (cl:=cl) (C:=C) (s:=s) (H:=H) (fp:=fp) h3;unfold glB at g1;show (cxC X scope cl C (JL ts (tgN ys) T.N) s H fp).env.scope.names.lookup p.1=_;rw[vb.sc];exact eq_of_beq g1) m1 m2 m3 (λcl C s H fp=>by
          obtain⟨a1,a2,_⟩:=(snd (Z:=Z) (CL:=CL) (k:=k) (m'+1)).es W0 _ _ _ _ (v.blk (cl:=cl) (C:=C) (s:=s) (H:=H) (fp:=fp) h3) g3;exact⟨a1,a2⟩) (λU z=>Lp Z U _ z) (λU ds z=>by rw[Ln Z U _ _ z,<-hlen,hl]) (λU=>LR Z U _ h5) n2 (λenv=>C9 s0) (λenv=>Hx (X:={X with env:=env}) m' ys1 es' s1))
  |ife c a b=>
    replace h:=Op h;obtain⟨t,xs,ys,pos,rfl,h⟩:=h;simp only[Al]at h;exact lJ (E.b W T X _ c v h.1.1) (Z_.ss W T X _ a v hf h.1.2) (Z_.ss W T X _ b v hf h.2)
  |fors t it body=>
    replace h:=L8 h;obtain⟨tg,it',xs,ys,pos,rfl,h⟩:=h;replace h:=A7 h;obtain⟨hn,h⟩:=h;obtain rfl:=EC hn;replace h:=ED h;obtain⟨y,py,rfl,h⟩:=h;simp only[Al]at h;obtain⟨⟨⟨h1,h2⟩,h3⟩,h4⟩:=h;exact Tu v.own v.calm (eR t) (RN v hf.fn h1) (E.i W T X Ad _ _ it v rfl h3) (Z_.ss W T X _ body v hf h4) (Kj h2) (λ_ _ _ z=>nomatch z)
  |forT ts it body=>
    replace h:=L8 h;obtain⟨tg,it',xs,zs,pos,rfl,h⟩:=h;replace h:=A7 h;obtain⟨hn,h⟩:=h;obtain rfl:=EC hn;replace h:=Kb h;obtain⟨ys,cc,py,rfl,h⟩:=h;simp only[Al]at h;obtain⟨⟨⟨⟨h0,h1⟩,h2⟩,h3⟩,h4⟩:=h;exact Tu v.own v.calm (Ti ts) (RM v hf.fn h0 h1) (E.i W T X Ab _ _ it v rfl h3) (Z_.ss W T X _ body v hf h4) (Kj h2) (NI ts)
  |forO i ts body=>
    replace h:=L8 h;obtain⟨tg,it',xs,zs,pos,rfl,h⟩:=h;replace h:=A7 h;obtain⟨hn,h⟩:=h;obtain rfl:=EC hn;replace h:=Kb h;obtain⟨ys,cc,py,rfl,h⟩:=h;simp only[Al]at h;obtain⟨⟨⟨h0,h1⟩,h2⟩,h3⟩:=h;replace h3:=IX h3;obtain⟨g,pp,l,qq,rfl,h3⟩:=h3;replace h3:=EU h3;obtain⟨y,rfl,h3⟩:=h3;simp only[Al,AB]at h3;obtain⟨⟨⟨rfl,g0⟩,hz⟩,h4⟩:=h3;replace hz:=ED hz;obtain⟨z,pz,rfl,hz⟩:=hz;obtain⟨g1,g2,_,_⟩:=G6 v g0;exact aU v.own v.calm (Ti ts) (RM v hf.fn h0 h1) (Ij v hz) g1 g2 rfl (Z_.ss W T X _ body v hf h4) (Kj h2) (NI ts)
  |whl c body=>exact absurd (show Ad=Ab from h) At
  |rais c as=>
    replace h:(!(T.rzs.any λp=>p.2==c)||(ME st λa b=>b.isNone&&(match a with|some e=>JC e λg x xs=>inX T.rzs g c&&glB T g&&Fi g&&decide (xs.length<=1000)&&chkEs n T (x::xs) as|none=>Ad)))=Ab:=h
    cases hc:T.rzs.any (λp=>p.2==c) with
    |false=>
      have hb:∀ ds,Z.xn c ds=.bad:=v.xt.xb c λp hp z=>by
        have:T.rzs.any (λp=>p.2==c)=Ab:=List.any_eq_true.mpr ⟨p,hp,AB.mpr z⟩
        rw[hc]at this;cases this
      intro Fz B pI s Y H D I ⟨U,x,p⟩;have p':Bw X.K CL Fz B W (O.of U (noX (evA Z U as)) λxs=>O.of U (Z.xn c xs) λx=>.exn x U) D:=p
      cases e1:evA Z U as with
      |bad=>rw[e1]at p';exact p'.elim
      |exn y=>rw[e1]at p';exact p'.elim
      |ok ds=>
        rw[e1]at p';have p2:Bw X.K CL Fz B W (O.of U (Z.xn c ds) λx=>.exn x U) D:=p'
        rw[hb ds]at p2;exact p2.elim
    |true=>
      rw[hc,Bool.not_true,Bool.false_or]at h;replace h:=ZT h;obtain⟨ea,eb,pos,rfl,h⟩:=h;replace h:=A7 h;obtain⟨h0,h⟩:=h;obtain rfl:=DQ.mp h0;cases ea with
      |none=>exact noF h
      |some e0=>
        replace h:=Ia h;obtain⟨g,np,x,xs,cpos,rfl,h⟩:=h;simp only[Al,AD]at h;obtain⟨⟨⟨⟨h1,h2⟩,h3⟩,h4⟩,h5⟩:=h;obtain⟨C,m1,m2⟩:=v.xt.rz _ (JE h1);obtain⟨n2,_,_⟩:=Fx h3;obtain⟨s0,e,es',rfl,m,rfl,s1⟩:=Hy h5;have q:=E.es W T X _ _ v h5;exact Yi v.calm hf.ex v.room v.rz (by unfold glB at h2;show X.env.scope.names.lookup g=_;rw[v.sc];exact eq_of_beq h2) m2 n2 m1 q.1 (λds=>v.xt.made c C ds m1) (C9 s0) (Hx m xs es' s1) (λU ds z=>by rw[G7 Z U _ _ z,<-q.2.2.1,Ba];omega)
  |app i e=>exact absurd (show Ad=Ab from h) At
  |ext i e=>exact absurd (show Ad=Ab from h) At
  |rev i=>exact absurd (show Ad=Ab from h) At
  |clr i=>exact absurd (show Ad=Ab from h) At
  |put i k e=>exact absurd (show Ad=Ab from h) At
  |tryx body c x hd=>
    cases body with
    |nil=>exact noF h
    |cons b bs=>
      cases bs with
      |cons=>exact noF h
      |nil=>
        unfold LN at h;dsimp only at h;cases q:PL st with
        |none=>rw[q]at h;cases h
        |some t=>
          obtain⟨bt,hl,es⟩:=t;rw[q]at h;obtain⟨pos,rfl⟩:=bI q;cases hl with
          |nil=>exact noF h
          |cons h1 hl=>
            cases hl with
            |cons=>exact noF h
            |nil=>
              cases es with
              |cons=>exact noF h
              |nil=>
                dsimp only at h;cases q1:xHd h1 with
                |none=>rw[q1]at h;cases h
                |some t1=>
                  obtain⟨g,m,h0,hs⟩:=t1;obtain⟨p1,hp,rfl⟩:=gN q1;rw[q1]at h;simp only[Al,AB]at h;obtain⟨⟨⟨⟨i1,i4⟩,i5⟩,i6⟩,i7⟩:=h;obtain⟨t1,t2⟩:=lL E v hf 6 i6;refine SS.ref (fU (up:=Z.up) (c:=c) (i:=x) hf.ex hf.st hf.fm (by rw[v.N];exact v.nd) (by rw[v.N];exact i4) (by rw[v.sc];exact i5) (kP v i1) t1 t2 (λe=>oP v hf e x n _ _ i7)) λU=>.inr ?_
                  rw[ZJ];unfold UG;cases evSs Z U (.cons b .nil)<;>rfl
  |try2 body c x hd c' hd' els=>exact absurd (show Ad=Ab from h) At
  |swp i k l=>exact absurd (show Ad=Ab from h) At
  |apop j i e=>exact absurd (show Ad=Ab from h) At
  |ins i k e=>exact absurd (show Ad=Ab from h) At
  |dput=>exact noF h
  |dsd=>exact noF h
  |hand=>exact noF h
  |rel=>exact noF h
theorem Z_7{c:Ss}(h:M0 c=Ab)(U:Rho):evSs Z U c=.bad:=by
 cases c with
 |nil=>cases h
 |cons s ss=>
  cases s with
  |expr e=>
   cases e with
   |bi b as=>
    cases as with
    |nil=>
     cases b with
     |len=>rfl
     |_=>exact noF h
    |cons=>cases b<;>exact noF h
   |_=>exact noF h
  |_=>exact noF h
theorem pC(v:VX Z CL k W T X):∀(m:Af)(xs:Ac Am)(es:Es),chkEs m T xs es=Ab->Pk es=Ab->NwA X CL W xs (λU=>evA Z U es):=by
 intro m
 induction m with
 |zero=>intro xs es h;exact noF h
 |succ m ih=>
  intro xs es h hn;cases xs with
  |nil=>
   cases es with
   |nil=>exact iM
   |cons e es=>exact noF h
  |cons x xs=>
   cases es with
   |nil=>exact noF h
   |cons e es=>
    have h':(Dt x&&A8 m T x e&&chkEs m T xs es)=Ab:=h;replace h':=A7 h';obtain⟨h',h3⟩:=h';replace h':=A7 h';obtain⟨h1,h2⟩:=h';replace hn:=A7 hn;obtain⟨n1,n2⟩:=hn;exact cR (((snd (Z:=Z) (CL:=CL) (k:=k) m).e W T X _ e v h2).nw (cQ Z n1)) (ih xs es h3 n2) (C9 h1)
theorem eQ(v:VX Z CL k W T X)(hf:DefX X){i p r j:Af}{es:Es}{e2 e3 c:E}{s1 s2 s3 s4 s5:AG}{q:Ac AG}{g:Rho->O}(h:Pt n T i es p e2 r e3 c j s1 s2 s3 s4 s5=Ab)(hg:SSs X CL W q g):SSs X CL W (s1::s2::s3::s4::s5::q) (λU=>(evS Z U (.hand i es p e2 r e3 c j)).seq g):=by
 have E:=snd (Z:=Z) (CL:=CL) (k:=k) n;replace h:=A7 h;obtain⟨h,h6⟩:=h;replace h:=A7 h;obtain⟨h,h5⟩:=h;replace h:=A7 h;obtain⟨h,h4⟩:=h;replace h:=A7 h;obtain⟨h,h3⟩:=h;replace h:=A7 h;obtain⟨h1,h2⟩:=h;replace h1:=Kc h1;obtain⟨x1,p1,v1,q1,rfl,h1⟩:=h1;replace h1:=A7 h1;obtain⟨a1,h1⟩:=h1;replace h1:=L7 h1;obtain⟨l,lp,rfl,h1⟩:=h1;replace h2:=Kc h2;obtain⟨x2,p2,v2,q2,rfl,h2⟩:=h2;replace h3:=Kc h3;obtain⟨x3,p3,v3,q3,rfl,h3⟩:=h3;replace h4:=Op h4;obtain⟨t,bd,ys,q4,rfl,h4⟩:=h4;replace h4:=A7 h4;obtain⟨y4,h4⟩:=h4;obtain rfl:=EC y4;replace h5:=L8 h5;obtain⟨tg,it,zs,ys,q5,rfl,h5⟩:=h5;replace h5:=A7 h5;obtain⟨y5,h5⟩:=h5;obtain rfl:=EC y5;replace h5:=ED h5;obtain⟨x5,p5,rfl,h5⟩:=h5;replace h5:=A7 h5;obtain⟨g5,h5⟩:=h5;replace h5:=ED h5;obtain⟨x6,p6,rfl,h5⟩:=h5;replace h5:=A7 h5;obtain⟨i5,h5⟩:=h5;replace h5:=EU h5;obtain⟨b,rfl,h5⟩:=h5;replace h5:=ZU h5;obtain⟨x7,p7,m,ap,as,cp,q7,rfl,hln,h5⟩:=h5;replace h5:=A7 h5;obtain⟨y7,h5⟩:=h5;obtain rfl:=EC y7;replace h5:=A7 h5;obtain⟨em,i7⟩:=h5;obtain rfl:=eq_of_beq em;simp only[Al,AB,AD]at a1 h1 h2 h3;obtain⟨⟨b1,b2⟩,b3⟩:=h1;obtain⟨⟨⟨c1,c2⟩,c3⟩,c4⟩:=h2;obtain⟨⟨⟨d1,d2⟩,d3⟩,d4⟩:=h3;have hset:∀{e:Am}{z:Af}{y:Ag}{pp qq:AA},T.N[z]?=Aa y->Gk T y=Ab->Gg e=Ab->∀ te,PE X e te->PS X (.Assign [.Name y pp] e qq) (JK te (Eg z)):=λ{e z y pp qq} a b cc te he=>Lu (by rw[v.N];exact v.nd) (by rw[v.N];exact a) (by rw[v.sc];exact JA b) he (Ib cc) (.inl (hf.fn _))
 replace h6:=A7 h6;obtain⟨h6,n3⟩:=h6;replace h6:=A7 h6;obtain⟨n1,n2⟩:=h6;have ne:∀{a b:Af},((a==b)==Ad)=Ab->a≠b:=λ{a b} z y=>by rw[y]at z;simp at z
 exact Y_8 (f1:=λU=>evA Z U es) (f2:=λU=>evE Z U e2) (f3:=λU=>evE Z U e3) (fc:=λU=>(top U c (evE Z U c)).bind BM) (ne n1) (ne n2) (ne n3) v.own v.calm (pC v _ _ _ b3 b2) (λU ds z=>by rw[G7 Z U _ _ z,<-QI _ _ _ b3];omega) (E.e W T X _ e2 v c4).se (E.e W T X _ e3 v d4).se (E.b W T X _ c v h4)
  (hset a1.1 a1.2 rfl) (hset c1 c2 c3) (hset d1 d2 d3) (RN v hf.fn g5) (Ij v i5) (Ij v i7) (Kj rfl) rfl (by rw[hln];exact Dx _) rfl hg
theorem fQ(Z_:SndS Z CL k n)(W:XW)(T:Tc)(X:Cx)(xs:Ac AG)(c:Ss)(v:VX Z CL k W T X)(hf:DefX X)(h:chkSs (n+1) T xs c=Ab):SSs X CL W xs (λU=>evSs Z U c):=by
  by_cases hb:M0 c=Ab
  · exact λFz B pI s Y H D I ⟨U,x,p⟩=>by
      dsimp only at p;rw[Z_7 hb]at p;exact p.elim
  have hb:M0 c=Ad:=by simpa using hb
  cases c with
  |nil=>
    simp only[chkSs,hb,DH,List.isEmpty_iff]at h;subst h;exact RQ
  |cons s ss=>
    by_cases hr:∃ i,s=.rel i
    · obtain⟨i,rfl⟩:=hr;simp only[chkSs,hb,DH]at h;exact aQ i (Z_.ss W T X xs ss v hf h)
    by_cases hh:∃ i es p e r e' c j,s=.hand i es p e r e' c j
    · obtain⟨i,es,p,e,r,e',c,j,rfl⟩:=hh
      match xs,h with
      |s1::s2::s3::s4::s5::q,h=>
        replace h:((Pt n T i es p e r e' c j s1 s2 s3 s4 s5&&chkSs n T q ss)||false)=Ab:=h;rw[DH]at h;replace h:=A7 h;exact eQ v hf h.1 (Z_.ss W T X q ss v hf h.2)
      |[],h=>exact noF h
      |[_],h=>exact noF h
      |[_,_],h=>exact noF h
      |[_,_,_],h=>exact noF h
      |[_,_,_,_],h=>exact noF h
    · cases xs with
      |nil=>cases s<;>first|(simp[chkSs,hb]at h;done)|exact absurd ⟨_,rfl⟩ hr|exact absurd ⟨_,_,_,_,_,_,_,_,rfl⟩ hh
      |cons st r=>
        have h':LN n T st s=Ab/\chkSs n T r ss=Ab:=by
          cases s<;>first|(simp only[chkSs,hb,DH,Al]at h;exact h)|exact absurd ⟨_,rfl⟩ hr|exact absurd ⟨_,_,_,_,_,_,_,_,rfl⟩ hh
        exact Oa (Z_.s W T X st s v hf h'.1) (Z_.ss W T X r ss v hf h'.2)
theorem PV:∀ n,SndS Z CL k n
 |0=>⟨λ_ _ _ _ _ _ _ h=>noF h,λ_ _ _ _ _ _ _ h=>noF h⟩
 |n+1=>⟨lD (PV n),fQ (PV n)⟩
end
theorem J3{n:Af}{ds:Ac D}{i:Af}{o:Ak}(h:(BV n ds)[i]?=Aa (Aa (d,o))):o=Ad/\ds[i]?=Aa d:=by
 unfold BV at h;by_cases hi:i<ds.length
 .rw[E3 (by simpa using hi),Em]at h
  cases e:ds[i]? with
  |none=>rw[e]at h;cases h
  |some x=>rw[e]at h;cases h;exact⟨rfl,rfl⟩
 .rw[VD (by simpa using Nat.le_of_not_lt hi),VE]at h
  split at h<;>cases h
theorem Yh{N:Ac Ag}{vs:Ac V}{i:Af}{v:V}(h:vs[i]?=Aa v):(L2.start N vs)[i]?=Aa (Aa v):=by
 unfold L2.start;have hi:=(A9.mp h).1;rw[E3 (by simpa using hi),Em,h]
 rfl
theorem Y_4{N:Ac Ag}{n:Af}{vs:Ac V}{ds:Ac D}(hn:N.length=n)(hA:AOk H A)(r:Reps K CL H A vs ds):Sx K CL ⟨λb o=>H b=Aa o,λ_ _ _=>AU⟩ A (BV n ds) (L2.start N vs) H:=by
 have own:∀ a,Bg A (BV n ds) (L2.start N vs) a->A a:=λa h=>by
  rcases h with h|⟨j,d,h,_⟩
  .exact h
  .exact absurd (J3 h).1 (by decide)
 have hlen:(BV n ds).length=(L2.start N vs).length:=by
  unfold BV L2.start;simp only[Db,CA,VG,r.length,hn]
 refine⟨⟨λi d h=>?_,λi d h _=>absurd (J3 h).1 (by decide),hlen⟩,λa h=>hA a (own a h),λj d a h _=>absurd (J3 h).1 (by decide),λi j d e a h _ _ _=>absurd (J3 h).1 (by decide),λb o h=>h,hlen,λj h=>absurd (J3 h).1 (by decide)⟩
 obtain⟨v,h1,h2⟩:=r.get (J3 h).2;exact⟨v,Yh h1,Rep.sub own _ h2⟩
structure FunX (K:Fg) (x qual:Ag) (st:AG) (f:Ah) (fd:Bv):Prop where
 ex:∃(oc:Aj)(od:An Ah)(dV kV doc pm:Aj)(an:An Ah)(cdv ct:Aj)(osl:Bj (An Aj)),
  fd=BU x qual (F4 st) (Ef st) (BF st) dV kV doc pm an cdv ct/\K.lookup f=Aa ⟨oc,od,.func fd,osl⟩/\DY K cdv qual=Ab
 kp:Bf K (.ref f)=Ab
theorem Lv{st:AG}{f:Ah}(F:Fun K x qual st f fd):FunX K x qual st f fd:=by
 obtain⟨oc,od,kV,doc,pm,an,cdv,ct,osl,e,lk,hcd⟩:=F.ex;exact⟨⟨oc,od,.none,kV,doc,pm,an,cdv,ct,osl,e,lk,hcd⟩,F.kp⟩
def Jp(K:Fg)(mg:Ag->An Aj)(fns:Ac (Ag×Af×Af))(bl:Ac Ag)(rzs exs gls:Ac (Ag×Af))(Pg:Prg)(fuel:Af)(p:Ag×Af×Af):Prop:=∃ f fd ps qual st N,Ha K mg p.1=Aa (.ref f)/\(∃ x,FunX K x qual st f fd)/\DB K fd ps []/\ps.length=p.2.2%1000/\El fuel (CO 1000 p.2.2) fns bl rzs exs gls ps N st (Pg.defs p.2.1)=Ab
noncomputable def Pc:AG->An (Am×Am×AA)
  | .Assign ts v p=>(match ts with
    |[t]=>Aa (t,v,p)
    | _=>Ae)
  |_=>Ae
theorem Rr{e:AG}{t:Am×Am×AA}(h:Pc e=Aa t):e=.Assign [t.1] t.2.1 t.2.2:=by
 cases e with
 |Assign ts v p=>
  cases ts with
  |nil=>exact nomatch (show Ae=Aa t from h)
  |cons a ts=>
   cases ts with
   |nil=>cases h;rfl
   |cons=>exact nomatch (show Ae=Aa t from h)
 |_=>exact nomatch (show Ae=Aa t from h)
noncomputable def Pb:Am->An (Am×Ag×AA)
 |.Attribute e x p=>Aa (e,x,p)
 |_=>Ae
theorem Ro{e:Am}{t:Am×Ag×AA}(h:Pb e=Aa t):e=.Attribute t.1 t.2.1 t.2.2:=by
 cases e with
 |Attribute e x p=>cases h;rfl
 |_=>exact nomatch (show Ae=Aa t from h)
noncomputable def UQ(n:Af)(T:Tc)(b:Ac AG):An DL:=(LG b).bind λs=>(Pc s.1).bind λt1=>(Pb t1.1).bind λa1=>(GI a1.1).bind λs1=>(GI t1.2.1).bind λq1=>(Pc s.2).bind λt2=>(Pb t2.1).bind λa2=>(GI a2.1).bind λs2=>
 if (s1.1==("self" : Ag)&&(a1.2.1==("p" : Ag)&&(q1.1==("p" : Ag)&&(s2.1==("self" : Ag)&&(a2.2.1==("triple" : Ag)&&(Gg t2.2.1&&A8 n T t2.2.1 (.call 17 (.cons (.var 1) (.cons (.var 2) .nil)))))))))=Ab then Aa () else Ae
theorem cO{n:Af}{T:Tc}{b:Ac AG}(h:UQ n T b=Aa u):∃ p0 p1 p2 p3 p4 p5 p6 ev,b=[.Assign [.Attribute (.Name "self" p0) "p" p1] (.Name "p" p2) p6,.Assign [.Attribute (.Name "self" p3) "triple" p4] ev p5]/\Gg ev=Ab/\A8 n T ev (.call 17 (.cons (.var 1) (.cons (.var 2) .nil)))=Ab:=by
 obtain⟨s,e1,h⟩:=Av.mp h;obtain⟨t1,e2,h⟩:=Av.mp h;obtain⟨a1,e3,h⟩:=Av.mp h;obtain⟨s1,e4,h⟩:=Av.mp h;obtain⟨q1,e5,h⟩:=Av.mp h;obtain⟨t2,e6,h⟩:=Av.mp h;obtain⟨a2,e7,h⟩:=Av.mp h;obtain⟨s2,e8,h⟩:=Av.mp h;split at h
 .rename_i hc;simp only[Al,AB]at hc;obtain⟨c1,c2,c3,c4,c5,c6,c7⟩:=hc;rw[Mb e1,Rr e2,Ro e3,HF e4,HF e5,Rr e6,Ro e7,HF e8,c1,c2,c3,c4,c5];exact⟨_,_,_,_,_,_,_,_,rfl,c6,c7⟩
 .cases h
noncomputable def LI(fuel:Af)(fns:Ac (Ag×Af×Af))(bl:Ac Ag)(rzs exs gls:Ac (Ag×Af))(st:AG):Ak:=
 (BF st).kind==.function&&((BF st).isCoroutine==Ad&&((BF st).isGenerator==Ad&&((BF st).names.lookup ("self" : Ag)==Aa .local&&((BF st).names.lookup ("p" : Ag)==Aa .local&&((BF st).names.lookup ("numbers" : Ag)==Aa .local&&(((BF st).names.all λy=>y.2 != .free) &&
  (UQ fuel ⟨BF st,["self", "p", "numbers"],fns,bl,rzs,exs,gls,Ab⟩ (Ef st)).isSome))))))
noncomputable def EW(s:AG)(j:Af):AG:=match s with
  |.ClassDef _ _ _ b _ _ _ _ _ _ _=>b.getD j s
  |s=>s
def InR(K:Fg)(fns:Ac (Ag×Af×Af))(bl:Ac Ag)(rzs exs gls:Ac (Ag×Af))(Pg:Prg)(fuel:Af):Prop:=(∀ c,c<3->Pg.defs (900+c)=mkC c)/\Pg.defs 910=inC/\∃ f fd x qual st,FunX K x qual st f fd/\DB K fd ["self", "p", "numbers"] []/\LI fuel fns bl rzs exs gls st=Ab/\∀ c,c<3->∃ C,OC K c=Aa C/\Mk K C f
structure Tab (K:Fg) (mg:Ag->An Aj) (CL:ClA) (fns:Ac (Ag×Af×Af)) (bl:Ac Ag) (rzs exs gls:Ac (Ag×Af)) (Pg:Prg) (fuel:Af):Prop where
 os:OS K mg
 ini:InR K fns bl rzs exs gls Pg fuel
 xt:XT Pg.up Pg.xn CL rzs exs K mg
 bln:∀ x,x∈bl->mg x=Ae
 gl:∀ p∈gls,M6 K mg CL p.1 (Pg.G p.2)
 fn:∀ p∈fns,Jp K mg fns bl rzs exs gls Pg fuel p
theorem kR(Pg:Prg)(n i:Af):(gam Pg n).fr i=(Pg.defs i).fr:=by cases n<;>rfl
theorem Tl(Pg:Prg)(n:Af):(gam Pg n).up=Pg.up:=by cases n<;>rfl
theorem Uu(Pg:Prg)(n:Af):(gam Pg n).G=Pg.G:=by cases n<;>rfl
theorem Tk(Pg:Prg)(n:Af):(gam Pg n).xn=Pg.xn:=by cases n<;>rfl
section
variable{P:AL}{w:Az}{K:Fg}{mg:Ag->An Aj}{base:AE}{CL:ClA}{fns:Ac (Ag×Af×Af)}{bl:Ac Ag}{rzs exs gls:Ac (Ag×Af)}{Pg:Prg}{fuel:Af}
def Lvl(P:AL)(w:Az)(K:Fg)(mg:Ag->An Aj)(base:AE)(CL:ClA)(Pg:Prg)(n:Af)(p:Ag×Af×Af):Prop:=∃ f fd ps,Ha K mg p.1=Aa (.ref f)/\Bf K (.ref f)=Ab/\DB K fd ps []/\ps.length=p.2.2%1000/\(p.2.2<1000->FnOk P w K mg base (CXR P w) n f fd ps (spD K CL (p.2.2%1000) ((gam Pg n).fr p.2.1) ((gam Pg n).F p.2.1)))/\(1000<=p.2.2->HotOk P w K mg base n f fd ps (spH K CL (p.2.2%1000) ((gam Pg n).fr p.2.1) ((gam Pg n).F p.2.1)))
theorem SN(t:Tab K mg CL fns bl rzs exs gls Pg fuel){n:Af}(hlv:∀ q∈fns,Lvl P w K mg base CL Pg n q)(hmk:∀ c,c<3->MkR P w K mg base CL (gam Pg n).F n c){st:AG}{f:Ah}{ps N:Ac Ag}{m id:Af}(h2:FunX K x qual st f fd)(h4:ps.length=m)(h5:El fuel Ad fns bl rzs exs gls ps N st (Pg.defs id)=Ab):FnOk P w K mg base (CXR P w) (n+1) f fd ps (spD K CL m ((gam Pg (n+1)).fr id) ((gam Pg (n+1)).F id)):=by
  unfold El at h5;simp only[Al,AB,Bm,Ca,BS,GO,KQ]at h5;obtain⟨⟨⟨⟨⟨⟨⟨⟨c1,c2⟩,c3⟩,c4⟩,c5⟩,c6⟩,c7⟩,c8⟩,c9⟩:=h5;obtain⟨oc,od,dV,kV,doc,pm,an,cdv,ct,osl,rfl,lk,hcd⟩:=h2.ex;refine PF (N:=N) lk hcd ⟨c1,c2,c3,K6 c4,c5,c6,c7⟩ (λvs H Q E ⟨ds,A,z,_⟩=>z.trans h4.symm) λA outer s H vs Q E hr ⟨ds,B,hl,hA,hreps,hpost⟩=>?_
  have xt:XT (gam Pg n).up (gam Pg n).xn CL rzs exs K mg:=by rw[Tl,Tk];exact t.xt
  have gl:∀ p∈gls,M6 K mg CL p.1 ((gam Pg n).G p.2):=by rw[Uu];exact t.gl
  have key:∀ W:XW,(∀ x cls dx H',W x H'->Eh K CL H' cls dx x->E cls dx H')->Bw K CL ⟨λb o=>H b=Aa o,λ_ _ _=>AU⟩ B W (evSs (gam Pg n) (BV (Pg.defs id).n ds) (Pg.defs id).body) {nx:=λ_ H'=>Q .non H',rt:=Q} ->
      ∃ t,PSs (E2 (CXR P w) P w K mg base N qual (BF st) f cdv A outer s H E) (Ef st) t/\t {nx:=λ_ H'=>Q .non H',rt:=Q} (start N vs) H:=λW hW hp=>by
    have v:VX (gam Pg n) CL n W ⟨BF st,N,fns,bl,rzs,exs,gls,Ab⟩ (E2 (CXR P w) P w K mg base N qual (BF st) f cdv A outer s H E):=⟨rfl,c1,rfl,K6 c4,rfl,hr,t.bln,t.os,hmk,hlv,ownR,Ub hW,rzR hW,fzR hW,xt,gl,λ_=>rfl⟩
    exact⟨_,(PV fuel).ss W _ _ _ (Pg.defs id).body v ⟨λ_=>rfl,rfl,rfl,rfl⟩ c9 ⟨λb o=>H b=Aa o,λ_ _ _=>AU⟩ B,_,Y_4 c8 hA hreps,hp⟩
  have no:∀ x cls dx H',W0 x H'->Eh K CL H' cls dx x->E cls dx H':=λ_ _ _ _ z=>z.elim
  have e:(gam Pg (n+1)).F id ds=EE Pg.xs ((evSs (gam Pg n) (BV (Pg.defs id).n ds) (Pg.defs id).body).ans (Pg.defs id).fr):=rfl;rw[e,kR]at hpost;have cutO:∀ r:R D,(∀ x,r≠.exn x)->EE Pg.xs r=r:=λr hr=>by
    cases Pg.xs<;>cases r<;>first|rfl|exact absurd rfl (hr _)
  cases eo:evSs (gam Pg n) (BV (Pg.defs id).n ds) (Pg.defs id).body with
  |next U'=>
    refine key W0 no ?_;rw[eo]at hpost ⊢;cases ef:(Pg.defs id).fr with
    |true=>rw[ef]at hpost;rw[cutO _ (by intro x z;cases z)]at hpost;exact hpost.elim
    |false=>
      rw[ef]at hpost;rw[cutO _ (by intro x z;cases z)]at hpost
      exact λY' H' x'=>hpost .non H' (λb o z=>x'.same b o z) ⟨rfl,λz=>nomatch z⟩
  |ret d b=>
    refine key W0 no ?_;rw[eo]at hpost ⊢;intro v H' sm rp fr;have hp2:(match EE Pg.xs (if ((Pg.defs id).fr&&(!b&&isL d))=Ab then R.bad else R.ok d) with
      |.ok d=>∀ v H',Ay H H'->DN K CL (Pg.defs id).fr H B H' v d->Q v H'
      |.exn x=>∀ cls dx H',Ay H H'->Eh K CL H' cls dx x->E cls dx H'
      | .bad=>AU):=hpost
    cases ec:((Pg.defs id).fr&&(!b&&isL d)) with
    |true=>rw[ec,AC rfl,cutO _ (by intro x z;cases z)]at hp2;exact hp2.elim
    |false=>
      rw[ec,AJ (by decide),cutO _ (by intro x z;cases z)]at hp2
      refine hp2 v H' sm ⟨rp,λefr es hd=>?_⟩
      subst hd;have eb:b=Ab:=by
        cases b with
        |true=>rfl
        |false=>rw[efr]at ec;cases ec
      obtain⟨a,xs,h1,h2,h3,h4⟩:=fr eb es rfl;refine⟨a,xs,h1,?_,h3,h4⟩;cases ha:H a with
      |none=>rfl
      |some o=>exact absurd ha (h2 o)
  |brk U'=>rw[eo]at hpost;have hp2:(match EE Pg.xs (R.bad:R D) with | .ok _=>_ | .exn _=>_ | .bad=>AU):=hpost;rw[cutO _ (by intro x z;cases z)]at hp2;exact hp2.elim
  |cont U'=>rw[eo]at hpost;have hp2:(match EE Pg.xs (R.bad:R D) with | .ok _=>_ | .exn _=>_ | .bad=>AU):=hpost;rw[cutO _ (by intro x z;cases z)]at hp2;exact hp2.elim
  |bad=>rw[eo]at hpost;have hp2:(match EE Pg.xs (R.bad:R D) with | .ok _=>_ | .exn _=>_ | .bad=>AU):=hpost;rw[cutO _ (by intro x z;cases z)]at hp2;exact hp2.elim
  |exn x U'=>
    rw[eo]at hpost;have hp2:(match EE Pg.xs (R.exn x:R D) with
      |.ok d=>∀ v H',Ay H H'->DN K CL (Pg.defs id).fr H B H' v d->Q v H'
      |.exn x=>∀ cls dx H',Ay H H'->Eh K CL H' cls dx x->E cls dx H'
      | .bad=>AU):=hpost
    cases ex:Pg.xs with
    |false=>rw[ex]at hp2;exact hp2.elim
    |true=>
      rw[ex]at hp2;have hp3:∀ cls dx H',Ay H H'->Eh K CL H' cls dx x->E cls dx H':=hp2;refine key (λy H'=>y=x/\Ay H H') (λy cls dx H' ⟨e1,sm⟩ xr=>?_) ?_
      · subst e1;exact hp3 cls dx H' sm xr
      · rw[eo];exact λH' sm=>⟨rfl,sm⟩
theorem kM(t:Tab K mg CL fns bl rzs exs gls Pg fuel){n:Af}(hlv:∀ q∈fns,Lvl P w K mg base CL Pg n q)(hmk:∀ c,c<3->MkR P w K mg base CL (gam Pg n).F n c){st:AG}{f:Ah}{ps N:Ac Ag}{m id:Af}(h2:FunX K x qual st f fd)(h4:ps.length=m)(h5:El fuel Ab fns bl rzs exs gls ps N st (Pg.defs id)=Ab):HotOk P w K mg base (n+1) f fd ps (spH K CL m ((gam Pg (n+1)).fr id) ((gam Pg (n+1)).F id)):=by
 exfalso
 unfold El at h5;simp at h5
noncomputable def Gn(Pg:Prg)(n:Af):Ac D->R D
  | [d1,d2]=>(match (gam Pg n).F 17 [d1,d2] with
    |.ok t=>if nlD 5 t=Ab then .ok (.tup [d1,t]) else .bad
    |.exn y=>.exn y
    | .bad=>.bad)
  |_=>.bad
theorem bY(t:Tab K mg CL fns bl rzs exs gls Pg fuel){n:Af}(hlv:∀ q∈fns,Lvl P w K mg base CL Pg n q)(hmk:∀ c,c<3->MkR P w K mg base CL (gam Pg n).F n c){st:AG}{f:Ah}(h2:FunX K x qual st f fd)(h5:LI fuel fns bl rzs exs gls st=Ab):
    FnOk P w K mg base (CXR P w) (n+1) f fd ["self", "p", "numbers"] (spI K CL (Gn Pg n)):=by
  unfold LI at h5;simp only[Al,AB,Ca,GO,KQ]at h5;obtain⟨c1,c2,c3,c4,c5,c6,c7,c8⟩:=h5;obtain⟨u,c8⟩:=Ch.mp c8;obtain⟨p0,p1,p2,p3,p4,p5,p6,ev,eb,hnc,hck⟩:=cO c8;obtain⟨oc,od,dV,kV,doc,pm,an,cdv,ct,osl,rfl,lk,hcd⟩:=h2.ex;refine PF (N:=["self", "p", "numbers"]) lk hcd ⟨c1,c2,c3,by decide,rfl,λy hy=>?_,c7⟩ (λvs H Q E ⟨x,C,dx,us,ds,A,H0,e,z,_⟩=>by rw[e,Ba,z];rfl) λA outer s H vs Q E hr ⟨x,C,dx,us,ds,B,H0,e,hl,cl,np,nt,hx,h0,sm,hA,hreps,hpost⟩=>?_
  · rcases AH.mp hy with rfl|hy
    · exact .inl c4
    · rcases AH.mp hy with rfl|hy
      · exact .inl c5
      · rw[Br.mp hy];exact .inl c6
  subst e;have xt:XT (gam Pg n).up (gam Pg n).xn CL rzs exs K mg:=by rw[Tl,Tk];exact t.xt
  have gl:∀ p∈gls,M6 K mg CL p.1 ((gam Pg n).G p.2):=by rw[Uu];exact t.gl
  have vW:∀ W:XW,(∀ x cls dx H',W x H'->Eh K CL H' cls dx x->E cls dx H')->VX (gam Pg n) CL n W ⟨BF st,["self", "p", "numbers"],fns,bl,rzs,exs,gls,Ab⟩ (E2 (CXR P w) P w K mg base ["self", "p", "numbers"] qual (BF st) f cdv A outer s H E):=λW no=>⟨rfl,c1,rfl,(show (["self", "p", "numbers"]:Ac Ag).Nodup by decide),rfl,hr,t.bln,t.os,hmk,hlv,ownR,Ub no,rzR no,fzR no,xt,gl,λ_=>rfl⟩
  match us,hl with
  |[v1,v2],_=>
    match ds,hreps with
    |[],r=>exact r.elim
    |[_],r=>exact r.2.elim
    |_::_::_::_,r=>exact r.2.2.elim
    |[d1,d2],r=>
      suffices hcase:∃ W:XW,(∀ x cls dx H',W x H'->Eh K CL H' cls dx x->E cls dx H')/\((∃ t,(gam Pg n).F 17 [d1,d2]=.ok t/\nlD 5 t=Ab/\∀ w1 w2 H',Ay H0 H'->H' x=Aa (.ins C dx [("p",w1),("triple",w2)])->Rep K CL H' B w1 d1->Rep K CL H' B w2 t->Q .non H')\/∃ y,(gam Pg n).F 17 [d1,d2]=.exn y/\∀ H',Ay H0 H'->W y H') by
        obtain⟨W,no,hcond⟩:=hcase;have sv:=((snd fuel).e W _ _ ev _ (vW W no) hck).se;obtain⟨tt,pss,rd⟩:=YE (H:=H) (H0:=H0) (x:=x) (C:=C) (dx:=dx) (v1:=v1) (v2:=v2) (d1:=d1) (d2:=d2) (A:=B) (Q:=Q) (Y:=L2.start ["self", "p", "numbers"] [.ref x,v1,v2]) (p0:=p0) (p1:=p1) (p2:=p2) (p3:=p3) (p4:=p4) (p5:=p5) (p6:=p6) (t0:=E2 (CXR P w) P w K mg base ["self", "p", "numbers"] qual (BF st) f cdv A outer s H E)
          (λp=>Kk rfl (.inl c4)) (λp=>Kk rfl (.inl c5)) sv (Ib hnc)
        exact⟨tt,by rw[eb];exact pss,rd rfl cl np nt hx h0 sm hA r.1 r.2.1 hcond⟩
      have hp2:(match (match (gam Pg n).F 17 [d1,d2] with
          |.ok t=>if nlD 5 t=Ab then R.ok (D.tup [d1,t]) else .bad
          |.exn y=>.exn y
          | .bad=>.bad) with
        |.ok d=>∀ e1 e2,d=.tup [e1,e2]->∀ v1 v2 H',Ay H0 H'->H' x=Aa (.ins C dx [("p",v1),("triple",v2)])->Rep K CL H' B v1 e1->Rep K CL H' B v2 e2->Q .non H'
        |.exn y=>∀ cls dy H',Ay H0 H'->Eh K CL H' cls dy y->E cls dy H'
        | .bad=>AU):=hpost
      cases e17:(gam Pg n).F 17 [d1,d2] with
      |bad=>rw[e17]at hp2;exact hp2.elim
      |exn y=>
        rw[e17]at hp2;exact⟨λy' H'=>y'=y/\Ay H0 H',λx' cls dy H' z xr=>(by obtain⟨rfl,sm'⟩:=z;exact hp2 cls dy H' sm' xr),.inr ⟨y,rfl,λH' sm'=>⟨rfl,sm'⟩⟩⟩
      |ok t0=>
        rw[e17]at hp2;dsimp only at hp2;by_cases hn:nlD 5 t0=Ab
        · rw[AC hn]at hp2;exact⟨W0,λ_ _ _ _ z=>z.elim,.inl ⟨t0,rfl,hn,λw1 w2 H' a b c d=>hp2 _ _ rfl w1 w2 H' a b c d⟩⟩
        · rw[AJ hn]at hp2;exact hp2.elim
theorem mkF:(mkC c).run Z [d1,d2]=(Z.F 910 [d1,d2]).bind (Dk c):=by
 simp only[Df.run,mkC,BV,Yx,RU];show (O.seq (O.of _ (((Z.F 910 [d1,d2]).bind λd=>.ok d).bind λx=>Dk c x) λd=>O.ret d _) _).ans Ad=_
 have nx:∀ d y,Dk c d≠.exn y:=λd y z=>by
  unfold Dk at z;split at z
  .split at z<;>cases z
  .cases z
 cases Z.F 910 [d1,d2] with
 |bad=>rfl
 |exn y=>rfl
 |ok d=>
  show (O.seq (O.of _ (Dk c d) λd=>O.ret d _) _).ans Ad=Dk c d
  cases e:Dk c d with
  |ok _=>rfl
  |bad=>rfl
  |exn y=>exact absurd e (nx d y)
theorem inF:inC.run Z [d1,d2]=(Z.F 17 [d1,d2]).bind λt=>.ok (.tup [d1,t]):=by
 simp[Df.run,inC,BV];cases Z.F 17 [d1,d2]<;>rfl
theorem T8(t:Tab K mg CL fns bl rzs exs gls Pg fuel):∀ n,(∀ m,m<=n->∀ q∈fns,Lvl P w K mg base CL Pg m q)->∀ c,c<3->MkR P w K mg base CL (gam Pg n).F n c:=by
  intro n
  induction n using Nat.strongRecOn with
  |ind n ih=>
    intro hl c hc;obtain⟨i1,i2,f,fd,x,qual,st,h2,h3,h5,h6⟩:=t.ini
    match n,ih,hl with
    |0,_,_=>exact .inl λds=>rfl
    |1,_,_=>
      refine .inl λds=>?_
      have e:(gam Pg 1).F (900+c) ds=EE Pg.xs ((Pg.defs (900+c)).run (gam Pg 0) ds):=rfl;rw[e,i1 c hc];have e2:(mkC c).run (gam Pg 0) ds=.bad:=by
        match ds with
        |[]=>rfl
        |[_]=>rfl
        |_::_::_=>rfl
      rw[e2];cases Pg.xs<;>rfl
    |m+2,ih,hl=>
      obtain⟨C,o1,M⟩:=h6 c hc;refine .inr ⟨C,f,fd,Gn Pg m,m+1,o1,M,h3,rfl,bY t (λq hq=>hl m (by omega) q hq) (ih m (by omega) λk hk=>hl k (by omega)) h2 h5,λds hd=>?_⟩
      match ds,hd with
      |[d1,d2],_=>
        have e:(gam Pg (m+2)).F (900+c) [d1,d2]=EE Pg.xs ((Pg.defs (900+c)).run (gam Pg (m+1)) [d1,d2]):=rfl;have e0:(gam Pg (m+1)).F 910 [d1,d2]=EE Pg.xs ((Pg.defs 910).run (gam Pg m) [d1,d2]):=rfl;rw[e,i1 c hc,mkF,e0,i2,inF];cases e17:(gam Pg m).F 17 [d1,d2] with
        |bad=>refine .inl ?_;cases Pg.xs<;>rfl
        |exn y=>
          have g:Gn Pg m [d1,d2]=.exn y:=by
            show (match (gam Pg m).F 17 [d1,d2] with
              |.ok t=>if nlD 5 t=Ab then .ok (.tup [d1,t]) else .bad
              |.exn y=>.exn y
              | .bad=>.bad:R D)=_
            rw[e17]
          cases ex:Pg.xs with
          |true=>refine .inr ?_;rw[g];rfl
          |false=>exact .inl rfl
        |ok t0=>
          by_cases hn:nlD 5 t0=Ab
          · refine .inr ?_;have g:Gn Pg m [d1,d2]=.ok (.tup [d1,t0]):=by
              show (match (gam Pg m).F 17 [d1,d2] with
                |.ok t=>if nlD 5 t=Ab then .ok (.tup [d1,t]) else .bad
                |.exn y=>.exn y
                | .bad=>.bad:R D)=_
              rw[e17];exact AC hn
            rw[g];have:Dk c (.tup [d1,t0])=.ok (.obj c [("p",d1),("triple",t0)]):=AC hn;show EE Pg.xs ((EE Pg.xs (R.ok (D.tup [d1,t0]))).bind (Dk c))=Dk c (.tup [d1,t0]);cases Pg.xs with
            |true=>show Dk c (.tup [d1,t0])=_;rfl
            |false=>show noX (Dk c (.tup [d1,t0]))=_;rw[this];rfl
          · refine .inl ?_;have:Dk c (.tup [d1,t0])=.bad:=AJ hn;show EE Pg.xs ((EE Pg.xs (R.ok (D.tup [d1,t0]))).bind (Dk c))=.bad;cases Pg.xs with
            |true=>show Dk c (.tup [d1,t0])=_;exact this
            |false=>show noX (Dk c (.tup [d1,t0]))=_;rw[this];rfl
theorem RO(t:Tab K mg CL fns bl rzs exs gls Pg fuel):∀ n m,m<=n->∀ p∈fns,Lvl P w K mg base CL Pg m p:=by
 have zero:∀ p∈fns,Lvl P w K mg base CL Pg 0 p:=λp hp=>by
  obtain⟨f,fd,ps,qual,st,N,h1,⟨x0,h2⟩,h3,h4,h5⟩:=t.fn p hp;exact⟨f,fd,ps,h1,h2.kp,h3,h4,λ_=>⟨λvs H Q E ⟨ds,A,_,_,_,z⟩=>z.elim,λA outer s H args us vs Q E _ _ _ _ ⟨ds,A,_,_,_,z⟩=>z.elim⟩,λ_=>⟨λvs H Q E ⟨ds,A,_,_,_,z⟩=>z.elim,λA ev outer s H args us vs Q E _ _ _ _ ⟨ds,A,_,_,_,z⟩=>z.elim⟩⟩
 intro n
 induction n with
 |zero=>intro m hm p hp;obtain rfl:=Nat.le_zero.mp hm;exact zero p hp
 |succ n ih=>
  intro m hm p hp;by_cases hmn:m<=n
  .exact ih m hmn p hp
  .have:m=n+1:=by omega
   subst this;have mk:=T8 (P:=P) (w:=w) (base:=base) t n ih;obtain⟨f,fd,ps,qual,st,N,h1,⟨x0,h2⟩,h3,h4,h5⟩:=t.fn p hp;refine⟨f,fd,ps,h1,h2.kp,h3,h4,λhlt=>?_,λhge=>?_⟩
   .have eb:CO 1000 p.2.2=Ad:=by
     cases e:CO 1000 p.2.2 with
     |false=>rfl
     |true=>exact absurd (BG e) (by omega)
    rw[eb]at h5;exact SN t (λq hq=>ih n (AN _) q hq) mk h2 h4 h5
   .rw[Nat.ble_eq_true_of_le hge]at h5;exact kM t (λq hq=>ih n (AN _) q hq) mk h2 h4 h5
theorem gS(t:Tab K mg CL fns bl rzs exs gls Pg fuel)(n:Af):∀ p∈fns,Lvl P w K mg base CL Pg n p:=RO t n n (AN _)
theorem gU(t:Tab K mg CL fns bl rzs exs gls Pg fuel)(n:Af):∀ c,c<3->MkR P w K mg base CL (gam Pg n).F n c:=T8 t n (RO t n)
theorem jP{s s':Ao}{e:Aj}(h:CXR P w [] H s (λ_ _ _=>AU) e s'):AU:=by
 obtain⟨_,_,_,_,_,_,_,_,_,_,_,_,_,_,_,z⟩:=h;exact z
noncomputable def UJ:AG->An (Am×AA)
 |.Expr e p=>Aa (e,p)
 |_=>Ae
theorem bL{e:AG}{t:Am×AA}(h:UJ e=Aa t):e=.Expr t.1 t.2:=by
 cases e with
 |Expr x p=>cases h;rfl
 |_=>exact nomatch (show Ae=Aa t from h)
noncomputable def UL:AG->An (Am×Am×AA)
  | .Assign ts v p=>(match ts with
    |[t]=>Aa (t,v,p)
    | _=>Ae)
  |_=>Ae
theorem bN{e:AG}{t:Am×Am×AA}(h:UL e=Aa t):e=.Assign [t.1] t.2.1 t.2.2:=by
 cases e with
 |Assign ts v p=>
  cases ts with
  |nil=>exact nomatch (show Ae=Aa t from h)
  |cons a ts=>
   cases ts with
   |nil=>cases h;rfl
   |cons=>exact nomatch (show Ae=Aa t from h)
 |_=>exact nomatch (show Ae=Aa t from h)
noncomputable def PN:Am->An (Am×Ag×AA)
 |.Attribute e x p=>Aa (e,x,p)
 |_=>Ae
theorem RE{e:Am}{t:Am×Ag×AA}(h:PN e=Aa t):e=.Attribute t.1 t.2.1 t.2.2:=by
 cases e with
 |Attribute e x p=>cases h;rfl
 |_=>exact nomatch (show Ae=Aa t from h)
noncomputable def UI:Am->An (Ac Am×AA)
 |.JoinedStr l p=>Aa (l,p)
 |_=>Ae
theorem bK{e:Am}{t:Ac Am×AA}(h:UI e=Aa t):e=.JoinedStr t.1 t.2:=by
 cases e with
 |JoinedStr l p=>cases h;rfl
 |_=>exact nomatch (show Ae=Aa t from h)
noncomputable def PM:Am->An (Am×Ai×AA)
  | .FormattedValue e n f p=>(match f with
    |none=>Aa (e,n,p)
    | _=>Ae)
  |_=>Ae
theorem RD{e:Am}{t:Am×Ai×AA}(h:PM e=Aa t):e=.FormattedValue t.1 t.2.1 Ae t.2.2:=by
 cases e with
 |FormattedValue e n f p=>
  cases f with
  |none=>cases h;rfl
  |some=>exact nomatch (show Ae=Aa t from h)
 |_=>exact nomatch (show Ae=Aa t from h)
noncomputable def MX:Am->An (Ag×Af×AA)
  | .Constant c k p=>(match c with
    |.str z=>Aa (z,k,p)
    | _=>Ae)
  |_=>Ae
theorem Ou{e:Am}{t:Ag×Af×AA}(h:MX e=Aa t):e=.Constant (.str t.1) t.2.1 t.2.2:=by
 cases e with
 |Constant c k p=>
  cases c with
  |str z=>cases h;rfl
  |_=>exact nomatch (show Ae=Aa t from h)
 |_=>exact nomatch (show Ae=Aa t from h)
noncomputable def UH{α:Type}:Ac α->An (α×α×α)
 |[a,b,c]=>Aa (a,b,c)
 |_=>Ae
theorem bJ{l:Ac α}{t:α×α×α}(h:UH l=Aa t):l=[t.1,t.2.1,t.2.2]:=by
  match l,h with
  |[a,b,c],h=>cases h;rfl
  |[],h=>cases h
  |[_],h=>cases h
  |[_,_],h=>cases h
  |_::_::_::_::_,h=>cases h
noncomputable def pT(par:Ag)(j:Ac Am):An DL:=(LG j).bind λfk=>(PM fk.1).bind λfm=>(GI fm.1).bind λq1=>(MX fk.2).bind λz=>if (q1.1==par&&(decide (fm.2.1=-1)&&CO z.1.length 1000))=Ab then Aa () else Ae
noncomputable def qK(par:Ag)(j:Ac Am):An DL:=(UH j).bind λfk=>(MX fk.1).bind λy=>(PM fk.2.1).bind λfm=>(GI fm.1).bind λq1=>(MX fk.2.2).bind λz=>if (q1.1==par&&(decide (fm.2.1=-1)&&(CO y.1.length 400&&CO z.1.length 1000)))=Ab then Aa () else Ae
noncomputable def fsX(par:Ag)(e:Am):An DL:=(UI e).bind λj=>if ((pT par j.1).isSome||(qK par j.1).isSome)=Ab then Aa () else Ae
theorem kT{e:Am}(h:fsX par e=Aa u):FsOk par e:=by
 obtain⟨j,e1,h⟩:=Av.mp h;rw[bK e1];split at h
 .rename_i hc;rcases orT hc with hc|hc
  .obtain⟨_,h⟩:=Ch.mp hc;obtain⟨fk,e2,h⟩:=Av.mp h;obtain⟨fm,e3,h⟩:=Av.mp h;obtain⟨q1,e4,h⟩:=Av.mp h;obtain⟨z,e5,h⟩:=Av.mp h;split at h
   .rename_i hc;simp only[Al,AB,AD]at hc;obtain⟨c1,c2,c3⟩:=hc;rw[Mb e2,RD e3,HF e4,Ou e5,c1,c2];exact kS (BG c3)
   .cases h
  .obtain⟨_,h⟩:=Ch.mp hc;obtain⟨fk,e2,h⟩:=Av.mp h;obtain⟨y,e6,h⟩:=Av.mp h;obtain⟨fm,e3,h⟩:=Av.mp h;obtain⟨q1,e4,h⟩:=Av.mp h;obtain⟨z,e5,h⟩:=Av.mp h;split at h
   .rename_i hc;simp only[Al,AB,AD]at hc;obtain⟨c1,c2,c4,c3⟩:=hc;rw[bJ e2,Ou e6,RD e3,HF e4,Ou e5,c1,c2];exact ZG (BG c4) (BG c3)
   .cases h
 .cases h
noncomputable def UW(g par f:Ag)(b:Ac AG):An DL:=(LG b).bind λs=>(UJ s.1).bind λc=>(UK c.1).bind λcl=>(PN cl.1).bind λat1=>(GI at1.1).bind λg1=>(LG cl.2.1).bind λab=>(GI ab.1).bind λs1=>(fsX par ab.2).bind λ_=>(UL s.2).bind λt=>(PN t.1).bind λat2=>(GI at2.1).bind λs2=>(GI t.2.1).bind λq2=>
 if (g1.1==g&&(at1.2.1==("__init__" : Ag)&&(s1.1==("self" : Ag)&&(s2.1==("self" : Ag)&&(at2.2.1==f&&(q2.1==par&&at1.2.2.endLine==cl.2.2.line))))))=Ab then Aa () else Ae
noncomputable def UX(g par f:Ag)(b:Ac AG):Ak:=(UW g par f b).isSome
theorem bZ{g par f:Ag}{b:Ac AG}(h:UX g par f b=Ab):∃ j np apos p1 cpos p6 p7 p8 p9 p10,b=P5 g par f j np apos p1 cpos p6 p7 p8 p9 p10/\(apos.endLine==cpos.line)=Ab/\FsOk par j:=by
 obtain⟨_,h⟩:=Ch.mp (show (UW g par f b).isSome=Ab from h)
 obtain⟨s,e1,h⟩:=Av.mp h;obtain⟨c,e2,h⟩:=Av.mp h;obtain⟨cl,e3,h⟩:=Av.mp h;obtain⟨at1,e4,h⟩:=Av.mp h;obtain⟨g1,e5,h⟩:=Av.mp h;obtain⟨ab,e6,h⟩:=Av.mp h;obtain⟨s1,e7,h⟩:=Av.mp h;obtain⟨_,e8,h⟩:=Av.mp h;obtain⟨t,f4,h⟩:=Av.mp h;obtain⟨at2,f5,h⟩:=Av.mp h;obtain⟨s2,f6,h⟩:=Av.mp h;obtain⟨q2,f7,h⟩:=Av.mp h;split at h
 .rename_i hc;simp only[Al,AB,AD]at hc;obtain⟨c1,c2,c3,c6,c7,c8,h1⟩:=hc;rw[Mb e1,bL e2,bM e3,RE e4,HF e5,Mb e6,HF e7,bN f4,RE f5,HF f6,HF f7,c1,c2,c3,c6,c7,c8];exact⟨_,_,_,_,_,_,_,_,_,_,rfl,by rw[AB];exact h1,kT e8⟩
 .cases h
noncomputable def MS(g par f:Ag)(st:AG):Ak:=
 (BF st).kind==.function&&((BF st).isCoroutine==Ad&&((BF st).isGenerator==Ad&&(Kl ["self",par]&&((BF st).names.lookup ("self" : Ag)==Aa .local&&((BF st).names.lookup par==Aa .local&&(((BF st).names.all λy=>y.2 != .free) &&
  ((BF st).names.lookup g==Aa .globalImplicit&&(g != ("__debug__" : Ag)&&(par != ("__debug__" : Ag)&&(par != ("__classdict__" : Ag)&&UX g par f (Ef st)))))))))))
noncomputable def Us(s:AG):AG:=match s with
  |.ClassDef _ _ _ (b::_) _ _ _ _ _ _ _=>b
  |s=>s
def InI(K:Fg)(f:Ah)(qual:Ag)(st:AG):Prop:=∃ fd,Fun K "__init__" qual st f fd
theorem ini_mk{st:AG}{f:Ah}{oc:Aj}{kV doc pm cdv ct:Aj}(l:K.lookup f=Aa ⟨oc,od,.func (BU "__init__" qual (F4 st) (Ef st) (BF st) .none kV doc pm an cdv ct),osl⟩)(c:DY K cdv qual=Ab)(k:Bf K (.ref f)=Ab):InI K f qual st:=⟨_,OO l c k⟩
theorem gH{fI:Ah}{g par f qual:Ag}{st:AG}(a:InI K fI qual st)(hk:MS g par f st=Ab)(hb:∀(u0 u1 kV doc pm:Aj)(an:An Ah)(cdv ct:Aj),FK (BU "__init__" qual (F4 st) (Ef st) (BF st) .none kV doc pm an cdv ct) ⟨[u0,u1],[]⟩=pure ((["self",par]:Ac Ag).zip [u0,u1]))(xc:Dg K C (Aa (.ref fI))=Ab)(dc:FO K C=Ab)(ty:Dd K (.ref fI)=Aa (.type "function"))(mo:mg g=Aa (.ref OV))(s1:BY K (.ref OV) "__getattribute__" = Aa (Aa (.builtin "type.__getattribute__")))(s2:E6 K OV (.type "type")=Ab)(s3:E5 K (.ref OV) (.type "type") "__init__" = Aa (.val (.builtin "ValueError.__init__")))(hf:Aq K (.ref C) f=Aa Ae)(hs:Aq K (.ref C) "__setattr__" = Aa (Aa (.builtin "object.__setattr__"))):XIn K mg C f:=by
 obtain⟨fd,fn⟩:=a;unfold MS at hk;simp only[Al,AB,Ca,GO,KQ]at hk;obtain⟨c1,c2,c3,c4,c5,c6,c7,c8,c9,c10,c11,c12⟩:=hk;obtain⟨j,np,apos,p1,cpos,p6,p7,p8,p9,p10,eb,hl,hz⟩:=bZ c12;exact .mk xc dc fn ty ⟨c1,c2,c3,K6 c4,rfl,λx hx=>by
  rcases AH.mp hx with rfl|hx
  .exact .inl c5
  .rw[Br.mp hx];exact .inl c6,c7⟩ c5 c6 (fn.binds λkV doc pm an cdv ct us hu=>match us,hu with | [u0,u1],_=>hb u0 u1 kV doc pm an cdv ct) eb c8 mo (by simpa using c9) (by simpa using c10) (by simpa using c11) s1 s2 s3 hl hz hf hs
theorem pF(h:∀ ds,xn c ds=.bad\/xn c ds=.ok ⟨c,[]⟩)(e:Dg K C Ae=Ab)(ds:Ac D):xn c ds=.bad\/(xn c ds=.ok ⟨c,[]⟩/\Dg K C Ae=Ab)\/∃ f,XIn K mg C f/\KB xn c f ds:=(h ds).imp id λz=>.inl ⟨z,e⟩
theorem pE{f:Ag}(h:∀ ds,xn c ds=mkX c f ds)(x:XIn K mg C f)(ds:Ac D):xn c ds=.bad\/(xn c ds=.ok ⟨c,[]⟩/\Dg K C Ae=Ab)\/∃ f,XIn K mg C f/\KB xn c f ds:=by
  have e:=h ds
  match ds,e with
  |[],e=>exact .inl e
  |_::_::_,e=>exact .inl e
  |[d],e=>
    have e':xn c [d]=if (xfD 1 d||xfD 2 d)=Ab then .ok ⟨c,[(f,d)]⟩ else .bad:=e
    by_cases z:(xfD 1 d||xfD 2 d)=Ab
    · rw[AC z]at e';refine .inr (.inr ⟨f,x,d,?_⟩);rw[BS]at z;rcases z with z|z
      · exact⟨1,rfl,z,by decide,e'⟩
      · exact⟨2,rfl,z,by decide,e'⟩
    · rw[AJ z]at e';exact .inl e'
theorem Uh(dc:FO K C=Ab)(h1:Aq K (.ref C) "triple" = Aa Ae)(h2:Aq K (.ref C) "points" = Aa Ae)(h3:Aq K (.ref C) "row" = Aa Ae)(f:Ag)(h:(f==("triple" : Ag)||(f==("points" : Ag)||f==("row" : Ag)))=Ab):FO K C=Ab/\Aq K (.ref C) f=Aa Ae:=by
 rw[BS,BS]at h;rcases h with h|h|h
 .rw[eq_of_beq h];exact⟨dc,h1⟩
 .rw[eq_of_beq h];exact⟨dc,h2⟩
 .rw[eq_of_beq h];exact⟨dc,h3⟩
structure XA (K:Fg) (c:Ag) (x:Ah) (i:An Aj):Prop where
 n:Bl K AT c=Aa (Aa (.ref x))
 y:Dg K x i=Ab
 dc:FO K x=Ab
 ft:Aq K (.ref x) "triple" = Aa Ae
 fp:Aq K (.ref x) "points" = Aa Ae
 fr:Aq K (.ref x) "row" = Aa Ae
 ok:XcOk K x
theorem xcls_l{x:Ah}(e:IB K x [.type "ValueError",.type "Exception",.type "BaseException",.type "object"] "ValueError.__new__" = Ab):Dg K x Ae=Ab:=bE e
theorem xa_mk{c:Ag}{x:Ah}{i:An Aj}(n:Bl K AT c=Aa (Aa (.ref x)))(e:Dg K x i=Ab)(dc:FO K x=Ab)(ft:Aq K (.ref x) "triple" = Aa Ae)(fp:Aq K (.ref x) "points" = Aa Ae)(fr:Aq K (.ref x) "row" = Aa Ae)(ga:Aq K (.ref x) "__getattribute__" = Aa (Aa (.builtin "BaseException.__getattribute__")))(gt:Aq K (.ref x) "__getattr__" = Aa Ae)(cl:Aq K (.ref x) "__class__" = Aa (Aa (.builtin "object.__class__")))(ob:B4 K x (.type "object")=Aa Ab)(be:BB K (.ref x) (.type "BaseException")=Aa Ab)(sv:BB K (.ref x) (.type "ValueError")=Aa Ab):XA K c x i:=⟨n,e,dc,ft,fp,fr,kX e ga gt cl ob be sv⟩
structure XB (K:Fg) (c:Ag) (x i:Ah) (q:Ag) (st:AG):Prop where
 fi:Aq K (.ref x) "__init__" = Aa (Aa (.ref i))
 a:XA K c x (Aa (.ref i))
 ii:InI K i q st
 ti:Dd K (.ref i)=Aa (.type "function")
 sn:Aq K (.ref x) "__setattr__" = Aa (Aa (.builtin "object.__setattr__"))
structure XE (K:Fg) (c:Ag) (x:Ah):Prop where
 n:Bl K AT c=Aa (Aa (.ref x))
 cs:B4 K x (.type "object")=Aa Ab
 ty:Dd K (.ref x)=Aa (.type "type")
structure XO (K:Fg) (x:Ah):Prop where
 sa:BY K (.ref x) "__getattribute__" = Aa (Aa (.builtin "type.__getattribute__"))
 sb:E6 K x (.type "type")=Ab
 sc:E5 K (.ref x) (.type "type") "__init__" = Aa (.val (.builtin "ValueError.__init__"))
def SuC(K:Fg)(C:Ah)(l:Ac (Ah×Ak)):Prop:=∀ q∈l,BB K (.ref q.1) (.ref C)=Aa q.2
def KC(K:Fg)(C:Ah):Prop:=∀ x i v,Dg K x i=Ab->BB K (.ref x) (.ref C)=Aa v->BR K (.ref x) (.ref C)=Aa v
theorem XA.kc{c:Ag}{x:Ah}{i:An Aj}(a:XA K c x i):KC K x:=λ_ _ _ y s=>cW y a.y s
theorem XE.kc{c:Ag}{x:Ah}(a:XE K c x):KC K x:=λ_ _ _ y s=>Zx y a.cs a.ty s
noncomputable def clL:Ac (Af×Ah)->Af->An Ah
 |[],_=>Ae
 |p::r,c=>if Nat.beq c p.1=Ab then Aa p.2 else clL r c
theorem Lq:∀{l:Ac (Af×Ah)},clL l c=Aa C->(c,C)∈l:=by
 intro l
 induction l with
 |nil=>intro q;cases q
 |cons p r ih=>
  intro q;obtain⟨n,x⟩:=p;by_cases e:Nat.beq c n=Ab
  .cases Nat.eq_of_beq_eq_true e;cases (show Aa x=Aa C from (AC e).symm.trans q)
   exact AO
  .exact AF _ (ih ((AJ e).symm.trans q))
structure XR (K:Fg) (mg:Ag->An Aj) (xn:Af->Ac D->R Ex) (p:Af×Ah):Prop where
 ok:XcOk K p.2
 nf:∀ f:Ag,(f==("triple" : Ag)||(f==("points" : Ag)||f==("row" : Ag)))=Ab->FO K p.2=Ab/\Aq K (.ref p.2) f=Aa Ae
 md:∀ ds,xn p.1 ds=.bad\/(xn p.1 ds=.ok ⟨p.1,[]⟩/\Dg K p.2 Ae=Ab)\/∃ f,XIn K mg p.2 f/\KB xn p.1 f ds
theorem XA.row{c:Ag}{x:Ah}(a:XA K c x Ae)(h:∀ ds,xn k ds=.bad\/xn k ds=.ok ⟨k,[]⟩):XR K mg xn (k,x):=⟨a.ok,Uh a.dc a.ft a.fp a.fr,pF h a.y⟩
theorem XB.row{c:Ag}{x i o:Ah}{st:AG}{g par f:Ag}(X:K.In h)(G:h.Ns AT mg)(b:XB K c x i q st)(w:XO K o)(no:Bl K AT g=Aa (Aa (.ref o)))(hf:f = "triple"\/f = "points")(hk:MS g par f st=Ab)(hb:∀(u0 u1 kV doc pm:Aj)(an:An Ah)(cdv ct:Aj),FK (BU "__init__" q (F4 st) (Ef st) (BF st) .none kV doc pm an cdv ct) ⟨[u0,u1],[]⟩=pure ((["self",par]:Ac Ag).zip [u0,u1]))(hx:∀ ds,xn k ds=mkX k f ds):XR K mg xn (k,x):=
 ⟨b.a.ok,Uh b.a.dc b.a.ft b.a.fp b.a.fr,pE hx (gH b.ii hk hb b.a.y b.a.dc b.ti (Bx X G no) w.sa w.sb w.sc (by rcases hf with rfl|rfl;exact b.a.ft;exact b.a.fp) b.sn)⟩
theorem lA{l:Ac (Af×Ah)}{rzs exs:Ac (Ag×Af)}(r:∀ p∈l,XR K mg xn p)(rz:∀ p∈rzs,∃ C,clL l p.2=Aa C/\mg p.1=Aa (.ref C))(ex:∀ p∈exs,∃ C,mg p.1=Aa (.ref C)/\KC K C/\SuC K C (l.map λq=>(q.2,(up q.1).contains p.2)))(xb:∀ c,(∀ p∈rzs,p.2≠c)->∀ ds,xn c ds=.bad):XT up xn (clL l) rzs exs K mg:=by
 refine⟨λc C q=>(r _ (Lq q)).ok,rz,λp hp=>?_,λc C ds q=>(r _ (Lq q)).md ds,λc C q=>(r _ (Lq q)).nf,xb⟩
 obtain⟨C,e,kc,su⟩:=ex p hp;have s:∀ c D,clL l c=Aa D->BB K (.ref D) (.ref C)=Aa ((up c).contains p.2):=λc D q=>su _ (List.mem_map_of_mem (f:=λq:Af×Ah=>(q.2,(up q.1).contains p.2)) (Lq q))
 exact⟨C,e,λc D q=>let ⟨_,y⟩:=(r _ (Lq q)).ok.exc;kc _ _ _ y (s c D q),s⟩
def Mw(K:Fg):Sp:=λvs H Q _=>∃(a:Ah)(ns:Ac Ai),vs=[.ref a]/\ns.length<=63/\SqL K H a (ns.map V.int)/\∀ v H',v=V.bl Ab->Q v H'
theorem law_fn{f:Ah}(G:FnOk P w K mg base CX k f fd ps (spD K CL 1 Ad F))(h:∀ ns:Ac Ai,F [.lst (ns.map .int)]=.ok (.bl Ab)):FnOk P w K mg base CX k f fd ps (Mw K):=G.imp λvs H Q E ⟨a,ns,e,hl,hS,q⟩=>by
 subst e;have rs:∀ l:Ac Ai,Reps K CL H A0 (l.map V.int) (l.map D.int):=λl=>by
  induction l with
  |nil=>trivial
  |cons x l ih=>exact⟨rfl,ih⟩
 refine⟨[.lst (ns.map .int)],A0,rfl,λ_ z=>z.elim,⟨⟨a,_,rfl,.inl (λz=>z),hS,rs ns⟩,trivial⟩,?_⟩
 rw[h ns];exact λv H' _ r=>q v H' r.1
theorem all_nil{Q:α->Prop}:∀ x∈([]:Ac α),Q x:=λ_ h=>nomatch h
theorem all_cons{Q:α->Prop}{a:α}{l:Ac α}(h1:Q a)(h2:∀ x∈l,Q x):∀ x∈a::l,Q x:=List.forall_mem_cons.2 ⟨h1,h2⟩
def FnI(K:Fg)(f:Ah)(n:Ag)(st:AG):Prop:=∃ fd,Fun K n n st f fd/\Bl K AT n=Aa (Aa (.ref f))
theorem fni{n:Ag}{st:AG}{f:Ah}{oc:Aj}{kV doc pm cdv ct:Aj}(a:Bl K AT n=Aa (Aa (.ref f)))(l:K.lookup f=Aa ⟨oc,od,.func (BU n n (F4 st) (Ef st) (BF st) .none kV doc pm an cdv ct),osl⟩)(c:DY K cdv n=Ab)(k:Bf K (.ref f)=Ab):FnI K f n st:=⟨_,OO l c k,a⟩
def Bd(n:Ag)(st:AG)(ps:Ac Ag)(us:Ac Aj):Prop:=∀(kV doc pm:Aj)(an:An Ah)(cdv ct:Aj),FK (BU n n (F4 st) (Ef st) (BF st) .none kV doc pm an cdv ct) ⟨us,[]⟩=pure (ps.zip us)
theorem Zv(h:mg x=v)(e:Fj.lookup x=Ae):Ha K mg x=v:=by
 unfold Ha;rw[e];exact h
def MeI(K:Fg)(f:Ah)(m q:Ag)(st:AG):Prop:=∃ fd,Fun K m q st f fd
theorem mei{m q:Ag}{st:AG}{f:Ah}{oc:Aj}{kV doc pm cdv ct:Aj}(l:K.lookup f=Aa ⟨oc,od,.func (BU m q (F4 st) (Ef st) (BF st) .none kV doc pm an cdv ct),osl⟩)(c:DY K cdv q=Ab)(k:Bf K (.ref f)=Ab):MeI K f m q st:=⟨_,OO l c k⟩
theorem KJ{key m q:Ag}{C f:Ah}{st:AG}{N:Ac Ag}(id:Af)(hk:Fj.lookup key=Aa (c,m))(hC:OC K c=Aa C)(hf:Aq K (.ref C) m=Aa (Aa (.ref f)))(A:MeI K f m q st)(hc:El fuel Ad fns bl rzs exs gls ["self"] N st (Pg.defs id)=Ab)(hb:∀(u0 kV doc pm:Aj)(an:An Ah)(cdv ct:Aj),FK (BU m q (F4 st) (Ef st) (BF st) .none kV doc pm an cdv ct) ⟨[u0],[]⟩=pure ((["self"]:Ac Ag).zip [u0])):Jp K mg fns bl rzs exs gls Pg fuel (key,id,1):=by
 obtain⟨fd,F⟩:=A;refine⟨_,_,["self"],_,_,_,?_,⟨_,Lv F⟩,F.binds λkV doc pm an cdv ct us hu=>match us,hu with | [u0],_=>hb u0 kV doc pm an cdv ct,rfl,hc⟩
 unfold Ha;rw[show Fj.lookup (key,id,1).1=Aa (c,m) from hk]
 dsimp only;rw[hC];show (Aq K (.ref C) m).join=_;rw[hf];rfl
theorem Mu{key m q:Ag}{C f:Ah}{st:AG}{N:Ac Ag}(id:Af)(hk:Fj.lookup key=Aa (c,m))(hC:OC K c=Aa C)(hf:Aq K (.ref C) m=Aa (Aa (.ref f)))(A:MeI K f m q st)(hc:El fuel Ad fns bl rzs exs gls ["self", "other"] N st (Pg.defs id)=Ab)(hb:∀(u0 u1 kV doc pm:Aj)(an:An Ah)(cdv ct:Aj),FK (BU m q (F4 st) (Ef st) (BF st) .none kV doc pm an cdv ct) ⟨[u0,u1],[]⟩=pure ((["self", "other"]:Ac Ag).zip [u0,u1])):Jp K mg fns bl rzs exs gls Pg fuel (key,id,2):=by
 obtain⟨fd,F⟩:=A;refine⟨_,_,["self", "other"],_,_,_,?_,⟨_,Lv F⟩,F.binds λkV doc pm an cdv ct us hu=>match us,hu with | [u0,u1],_=>hb u0 u1 kV doc pm an cdv ct,rfl,hc⟩
 unfold Ha;rw[show Fj.lookup (key,id,2).1=Aa (c,m) from hk]
 dsimp only;rw[hC];show (Aq K (.ref C) m).join=_;rw[hf];rfl
structure OA (K:Fg) (n:Ag) (C t s f:Ah):Prop where
 n:Bl K AT n=Aa (Aa (.ref C))
 o:OCls K C
 ft:Aq K (.ref C) "told" = Aa (Aa (.ref t))
 fs:Aq K (.ref C) "shown" = Aa (Aa (.ref s))
 nt:CD K (.ref t)=Ab
 ns:CD K (.ref s)=Ab
 m:Mk K C f
theorem oa_mk{n:Ag}{C t s f:Ah}(n1:Bl K AT n=Aa (Aa (.ref C)))(i:Aq K (.ref C) "__init__" = Aa (Aa (.ref f)))(ft:Aq K (.ref C) "told" = Aa (Aa (.ref t)))(fs:Aq K (.ref C) "shown" = Aa (Aa (.ref s)))(pg:EB K C Dm=Ab)(hd:Fu K C=Ab)(po:GM K C=Ab)(sa:Aq K (.ref C) "__setattr__" = Aa (Aa (.builtin "object.__setattr__")))(np:Aq K (.ref C) "p" = Aa Ae)(nt:Aq K (.ref C) "triple" = Aa Ae)(ha:Aq K (.ref C) "__class__" = Aa (Aa (.builtin "object.__class__")))(hn:BY K (.builtin "object.__class__") "__get__" = Aa (Aa (.builtin "getset_descriptor.__get__")))(htk:Hu K (.builtin "object.__class__")=Aa Ab)(hm:B4 K C (.type "object")=Aa Ab)(t1:CD K (.ref t)=Ab)(s1:CD K (.ref s)=Ab)(mk:Hs K C=Ab)(f1:CD K (.ref f)=Ab)(kp:Bf K (.ref C)=Ab):OA K n C t s f:=
 ⟨n1,⟨⟨pg,hd,po,sa⟩,np,nt,ha,hn,htk,hm⟩,ft,fs,t1,s1,⟨mk,i,f1,kp⟩⟩
theorem FB(h:c<3)(n:Bl K AT (MQ c)=Aa (Aa (.ref C))):OC K c=Aa C:=by
 unfold OC;rw[AC h,n]
def KtC(K:Fg)(C:Ah)(l:Ac (Ah×Ak)):Prop:=∀ q∈l,BR K (.ref C) (.ref q.1)=Aa q.2
structure OB (K:Fg) (C a m:Ah):Prop where
 fa:Aq K (.ref C) "across" = Aa (Aa (.ref a))
 fm:Aq K (.ref C) "meets" = Aa (Aa (.ref m))
 na:CD K (.ref a)=Ab
 nm:CD K (.ref m)=Ab
theorem lX{C0 C1 C2 t0 t1 t2 s0 s1 s2 f xa1 xa2 xm1 xm2:Ah}(X:K.In h)(G:h.Ns AT mg)(a0:OA K "Triple" C0 t0 s0 f)(a1:OA K "Point" C1 t1 s1 f)(a2:OA K "Line" C2 t2 s2 f)(k0:KtC K C0 [(C0,Ab),(C1,Ad),(C2,Ad)])(k1:KtC K C1 [(C0,Ab),(C1,Ab),(C2,Ad)])(k2:KtC K C2 [(C0,Ab),(C1,Ad),(C2,Ab)])(b1:OB K C1 xa1 xm1)(b2:OB K C2 xa2 xm2):OS K mg:=by
  have e0:OC K 0=Aa C0:=FB (by decide) a0.n
  have e1:OC K 1=Aa C1:=FB (by decide) a1.n
  have e2:OC K 2=Aa C2:=FB (by decide) a2.n
  have three:∀ c C,OC K c=Aa C->(c=0/\C=C0)\/(c=1/\C=C1)\/(c=2/\C=C2):=λc C e=>by
    match c,e with
    |0,e=>exact .inl ⟨rfl,(Bk (e0.symm.trans e)).symm⟩
    |1,e=>exact .inr (.inl ⟨rfl,(Bk (e1.symm.trans e)).symm⟩)
    |2,e=>exact .inr (.inr ⟨rfl,(Bk (e2.symm.trans e)).symm⟩)
    |n+3,e=>
      unfold OC at e;rw[AJ (by omega)]at e
      cases e
  have fu:∀{f f':Ah}{r:An (An Aj)},r=Aa (Aa (.ref f))->r=Aa (Aa (.ref f'))->f'=f:=λa b=>by rw[a]at b;cases b;rfl
  refine⟨λc C e=>?_,λc C c' C' e e'=>?_,λc hc=>?_,λc C e=>?_,λc C m f' e h0 hm hf=>?_,λc C m f' e hm hf=>?_⟩
  · rcases three c C e with ⟨rfl,rfl⟩|⟨rfl,rfl⟩|⟨rfl,rfl⟩
    · exact a0.o
    · exact a1.o
    · exact a2.o
  · rcases three c C e with ⟨rfl,rfl⟩|⟨rfl,rfl⟩|⟨rfl,rfl⟩<;>rcases three c' C' e' with ⟨rfl,rfl⟩|⟨rfl,rfl⟩|⟨rfl,rfl⟩
    · exact k0 (_,Ab) (by simp)
    · exact k0 (_,Ad) (by simp)
    · exact k0 (_,Ad) (by simp)
    · exact k1 (_,Ab) (by simp)
    · exact k1 (_,Ab) (by simp)
    · exact k1 (_,Ad) (by simp)
    · exact k2 (_,Ab) (by simp)
    · exact k2 (_,Ad) (by simp)
    · exact k2 (_,Ab) (by simp)
  · match c,hc with
    |0,_=>exact⟨_,e0,Bx X G a0.n⟩
    |1,_=>exact⟨_,e1,Bx X G a1.n⟩
    |2,_=>exact⟨_,e2,Bx X G a2.n⟩
    |n+3,h=>omega
  · rcases three c C e with ⟨rfl,rfl⟩|⟨rfl,rfl⟩|⟨rfl,rfl⟩
    · exact a0.m.kp
    · exact a1.m.kp
    · exact a2.m.kp
  · rcases orT hm with z|z
    · obtain rfl:=eq_of_beq z;rcases three c C e with ⟨rfl,rfl⟩|⟨rfl,rfl⟩|⟨rfl,rfl⟩
      · cases h0
      · rw[fu b1.fa hf];exact b1.na
      · rw[fu b2.fa hf];exact b2.na
    · obtain rfl:=eq_of_beq z;rcases three c C e with ⟨rfl,rfl⟩|⟨rfl,rfl⟩|⟨rfl,rfl⟩
      · cases h0
      · rw[fu b1.fm hf];exact b1.nm
      · rw[fu b2.fm hf];exact b2.nm
  · rcases orT hm with z|z
    · obtain rfl:=eq_of_beq z;rcases three c C e with ⟨rfl,rfl⟩|⟨rfl,rfl⟩|⟨rfl,rfl⟩
      · rw[fu a0.ft hf];exact a0.nt
      · rw[fu a1.ft hf];exact a1.nt
      · rw[fu a2.ft hf];exact a2.nt
    · obtain rfl:=eq_of_beq z;rcases three c C e with ⟨rfl,rfl⟩|⟨rfl,rfl⟩|⟨rfl,rfl⟩
      · rw[fu a0.fs hf];exact a0.ns
      · rw[fu a1.fs hf];exact a1.ns
      · rw[fu a2.fs hf];exact a2.ns
theorem oH{C0 C1 C2 t0 t1 t2 s0 s1 s2 f:Ah}{st:AG}(a0:OA K "Triple" C0 t0 s0 f)(a1:OA K "Point" C1 t1 s1 f)(a2:OA K "Line" C2 t2 s2 f)(A:InI K f q st)(hc:LI fuel fns bl rzs exs gls st=Ab)(d0:Pg.defs 900=mkC 0)(d1:Pg.defs 901=mkC 1)(d2:Pg.defs 902=mkC 2)(d3:Pg.defs 910=inC)(hb:∀(u0 u1 u2 kV doc pm:Aj)(an:An Ah)(cdv ct:Aj),FK (BU "__init__" q (F4 st) (Ef st) (BF st) .none kV doc pm an cdv ct) ⟨[u0,u1,u2],[]⟩=pure ((["self", "p", "numbers"]:Ac Ag).zip [u0,u1,u2])):InR K fns bl rzs exs gls Pg fuel:=by
  obtain⟨fd,F⟩:=A;refine⟨λc hc=>?_,d3,f,fd,_,q,st,Lv F,F.binds λkV doc pm an cdv ct us hu=>match us,hu with | [u0,u1,u2],_=>hb u0 u1 u2 kV doc pm an cdv ct,hc,λc hc=>?_⟩
  · match c,hc with
    |0,_=>exact d0
    |1,_=>exact d1
    |2,_=>exact d2
    |n+3,h=>omega
  · match c,hc with
    |0,_=>exact⟨_,FB (by decide) a0.n,a0.m⟩
    |1,_=>exact⟨_,FB (by decide) a1.n,a1.m⟩
    |2,_=>exact⟨_,FB (by decide) a2.n,a2.m⟩
    |n+3,h=>omega
theorem Ms{n:Ag}{f:Ah}{st:AG}{ps N:Ac Ag}(m id:Af)(hm:Fj.lookup n=Ae)(X:K.In h)(G:h.Ns AT mg)(A:FnI K f n st)(hl:ps.length=m%1000)(hc:El fuel (CO 1000 m) fns bl rzs exs gls ps N st (Pg.defs id)=Ab)(hb:∀ us:Ac Aj,us.length=ps.length->Bd n st ps us):Jp K mg fns bl rzs exs gls Pg fuel (n,id,m):=by
 obtain⟨fd,F,a⟩:=A;exact⟨_,_,_,_,_,_,Zv (Bx X G a) hm,⟨_,Lv F⟩,F.binds λkV doc pm an cdv ct us hu=>hb us hu kV doc pm an cdv ct,hl,hc⟩
theorem MR{l:Ac α}(h:l.length=0):l=[]:=List.eq_nil_of_length_eq_zero h
theorem Hf{l:Ac α}{n:Af}(h:l.length=n+1):∃ a r,l=a::r/\r.length=n:=by
 cases l with
 |nil=>cases h
 |cons a r=>exact⟨a,r,rfl,Nat.succ.inj h⟩
theorem U_6{n:Ag}{f:Ah}{st:AG}{N:Ac Ag}(m id:Af)(hm:Fj.lookup n=Ae)(X:K.In h)(G:h.Ns AT mg)(A:FnI K f n st)(hl:1=m%1000)(hc:El fuel (CO 1000 m) fns bl rzs exs gls [x0] N st (Pg.defs id)=Ab)(hb:∀ u0,Bd n st [x0] [u0]):Jp K mg fns bl rzs exs gls Pg fuel (n,id,m):=
 Ms (ps:=[x0]) m id hm X G A hl hc λus hu=>by obtain⟨u0,v0,rfl,h0⟩:=Hf hu;obtain rfl:=MR h0;exact hb u0
theorem Iu{n:Ag}{f:Ah}{st:AG}{N:Ac Ag}(m id:Af)(hm:Fj.lookup n=Ae)(X:K.In h)(G:h.Ns AT mg)(A:FnI K f n st)(hl:2=m%1000)(hc:El fuel (CO 1000 m) fns bl rzs exs gls [x0,x1] N st (Pg.defs id)=Ab)(hb:∀ u0 u1,Bd n st [x0,x1] [u0,u1]):Jp K mg fns bl rzs exs gls Pg fuel (n,id,m):=
 Ms (ps:=[x0,x1]) m id hm X G A hl hc λus hu=>by obtain⟨u0,v0,rfl,h0⟩:=Hf hu;obtain⟨u1,v1,rfl,h1⟩:=Hf h0;obtain rfl:=MR h1;exact hb u0 u1
theorem LK{n:Ag}{f:Ah}{st:AG}{N:Ac Ag}{x2:Ag}(m id:Af)(hm:Fj.lookup n=Ae)(X:K.In h)(G:h.Ns AT mg)(A:FnI K f n st)(hl:3=m%1000)(hc:El fuel (CO 1000 m) fns bl rzs exs gls [x0,x1,x2] N st (Pg.defs id)=Ab)(hb:∀ u0 u1 u2,Bd n st [x0,x1,x2] [u0,u1,u2]):Jp K mg fns bl rzs exs gls Pg fuel (n,id,m):=
 Ms (ps:=[x0,x1,x2]) m id hm X G A hl hc λus hu=>by obtain⟨u0,v0,rfl,h0⟩:=Hf hu;obtain⟨u1,v1,rfl,h1⟩:=Hf h0;obtain⟨u2,v2,rfl,h2⟩:=Hf h1;obtain rfl:=MR h2;exact hb u0 u1 u2
theorem qB{n:Ag}{f:Ah}{st:AG}{N:Ac Ag}{x2 x3 x4:Ag}(m id:Af)(hm:Fj.lookup n=Ae)(X:K.In h)(G:h.Ns AT mg)(A:FnI K f n st)(hl:5=m%1000)(hc:El fuel (CO 1000 m) fns bl rzs exs gls [x0,x1,x2,x3,x4] N st (Pg.defs id)=Ab)(hb:∀ u0 u1 u2 u3 u4,Bd n st [x0,x1,x2,x3,x4] [u0,u1,u2,u3,u4]):Jp K mg fns bl rzs exs gls Pg fuel (n,id,m):=
 Ms (ps:=[x0,x1,x2,x3,x4]) m id hm X G A hl hc λus hu=>by obtain⟨u0,v0,rfl,h0⟩:=Hf hu;obtain⟨u1,v1,rfl,h1⟩:=Hf h0;obtain⟨u2,v2,rfl,h2⟩:=Hf h1;obtain⟨u3,v3,rfl,h3⟩:=Hf h2;obtain⟨u4,v4,rfl,h4⟩:=Hf h3;obtain rfl:=MR h4;exact hb u0 u1 u2 u3 u4
end
end Ov
namespace OvC
open PySem Ov
variable{x p y:Ai}{Z:Gam}{xs:Ac Ai}{m n c:Af}
noncomputable abbrev tr(a b c:Ai):D:=.tup [.int a,.int b,.int c]
noncomputable def det(a0 a1 a2 b0 b1 b2 c0 c1 c2:Ai):Ai:=a0*(b1*c2-b2*c1)-a1*(b0*c2-b2*c0)+a2*(b0*c1-b1*c0)
def Sm(x:Ai):Prop:=0<=x/\x<11
theorem mo(h:Sm x)(y:Ai):DV x y=Ab:=J9 (by have:=h.1;omega) (by have:=h.2;omega)
theorem Sm.of(h:P4 p)(x:Ai):Sm (x%p):=⟨Cz _ (by have:=h.pos;omega),by have:=Ck x h.pos;have:=h.hi;omega⟩
noncomputable def Nd:Df:=⟨4,Ad,(.cons (.asg 2 Ad (.call 3 (.cons (.var 0) (.cons (.var 1) .nil)))) (.cons (.ife (.cmp .Eq (.bin .Mod (.var 2) (.int 3)) (.int 0)) (.cons (.ret (.bin .Sub (.bin .Mod (.bin .FloorDiv (.var 2) (.int 3)) (.int 61)) (.int 30))) .nil) .nil) (.cons (.asg 3 Ad (.bin .Add (.bin .Mult (.bin .Mod (.call 2 (.cons (.var 0) (.cons (.var 1) .nil))) (.bin .Pow (.int 10) (.int 50))) (.bin .Add (.int 1) (.bin .Mod (.bin .FloorDiv (.var 2) (.int 6)) (.int 9973)))) (.var 2))) (.cons (.ret (.bin .Mult (.var 3) (.bin .Sub (.int 1) (.bin .Mult (.int 2) (.bin .Mod (.bin .FloorDiv (.var 2) (.int 3)) (.int 2)))))) .nil))))⟩
noncomputable def HK(ns:Ac Ai)(k:Ai):Ai:=
 if EZ ns k%3=0 then EZ ns k/3%61-30 else (KA ns k%10 ^ 50*(1+EZ ns k/6%9973)+EZ ns k)*(1-2*(EZ ns k/3%2))
def Z_8(Z:Gam):Prop:=∀(ns:Ac Ai)(k:Ai),Z.F 5 [scr ns,.int k]=.ok (.int (HK ns k))
theorem YS(hc:O9 Z)(hm:SH Z)(ns:Ac Ai)(k:Ai):Nd.run Z [scr ns,.int k]=.ok (.int (HK ns k)):=by
 have m1:DV (KA ns k%10 ^ 50) (1+EZ ns k/6%9973)=Ab:=by
  simp[DV];right;omega
 have m2:∀ x,DV x (1-2*(EZ ns k/3%2))=Ab:=by
  intro x;simp[DV];right;omega
 have m3:DV 2 (EZ ns k/3%2)=Ab:=by simp[DV]
 simp at m1;simp[Nd,Df.run,BV,hc ns k,hm ns k,m1,m2,m3,HK];split<;>rfl
theorem QA{body:D->Rho->O}(I:Rho->Prop)(g:Ai->Ak):∀(L:Ac Ai),(∀ t∈L,∀ U,I U->(g t=Ab/\body (.int t) U=.ret (.int t) Ad)\/(g t=Ad/\∃ U',body (.int t) U=.next U'/\I U'))->∀ U,I U->(∃ t∈L,g t=Ab/\Du body (L.map D.int) U=.ret (.int t) Ad)\/((∀ t∈L,g t=Ad)/\∃ U',Du body (L.map D.int) U=.next U'/\I U')
 |[],_,U,i=>.inr ⟨(λ_ h=>nomatch h),U,rfl,i⟩
 |m::L,h,U,i=>by
  rcases h m (AO ..) U i with ⟨e1,e2⟩|⟨e1,U',e2,i'⟩
  .refine .inl ⟨m,AO ..,e1,?_⟩;show (body (.int m) U).turn _=_;rw[e2];rfl
  .rcases QA I g L (λm' h'=>h m' (AF _ h')) U' i' with ⟨t,ht,a,b⟩|⟨a,r,b,c⟩
   .refine .inl ⟨t,AF _ ht,a,?_⟩;show (body (.int m) U).turn _=_;rw[e2];exact b
   .refine .inr ⟨λt ht=>?_,r,?_,c⟩
    .rcases AH.mp ht with rfl|ht
     .exact e1
     .exact a t ht
    .show (body (.int m) U).turn _=_;rw[e2];exact b
noncomputable def JZ:Ss:=(.cons (.ife (.cmp .Eq (.call 1 (.cons (.var 0) (.cons (.bin .Mult (.var 1) (.var 2)) .nil))) (.int 1)) (.cons (.ret (.var 2)) .nil) .nil) .nil)
noncomputable def K3:Df:=⟨3,Ad,(.cons (.fors 2 (.rng2 (.int 1) (.var 0)) JZ) (.cons (.rais 2 (.cons (.str (Ap "a number with the rest 0 is not turned over")) .nil)) .nil))⟩
noncomputable def F7(p:Ai):Ac Ai:=(Di (p-1).toNat).map fun(k:Af)=>1+(k:Ai)
theorem Kd{t:Ai}:t∈F7 p↔1<=t/\t<p:=by
 unfold F7;rw[List.mem_map];constructor
 .rintro⟨k,hk,rfl⟩;have:=List.mem_range.mp hk;omega
 .rintro⟨h1,h2⟩;exact⟨(t-1).toNat,Fk.mpr (by omega),by omega⟩
theorem Rw(h:P4 p):EQ 1 p=.ok ((F7 p).map D.int):=by
 rcases h with rfl|rfl|rfl|rfl<;>rfl
theorem bX:∀ p:Fin 12,(p.val=3\/p.val=5\/p.val=7\/p.val=11)->∀ r:Fin 12,r.val<p.val->r.val≠0->∃ t:Fin 12,1<=t.val/\t.val<p.val/\r.val*t.val%p.val=1:=by decide+kernel
theorem Lo{n:Ai}(h:P4 p)(hn:n%p≠0):∃ t,1<=t/\t<p/\n*t%p=1:=by
 have p0:0<p/\p<12:=by rcases h with rfl|rfl|rfl|rfl<;>decide
 obtain⟨q,rfl⟩:∃ q:Af,p=q:=⟨p.toNat,by omega⟩
 have h0:=Cz n (b:=(q:Ai)) (by omega)
 have h1:=Ck n p0.1;obtain⟨r,hr⟩:∃ r:Af,n%(q:Ai)=r:=⟨(n%(q:Ai)).toNat,by omega⟩
 obtain⟨t,t1,t2,t3⟩:=bX ⟨q,by omega⟩ (by rcases h with e|e|e|e<;>simp<;>omega) ⟨r,by omega⟩ (by show r<q;omega) (by show r≠0;omega)
 refine⟨(t.val:Ai),by omega,by show (t.val:Ai)<q;exact Int.ofNat_lt.mpr t2,?_⟩
 have e:((r*t.val%q:Af):Ai)=1:=by rw[show r*t.val%q=1 from t3];rfl
 rw[<-e,Int.natCast_emod,Int.natCast_mul,<-hr];exact(B5 n _ _).trans (by rw[B5 (n%(q:Ai)) (t.val:Ai) (q:Ai),BD n (CQ _)])
def N8(Z:Gam):Prop:=∀ p n:Ai,P4 p->(n%p=0->Z.F 9 [.int p,.int n]=.exn ⟨2,[]⟩)/\(n%p≠0->∃ t,1<=t/\t<p/\n*t%p=1/\Z.F 9 [.int p,.int n]=.ok (.int t))
theorem YR(hr:Lr Z)(hx:∀ ds,Z.xn 2 ds=.ok ⟨2,[]⟩)(p n:Ai)(hp:P4 p):(n%p=0->K3.run Z [.int p,.int n]=.exn ⟨2,[]⟩)/\(n%p≠0->∃ t,1<=t/\t<p/\n*t%p=1/\K3.run Z [.int p,.int n]=.ok (.int t)):=by
 have p0:=hp.pos;have ph:=hp.hi;have body:∀ t∈F7 p,∀ U,(∃ s,U=[si p,si n,s])->(decide (n*t%p=1)=Ab/\Ek Z 2 JZ (.int t) U=.ret (.int t) Ad)\/(decide (n*t%p=1)=Ad/\∃ U',Ek Z 2 JZ (.int t) U=.next U'/\∃ s,U'=[si p,si n,s]):=by
  rintro t ht U ⟨s,rfl⟩;obtain⟨t1,t2⟩:=Kd.mp ht;have m:DV n t=Ab:=RZ (by omega) (by omega)
  by_cases e:n*t%p=1
  .exact .inl ⟨by simp[e],by simp[Ek,JZ,hr p (n*t) p0,m,e,Ew]⟩
  .exact .inr ⟨by simp[e],_,by simp[Ek,JZ,hr p (n*t) p0,m,e];rfl,_,rfl⟩
 have run:∀ o,Du (Ek Z 2 JZ) ((F7 p).map D.int) [si p,si n,Ae]=o->K3.run Z [.int p,.int n]=(Gm Z (.cons (.rais 2 (.cons (.str (Ap "a number with the rest 0 is not turned over")) .nil)) .nil) o).ans Ad:=by
  rintro o rfl;simp[K3,Df.run,BV,Rw hp]
 rcases QA (λU=>∃ s,U=[si p,si n,s]) (λt=>decide (n*t%p=1)) (F7 p) body [si p,si n,Ae] ⟨_,rfl⟩ with ⟨t,ht,a,b⟩|⟨a,r,b,s,rfl⟩
 .obtain⟨t1,t2⟩:=Kd.mp ht;have a':n*t%p=1:=by simpa using a
  refine⟨λz=>?_,λ_=>⟨t,t1,t2,a',by rw[run _ b];rfl⟩⟩
  rw[B5,z]at a';simp at a'
 .refine⟨λz=>?_,λz=>?_⟩
  .rw[run _ b];simp[hx]
  .obtain⟨t,t1,t2,e⟩:=Lo hp z;have:=a t (Kd.mpr ⟨t1,t2⟩);simp[e]at this
def Hl(p n t:Ai):Prop:=1<=t/\t<p/\n*t%p=1
theorem QB{n t u:Ai}(h1:Hl p n t)(h2:Hl p n u):t=u:=by
 have hp:1<p:=by have:=h1.1;have:=h1.2.1;omega
 have e:t%p=u%p:=by
  have a:t%p=t*(n*u)%p:=by rw[B5,h2.2.2,FC,BD _ (CQ p)]
  have b:u%p=(n*t)*u%p:=by rw[B5 (n*t) u p,h1.2.2,CS,BD _ (CQ p)]
  rw[a,b]
  congr 1
  rw[<-Gw,Cf t n]
 rw[Bq (by have:=h1.1;omega) h1.2.1,Bq (by have:=h2.1;omega) h2.2.1]at e
 exact e
theorem JD{c:Ai}(hp:P4 p)(hc:c%p≠0)(hx:x%p≠0):c*x%p≠0:=λz=>by
 obtain⟨t,_,_,e⟩:=Lo hp hc;refine hx ?_;have e1:x%p=(c*t)*x%p:=by rw[B5 (c*t) x p,e,CS,BD _ (CQ p)]
 rw[e1,show c*t*x=t*(c*x) by rw[Cf c t,Gw],B5,z,IE,CY]
noncomputable def BJ(p:Ai):Ac Ai->An Ai
 |[]=>Ae
 |x::xs=>if x%p=0 then BJ p xs else Aa (x%p)
theorem LW{p:Ai}:∀{xs:Ac Ai},BJ p xs=Ae↔∀ x∈xs,x%p=0
 |[]=>by simp[BJ]
 |x::xs=>by
  unfold BJ;by_cases h:x%p=0
  .rw[AC h,LW (xs:=xs)];simp[h]
  .rw[AJ h];simp[h]
theorem LV{p l:Ai}(hp:0<p):∀{xs:Ac Ai},BJ p xs=Aa l->l%p≠0/\0<l/\l<p
 |[],h=>by cases h
 |x::xs,h=>by
  unfold BJ at h;by_cases hx:x%p=0
  .rw[AC hx]at h;exact LV hp h
  .rw[AJ hx]at h;cases h;have h0:=Cz x (b:=p) (by omega)
   have h1:=Ck x hp;exact⟨by rw[BD _ (CQ p)];exact hx,by omega,h1⟩
theorem L4{p c:Ai}(hp:P4 p)(hc:c%p≠0){f:Ai->Ai}(hf:∀ x,f x%p=c*x%p):∀ xs:Ac Ai,BJ p (xs.map f)=(BJ p xs).map λl=>c*l%p
 |[]=>rfl
 |x::xs=>by
  rw[B2];unfold BJ;rw[hf x];by_cases hx:x%p=0
  .rw[AC hx,AC (by rw[B5,hx,IE,CY]),L4 hp hc hf xs]
  .rw[AJ hx,AJ (JD hp hc hx),Ho]
   congr 1
   rw[B5 c (x%p),BD _ (CQ p),<-B5]
noncomputable def ds(xs:Ac Ai):Ac D:=xs.map D.int
noncomputable def CW(b:Ak)(xs:Ac Ai):D:=if b=Ab then .tup (ds xs) else .lst (ds xs)
theorem N3(b xs):Ff (CW b xs)=.ok (ds xs):=by unfold CW;cases b<;>rfl
theorem K5{g:D->R Ak}{f:D->R D}{φ:Ai->Ai}:∀(xs:Ac Ai),(∀ x∈xs,g (.int x)=.ok Ab/\f (.int x)=.ok (.int (φ x)))->Bz g f (ds xs)=.ok (ds (xs.map φ))
 |[],_=>rfl
 |x::xs,h=>by
  obtain⟨h1,h2⟩:=h x (AO ..);show (g (.int x)).bind _=_;rw[h1,R.bind_ok,AC rfl,h2,R.bind_ok];show (Bz g f (ds xs)).bind _=_;rw[K5 xs λy hy=>h y (AF _ hy)]
  rfl
noncomputable def Dp:E:=(.bl Ab)
noncomputable def No:E:=(.call 1 (.cons (.var 0) (.cons (.var 5) .nil)))
noncomputable def Nm:E:=(.call 1 (.cons (.var 0) (.cons (.bin .Mult (.var 4) (.var 6)) .nil)))
noncomputable def G5:Ss:=(.cons (.ife (.cmp .NotEq (.var 3) (.int 0)) (.cons (.asg 4 Ad (.call 9 (.cons (.var 0) (.cons (.var 3) .nil)))) (.cons (.ret (.bi .tuple (.cons (.comp Nm 6 (.e (.var 2)) Dp) .nil))) .nil)) .nil) .nil)
noncomputable def La:Df:=⟨7,Ad,(.cons (.asg 2 Ad (.comp No 5 (.e (.var 1)) Dp)) (.cons (.fors 3 (.e (.var 2)) G5) (.cons (.rais 3 (.cons (.str (Ap "all the numbers have the rest 0")) .nil)) .nil)))⟩
noncomputable def fmI(p t:Ai)(xs:Ac Ai):Ac Ai:=xs.map λx=>t*(x%p)%p
def TR(Z:Gam):Prop:=∀(p:Ai)(b:Ak)(xs:Ac Ai),P4 p->(BJ p xs=Ae->Z.F 17 [.int p,CW b xs]=.exn ⟨3,[]⟩)/\(∀ l t,BJ p xs=Aa l->Hl p l t->Z.F 17 [.int p,CW b xs]=.ok (.tup (ds (fmI p t xs))))
section
variable{Z:Gam}{p:Ai}{xs:Ac Ai}{b:Ak}
theorem RW(hr:Lr Z)(ht:N8 Z)(hp:P4 p)(rs:Ac Ai):∀(ys:Ac Ai),(∀ y∈ys,0<=y/\y<p)->∀ s3,(BJ p ys=Ae->∃ s3',Du (Ek Z 3 G5) (ds ys) [si p,sh (CW b xs),sh (.lst (ds rs)),s3,Ae,Ae,Ae]=.next [si p,sh (CW b xs),sh (.lst (ds rs)),s3',Ae,Ae,Ae])/\(∀ l t,BJ p ys=Aa l->Hl p l t->Du (Ek Z 3 G5) (ds ys) [si p,sh (CW b xs),sh (.lst (ds rs)),s3,Ae,Ae,Ae]=.ret (.tup (ds (rs.map λr=>t*r%p))) Ad)
 |[],_,s3=>⟨λ_=>⟨s3,rfl⟩,(λl t h=>nomatch h)⟩
 |y::ys,hy,s3=>by
  obtain⟨y0,y1⟩:=hy y (AO ..);have ym:y%p=y:=Bq y0 y1;have ih:=RW hr ht hp rs ys (λz hz=>hy z (AF _ hz)) (si y)
  have step:∀ o,Ek Z 3 G5 (.int y) [si p,sh (CW b xs),sh (.lst (ds rs)),s3,Ae,Ae,Ae]=o->Du (Ek Z 3 G5) (ds (y::ys)) [si p,sh (CW b xs),sh (.lst (ds rs)),s3,Ae,Ae,Ae]=o.turn (Du (Ek Z 3 G5) (ds ys)):=by
   rintro o rfl;rfl
  unfold BJ;rw[ym];by_cases hz:y=0
  .have e:Ek Z 3 G5 (.int y) [si p,sh (CW b xs),sh (.lst (ds rs)),s3,Ae,Ae,Ae]=.next [si p,sh (CW b xs),sh (.lst (ds rs)),si y,Ae,Ae,Ae]:=by
    simp[Ek,G5,hz]
   rw[AC hz,step _ e];exact ih
  .rw[AJ hz];refine⟨(λz=>nomatch z),λl t e it=>?_⟩
   cases e;obtain⟨u,u1,u2,u3,u4⟩:=(ht p y hp).2 (by rw[ym];exact hz)
   have:t=u:=QB it ⟨u1,u2,u3⟩;subst this;have p0:=hp.pos;have ph:=hp.hi;have cp:Bz (cG Z [si p,sh (CW b xs),sh (.lst (ds rs)),si y,si t,Ae,Ae] 6 Dp) (cF Z [si p,sh (CW b xs),sh (.lst (ds rs)),si y,si t,Ae,Ae] 6 Nm) (ds rs)=.ok (ds (rs.map λr=>t*r%p)):=by
    refine K5 rs λr _=>⟨rfl,?_⟩
    have m:DV t r=Ab:=J9 (by omega) (by omega)
    simp[cF,Nm,m,hr p (t*r) p0]
   have e:Ek Z 3 G5 (.int y) [si p,sh (CW b xs),sh (.lst (ds rs)),s3,Ae,Ae,Ae]=.ret (.tup (ds (rs.map λr=>t*r%p))) Ad:=by
    simp[Ek,G5,hz,u4,cp,Ew]
   rw[step _ e];rfl
theorem iX(hr:Lr Z)(ht:N8 Z)(hx:∀ es,Z.xn 3 es=.ok ⟨3,[]⟩)(hp:P4 p):(BJ p xs=Ae->La.run Z [.int p,CW b xs]=.exn ⟨3,[]⟩)/\(∀ l t,BJ p xs=Aa l->Hl p l t->La.run Z [.int p,CW b xs]=.ok (.tup (ds (fmI p t xs)))):=by
 have p0:=hp.pos;have cp:Bz (cG Z [si p,sh (CW b xs),Ae,Ae,Ae,Ae,Ae] 5 Dp) (cF Z [si p,sh (CW b xs),Ae,Ae,Ae,Ae,Ae] 5 No) (ds xs)=.ok (ds (xs.map λx=>x%p)):=by
  refine K5 xs λx _=>⟨rfl,?_⟩
  simp[cF,No,hr p x p0]
 have run:∀ o,Du (Ek Z 3 G5) (ds (xs.map λx=>x%p)) [si p,sh (CW b xs),sh (.lst (ds (xs.map λx=>x%p))),Ae,Ae,Ae,Ae]=o->La.run Z [.int p,CW b xs]=(Gm Z (.cons (.rais 3 (.cons (.str (Ap "all the numbers have the rest 0")) .nil)) .nil) o).ans Ad:=by
  rintro o rfl;simp[La,Df.run,BV,N3,cp]
 have le:BJ p (xs.map λx=>x%p)=BJ p xs:=by
  have:=L4 (c:=1) hp (by rcases hp with rfl|rfl|rfl|rfl<;>decide) (f:=λx=>x%p) (λx=>by rw[CS,BD _ (CQ p)]) xs
  rw[this];cases e:BJ p xs with
  |none=>rfl
  |some l=>
   obtain⟨_,l0,l1⟩:=LV p0 e;simp[Bq (Int.le_of_lt l0) l1]
 obtain⟨a,c⟩:=RW (b:=b) (xs:=xs) hr ht hp (xs.map λx=>x%p) (xs.map λx=>x%p) (λy hy=>by
  obtain⟨x,_,rfl⟩:=List.mem_map.mp hy;exact⟨Cz _ (by omega),Ck _ p0⟩) Ae
 rw[le]at a c;refine⟨λz=>?_,λl t e it=>?_⟩
 .obtain⟨s,q⟩:=a z;rw[run _ q];simp[hx]
 .rw[run _ (c l t e it)];simp[fmI,VI,Vs]
end
noncomputable def Nx:E:=(.bin .Mod (.var 5) (.var 1))
noncomputable def Nt:E:=(.cmp .Gt (.var 6) (.int 0))
noncomputable def Nw:E:=(.var 6)
noncomputable def Nr:E:=(.cmp .Eq (.bin .Mod (.bin .Mult (.var 7) (.idx (.var 3) (.int 0))) (.var 1)) (.int 1))
noncomputable def Nv:E:=(.var 7)
noncomputable def Nu:E:=(.bin .Mod (.bin .Mult (.var 8) (.var 4)) (.var 1))
noncomputable def Lb:Df:=⟨9,Ad,(.cons (.asg 2 Ad (.comp Nx 5 (.e (.var 0)) Dp)) (.cons (.asg 3 Ad (.comp Nw 6 (.e (.var 2)) Nt)) (.cons (.ife (.cmp .Eq (.bi .len (.cons (.var 3) .nil)) (.int 0)) (.cons (.ret .non) .nil) .nil) (.cons (.asg 4 Ad (.idx (.comp Nv 7 (.rng2 (.int 1) (.var 1)) Nr) (.int 0))) (.cons (.ret (.bi .tuple (.cons (.comp Nu 8 (.e (.var 2)) Dp) .nil))) .nil)))))⟩
theorem NN{g:D->R Ak}{f:D->R D}{q:Ai->Ak}:∀(xs:Ac Ai),(∀ x∈xs,g (.int x)=.ok (q x)/\f (.int x)=.ok (.int x))->Bz g f (ds xs)=.ok (ds (xs.filter q))
 |[],_=>rfl
 |x::xs,h=>by
  obtain⟨h1,h2⟩:=h x (AO ..);have ih:=NN xs λy hy=>h y (AF _ hy)
  show (g (.int x)).bind _=_;rw[h1,R.bind_ok];cases hq:q x with
  |true=>
   rw[AC rfl,h2,R.bind_ok,GV,hq,AC rfl];show (Bz g f (ds xs)).bind _=_;rw[ih];rfl
  |false=>
   rw[AJ (by decide),GV,hq,AJ (by decide)]
   exact ih
theorem Ql{p:Ai}(hp:0<p):∀(xs:Ac Ai),((xs.map λx=>x%p).filter λr=>decide (0<r)).head?=BJ p xs
 |[]=>rfl
 |x::xs=>by
  have h0:=Cz x (b:=p) (by omega)
  unfold BJ;rw[B2,GV];by_cases h:x%p=0
  .rw[AC h,AJ (by simp[h]),Ql hp xs]
  .rw[AJ h,AC (by simp;omega)]
   rfl
theorem Yp{p l t:Ai}(it:Hl p l t):((F7 p).filter λk=>decide (k*l%p=1)).head?=Aa t:=by
 have hm:t∈(F7 p).filter λk=>decide (k*l%p=1):=FU.mpr ⟨Kd.mpr ⟨it.1,it.2.1⟩,by simp[Cf t l,it.2.2]⟩
 cases e:(F7 p).filter λk=>decide (k*l%p=1) with
 |nil=>rw[e]at hm;cases hm
 |cons u us=>
  have hu:u∈(F7 p).filter λk=>decide (k*l%p=1):=by rw[e];exact AO ..
  obtain⟨h1,h2⟩:=FU.mp hu;obtain⟨a,b⟩:=Kd.mp h1;have h3:u*l%p=1:=by simpa using h2
  rw[QB it ⟨a,b,by rw[Cf];exact h3⟩]
  rfl
theorem QE{l:Ai}(h:xs.head?=Aa l):Dq (ds xs) 0=.ok (.int l):=by
 cases xs with
 |nil=>cases h
 |cons x xs=>cases h;exact Og (by omega) rfl
noncomputable def Na:E:=(.and (.cons (.isi (.var 2) [.int]) (.cons (.no (.isi (.var 2) [.bool])) .nil)))
noncomputable def M8:Df:=⟨3,Ad,(.cons (.ife (.or (.cons (.no (.isi (.var 0) [.tuple])) (.cons (.cmp .NotEq (.var 0) (.var 1)) .nil))) (.cons (.ret (.bl Ad)) .nil) .nil) (.cons (.ret (.bi .all (.cons (.comp Na 2 (.e (.var 0)) Dp) .nil))) .nil))⟩
theorem oW(n:Af)(xs:Ac Ai):(ds xs).all (flD n)=Ab:=by simp[ds]
theorem O3:∀ xs:Ac Ai,eqDs (ds xs) (ds xs)=Ab
 |[]=>rfl
 |x::xs=>by
  show (eqD (.int x) (.int x)&&eqDs (ds xs) (ds xs))=Ab;rw[O3 xs];simp
theorem Rm:∀ xs:Ac Ai,GF (xs.map λ_=>D.bl Ab)=.ok Ab
 |[]=>rfl
 |x::xs=>by
  rw[B2,N4,Rm xs];rfl
theorem Sr{g:D->R Ak}{f:D->R D}:∀(xs:Ac Ai),(∀ x∈xs,g (.int x)=.ok Ab/\f (.int x)=.ok (.bl Ab))->Bz g f (ds xs)=.ok (xs.map λ_=>D.bl Ab)
 |[],_=>rfl
 |x::xs,h=>by
  obtain⟨h1,h2⟩:=h x (AO ..);show (g (.int x)).bind _=_;rw[h1,R.bind_ok,AC rfl,h2,R.bind_ok];show (Bz g f (ds xs)).bind _=_;rw[Sr xs λy hy=>h y (AF _ hy)]
  rfl
theorem iR(Z:Gam)(xs:Ac Ai):M8.run Z [.tup (ds xs),.tup (ds xs)]=.ok (.bl Ab):=by
 have c1:Bz (cG Z [sh (.tup (ds xs)),sh (.tup (ds xs)),Ae] 2 Dp) (cF Z [sh (.tup (ds xs)),sh (.tup (ds xs)),Ae] 2 Na) (ds xs)=.ok (xs.map λ_=>D.bl Ab):=by
  refine Sr xs λx _=>⟨rfl,?_⟩
  simp[cF,Na,kiD,Dv]
 simp[M8,Df.run,BV,kiD,Dv,oW,O3,c1,Rm]
noncomputable abbrev own(xs:Ac Ai):Sl:=Aa (.lst (ds xs),Ab)
section
variable{Z:Gam}{ns:Ac Ai}{a1 a2 a4 a6 a7 a8 a9 b0 b1 b2 b3 b4:Sl}{p:Ai}
end
section
variable{Z:Gam}{ns:Ac Ai}{a1 a4 a6 a7 a8 a9 b2 b3 b4:Sl}{p m:Ai}{xs:Ac Ai}
end
def Cg(p x y:Ai):Prop:=x%p=y%p
section
variable{p a b c d:Ai}
theorem Cg.rfl:Cg p a a:=Eq.refl _
theorem Cg.of(h:a=b):Cg p a b:=by unfold Cg;rw[h]
theorem Cg.trans{a b c:Ai}(h:Cg p a b)(g:Cg p b c):Cg p a c:=KR h g
theorem Cg.symm(h:Cg p a b):Cg p b a:=Eq.symm h
theorem Cg.add(h:Cg p a b)(g:Cg p c d):Cg p (a+c) (b+d):=by unfold Cg at *;rw[Vt,h,g,<-Vt]
theorem Cg.sub(h:Cg p a b)(g:Cg p c d):Cg p (a-c) (b-d):=by unfold Cg at *;rw[Vu,h,g,<-Vu]
theorem Cg.mul(h:Cg p a b)(g:Cg p c d):Cg p (a*c) (b*d):=by unfold Cg at *;rw[B5,h,g,<-B5]
theorem Cg.md(h:a=b%p):Cg p a b:=by unfold Cg;rw[h,BD _ (CQ p)]
end
theorem P4.m1(h:P4 p):(-1:Ai)%p≠0:=by rcases h with rfl|rfl|rfl|rfl<;>decide
theorem P4.o1(h:P4 p):(1:Ai)%p≠0:=by rcases h with rfl|rfl|rfl|rfl<;>decide
abbrev R3:=Ai×Ai×Ai
variable{a g q:R3}
noncomputable def LJ(a:R3):D:=.lst [.int a.1,.int a.2.1,.int a.2.2]
@[simp]theorem Zpm(a:R3)(U:Rho):DW (Aa (LJ a,Ab)::U) 0=.ok (LJ a):=rfl
noncomputable def LM(a b c:R3):Ai:=det a.1 a.2.1 a.2.2 b.1 b.2.1 b.2.2 c.1 c.2.1 c.2.2
def In3(p:Ai)(a:R3):Prop:=(0<=a.1/\a.1<p)/\(0<=a.2.1/\a.2.1<p)/\(0<=a.2.2/\a.2.2<p)
structure GoodR (p:Ai) (a b c:R3):Prop where
 p4:P4 p
 ia:In3 p a
 ib:In3 p b
 ic:In3 p c
 nz:LM a b c%p≠0
theorem GoodR.of{k:Ai}{a b c a' b' c':R3}(h:GoodR p a b c)(hk:k%p≠0)(e:Cg p (LM a' b' c') (k*LM a b c))(hin:In3 p a'/\In3 p b'/\In3 p c'):GoodR p a' b' c':=⟨h.p4,hin.1,hin.2.1,hin.2.2,by rw[show LM a' b' c'%p=_ from e];exact JD h.p4 hk h.nz⟩
noncomputable abbrev ownR(a b c:R3):Sl:=Aa (.lst [LJ a,LJ b,LJ c],Ab)
section
variable{Z:Gam}{ns:Ac Ai}{at_ many s5 s0 s1 s2:Sl}{p t m:Ai}{a b c:R3}
end
section
variable{Z:Gam}{ns:Ac Ai}{many s5 s6 s7 s8 s9 s0 s1 s2:Sl}{p:Ai}{a b c:R3}
end
noncomputable def fmR(p t:Ai)(a:R3):R3:=(t*(a.1%p)%p,t*(a.2.1%p)%p,t*(a.2.2%p)%p)
def Bd(n:Af)(x:Ai):Prop:=x.natAbs<2 ^ n
theorem Bd.mul(h:Bd m x)(g:Bd n y):Bd (m+n) (x*y):=by
 unfold Bd at *;rw[Int.natAbs_mul,Nat.pow_add];exact Nat.mul_lt_mul'' h g
theorem Bd.sub(h:Bd n x)(g:Bd n y):Bd (n+1) (x-y):=by
 unfold Bd at *;rw[Nat.pow_succ];omega
theorem O8(h:Bd m x)(g:Bd n y)(hm:m<=2000)(hn:n<=2000):Im x y=Ab:=by
 unfold Im Bd at *;rw[Al,AD,AD];exact⟨AI h (FY (by decide) hm),AI g (FY (by decide) hn)⟩
def B3(a:R3):Prop:=Bd 300 a.1/\Bd 300 a.2.1/\Bd 300 a.2.2
noncomputable def Au(q:Ak)(a:R3):D:=CW q [a.1,a.2.1,a.2.2]
theorem Ko(q:Ak)(a:R3):F6 (Au q a) (.int 0)=.ok (.int a.1)/\F6 (Au q a) (.int 1)=.ok (.int a.2.1)/\F6 (Au q a) (.int 2)=.ok (.int a.2.2):=by cases q<;>exact⟨rfl,rfl,rfl⟩
section
variable{Z:Gam}{ns:Ac Ai}{p t:Ai}{a b c r:R3}{made s6 s7:Sl}
end
theorem Qw{p:Ai}:∀{xs ys:Ac Ai},xs.map (λx=>x%p)=ys.map (λx=>x%p)->BJ p xs=BJ p ys
 |[],[],_=>rfl
 |x::xs,y::ys,h=>by
  rw[B2,B2,Vz]at h;unfold BJ;rw[h.1,Qw h.2]
 |[],_::_,h=>by simp at h
 |_::_,[],h=>by simp at h
theorem oS(hp:0<p)(t:Ai)(a:R3):In3 p (fmR p t a):=⟨⟨Cz _ (by omega),Ck _ hp⟩,⟨Cz _ (by omega),Ck _ hp⟩,⟨Cz _ (by omega),Ck _ hp⟩⟩
section
variable{Z:Gam}{ns:Ac Ai}{p m:Ai}{a b c:R3}{fa fb fc:R3}{q:Ak}{s9 s0 s1 s2:Sl}
end
def Li(Z:Gam):Prop:=∀(p:Ai)(b:Ak)(xs:Ac Ai)(l t:Ai),P4 p->BJ p xs=Aa l->Hl p l t->Z.F 17 [.int p,CW b xs]=.ok (.tup (ds (fmI p t xs)))
section
variable{Z:Gam}{p:Ai}{xs:Ac Ai}{b:Ak}
end
theorem OI(q:Ak)(a:R3):Ff (Au q a)=.ok [.int a.1,.int a.2.1,.int a.2.2]:=by cases q<;>rfl
noncomputable def Da(a x:R3):Ai:=a.1*x.1+a.2.1*x.2.1+a.2.2*x.2.2
noncomputable def crs(a b:R3):R3:=(a.2.1*b.2.2-a.2.2*b.2.1,a.2.2*b.1-a.1*b.2.2,a.1*b.2.1-a.2.1*b.1)
theorem Sq:∀ xs ys:Ac Ai,eqDs (ds xs) (ds ys)=decide (xs=ys)
 |[],[]=>rfl
 |[],_::_=>rfl
 |_::_,[]=>rfl
 |x::xs,y::ys=>by
  show ((x==y)&&eqDs (ds xs) (ds ys))=_;rw[Sq xs ys,DD];simp
theorem SL(a b:R3):eqD (Au Ab a) (Au Ab b)=decide (a=b):=by
 show eqDs (ds [a.1,a.2.1,a.2.2]) (ds [b.1,b.2.1,b.2.2])=_;rw[Sq,DD];simp only[Vz,and_true,AD];exact⟨λ⟨h1,h2,h3⟩=>by obtain⟨a1,a2,a3⟩:=a;obtain⟨b1,b2,b3⟩:=b;simp at h1 h2 h3;rw[h1,h2,h3],λh=>by rw[h];exact⟨rfl,rfl,rfl⟩⟩
def OE(Z:Gam):Prop:=∀ a b:R3,B3 a->B3 b->a≠b->Z.F 23 [Au Ab a,Au Ab b]=.ok (Au Ab (crs a b))
theorem MA(hp:P4 p)(h0:0<=x)(h1:x<p):Bd 10 x:=by
 unfold Bd;have:=hp.hi;omega
theorem Bd.mono(h:Bd m x)(hm:m<=n):Bd n x:=AI h (FY (by decide) hm)
def Bn(n:Af)(a:R3):Prop:=Bd n a.1/\Bd n a.2.1/\Bd n a.2.2
theorem Bn.b3(h:Bn n a)(hn:n<=300):B3 a:=⟨h.1.mono hn,h.2.1.mono hn,h.2.2.mono hn⟩
theorem Jn(hp:P4 p)(h:In3 p a):Bn 10 a:=⟨MA hp h.1.1 h.1.2,MA hp h.2.1.1 h.2.1.2,MA hp h.2.2.1 h.2.2.2⟩
noncomputable def Ei(k:Ai)(a:R3):R3:=(k*a.1,k*a.2.1,k*a.2.2)
noncomputable def fk0(p:Ai)(a b c d:R3):Ai:=LM d b c%p
noncomputable def fs0(p:Ai)(a b c d:R3):R3:=Ei (fk0 p a b c d) a
def CgR(p:Ai)(x y:R3):Prop:=Cg p x.1 y.1/\Cg p x.2.1 y.2.1/\Cg p x.2.2 y.2.2
section
variable{p:Ai}{a b c a' b' c' x y z x':R3}{k l m k':Ai}
theorem CgR.rfl:CgR p a a:=⟨Cg.rfl,Cg.rfl,Cg.rfl⟩
theorem CgR.of(h:a=b):CgR p a b:=by rw[h];exact CgR.rfl
theorem CgR.trans(h:CgR p a b)(g:CgR p b c):CgR p a c:=⟨h.1.trans g.1,h.2.1.trans g.2.1,h.2.2.trans g.2.2⟩
theorem CgR.symm(h:CgR p a b):CgR p b a:=⟨h.1.symm,h.2.1.symm,h.2.2.symm⟩
theorem CgR.sc(hk:Cg p k k')(h:CgR p a b):CgR p (Ei k a) (Ei k' b):=⟨hk.mul h.1,hk.mul h.2.1,hk.mul h.2.2⟩
theorem Mn(ha:CgR p a a')(hb:CgR p b b'):Cg p (Da a b) (Da a' b'):=((ha.1.mul hb.1).add (ha.2.1.mul hb.2.1)).add (ha.2.2.mul hb.2.2)
theorem jR(ha:CgR p a a')(hb:CgR p b b'):CgR p (crs a b) (crs a' b'):=
 ⟨(ha.2.1.mul hb.2.2).sub (ha.2.2.mul hb.2.1),(ha.2.2.mul hb.1).sub (ha.1.mul hb.2.2),(ha.1.mul hb.2.1).sub (ha.2.1.mul hb.1)⟩
theorem oV(p t:Ai)(a:R3):CgR p (fmR p t a) (Ei t a):=by
 have key:∀ x:Ai,Cg p (t*(x%p)%p) (t*x):=λx=>(Cg.md _root_.rfl).trans (Cg.rfl.mul (Cg.md _root_.rfl))
 exact⟨key _,key _,key _⟩
noncomputable def ap(a b c x:R3):R3:=(Da a x,Da b x,Da c x)
theorem TV(k l:Ai)(x:R3):Ei k (Ei l x)=Ei (k*l) x:=by
 unfold Ei;simp only[Gw]
theorem pO(a b c x:R3)(k:Ai):ap a b c (Ei k x)=Ei k (ap a b c x):=by
 unfold ap Ei Da;refine GY ?_ (GY ?_ ?_)<;>(simp only;grind)
end
section
variable{p:Ai}{a b c f0 f1 f2 f3 g0 g1 g2 g3:R3}{d0 d1 d2 d3:Ai}
end
section
variable{Z:Gam}{ns:Ac Ai}
end
section
variable{Z:Gam}{ns:Ac Ai}{many s5 s6 s7 s8 s9 s0 s1 s2:Sl}{p:Ai}{a b c:R3}
end
def InL(p:Ai)(xs:Ac Ai):Prop:=∀ x∈xs,0<=x/\x<p
theorem InL.set(h:InL p xs)(k:Af){v:Ai}(h0:0<=v)(h1:v<p):InL p (xs.set k v):=λx hx=>by
 rcases List.mem_or_eq_of_mem_set hx with z|rfl
 .exact h x z
 .exact⟨h0,h1⟩
section
variable{Z:Gam}{ns:Ac Ai}{p at_:Ai}
end
section
variable{Z:Gam}{ns:Ac Ai}{p t:Ai}
end
structure C6 where
 c0:Ai
 c1:Ai
 c2:Ai
 c3:Ai
 c4:Ai
 c5:Ai
noncomputable def C6.l(C:C6):Ac Ai:=[C.c0,C.c1,C.c2,C.c3,C.c4,C.c5]
noncomputable def scC(k:Ai)(C:C6):C6:=⟨k*C.c0,k*C.c1,k*C.c2,k*C.c3,k*C.c4,k*C.c5⟩
def CgC(p:Ai)(C D:C6):Prop:=Cg p C.c0 D.c0/\Cg p C.c1 D.c1/\Cg p C.c2 D.c2/\Cg p C.c3 D.c3/\Cg p C.c4 D.c4/\Cg p C.c5 D.c5
section
variable{p:Ai}{C D E:C6}{a b c a' b' c' x y x' y':R3}{k k':Ai}
theorem CgC.rfl:CgC p C C:=⟨Cg.rfl,Cg.rfl,Cg.rfl,Cg.rfl,Cg.rfl,Cg.rfl⟩
theorem CgC.of(h:C=D):CgC p C D:=by rw[h];exact CgC.rfl
theorem CgC.symm(h:CgC p C D):CgC p D C:=⟨h.1.symm,h.2.1.symm,h.2.2.1.symm,h.2.2.2.1.symm,h.2.2.2.2.1.symm,h.2.2.2.2.2.symm⟩
theorem CgC.trans(h:CgC p C D)(g:CgC p D E):CgC p C E:=⟨h.1.trans g.1,h.2.1.trans g.2.1,h.2.2.1.trans g.2.2.1,h.2.2.2.1.trans g.2.2.2.1,h.2.2.2.2.1.trans g.2.2.2.2.1,h.2.2.2.2.2.trans g.2.2.2.2.2⟩
theorem CgC.sc(hk:Cg p k k')(h:CgC p C D):CgC p (scC k C) (scC k' D):=⟨hk.mul h.1,hk.mul h.2.1,hk.mul h.2.2.1,hk.mul h.2.2.2.1,hk.mul h.2.2.2.2.1,hk.mul h.2.2.2.2.2⟩
theorem TK(k l:Ai)(C:C6):scC k (scC l C)=scC (k*l) C:=by
 unfold scC;simp only[Gw]
theorem Sc(C:C6):scC 1 C=C:=by unfold scC;simp only[CS]
def PrC(p:Ai)(C D:C6):Prop:=∃ d,d%p≠0/\CgC p C (scC d D)
theorem PrC.rfl(hp:P4 p):PrC p C C:=⟨1,hp.o1,CgC.of (Sc C).symm⟩
theorem PrC.trans(hp:P4 p)(i:PrC p C D)(j:PrC p D E):PrC p C E:=by
 obtain⟨d,dz,e⟩:=i;obtain⟨d',dz',e'⟩:=j;exact⟨d*d',JD hp dz dz',e.trans ((CgC.sc Cg.rfl e').trans (CgC.of (TK _ _ _)))⟩
theorem kL(hp:P4 p)(dz:k%p≠0):∃ u,u%p≠0/\Cg p (u*k) 1:=by
 obtain⟨u,u1,u2,u3⟩:=Lo hp dz;refine⟨u,by rw[Bq (by omega) u2];omega,?_⟩
 show u*k%p=1%p;rw[Cf,u3,Bq (by decide) (by have:=hp.lo;omega)]
theorem PrC.symm(hp:P4 p)(i:PrC p C D):PrC p D C:=by
 obtain⟨d,dz,e⟩:=i;obtain⟨u,uz,o⟩:=kL hp dz;refine⟨u,uz,?_⟩;have q:=CgC.sc (k:=u) (k':=u) Cg.rfl e;rw[TK]at q;exact(q.trans ((CgC.sc o CgC.rfl).trans (CgC.of (Sc D)))).symm
def InC(p:Ai)(C:C6):Prop:=∀ x∈C.l,0<=x/\x<p
end
structure BC (C:C6):Prop where
 b0:Bd 10 C.c0
 b1:Bd 10 C.c1
 b2:Bd 10 C.c2
 b3:Bd 10 C.c3
 b4:Bd 10 C.c4
 b5:Bd 10 C.c5
theorem InC.b{C:C6}(hp:P4 p)(h:InC p C):BC C:=by
 have k:∀ x∈C.l,Bd 10 x:=λx hx=>MA hp (h x hx).1 (h x hx).2
 exact⟨k _ (by simp[C6.l]),k _ (by simp[C6.l]),k _ (by simp[C6.l]),k _ (by simp[C6.l]),k _ (by simp[C6.l]),k _ (by simp[C6.l])⟩
noncomputable def t0(p:Ai)(C:C6):R3:=(2*C.c0%p,C.c3,C.c4)
noncomputable def t1(p:Ai)(C:C6):R3:=(C.c3,2*C.c1%p,C.c5)
noncomputable def t2(p:Ai)(C:C6):R3:=(C.c4,C.c5,2*C.c2%p)
section
variable{Z:Gam}{ns:Ac Ai}{p at_:Ai}{φ:Ai->Ai}
end
def Pr(p:Ai)(x y:R3):Prop:=∃ d,d%p≠0/\CgR p x (Ei d y)
section
variable{p:Ai}{a b c x y z f g h:R3}{k:Ai}
theorem OW(x:R3):Ei 1 x=x:=by unfold Ei;simp only[CS]
theorem Pr.rfl(hp:P4 p):Pr p x x:=⟨1,hp.o1,CgR.of (OW x).symm⟩
theorem Pr.trans(hp:P4 p)(i:Pr p x y)(j:Pr p y z):Pr p x z:=by
 obtain⟨d,dz,e⟩:=i;obtain⟨d',dz',e'⟩:=j;exact⟨d*d',JD hp dz dz',e.trans ((CgR.sc Cg.rfl e').trans (CgR.of (TV _ _ _)))⟩
theorem Pr.symm(hp:P4 p)(i:Pr p x y):Pr p y x:=by
 obtain⟨d,dz,e⟩:=i;obtain⟨u,u1,u2,u3⟩:=Lo hp dz;have uz:u%p≠0:=by rw[Bq (by omega) u2];omega
 have o:Cg p (u*d) 1:=by
  show u*d%p=1%p;rw[Cf,u3,Bq (by decide) (by have:=hp.lo;omega)]
 refine⟨u,uz,?_⟩;have q:=CgR.sc (k:=u) (k':=u) Cg.rfl e;rw[TV]at q;exact(q.trans ((CgR.sc o CgR.rfl).trans (CgR.of (OW y)))).symm
theorem pP{a' b' c' x':R3}(ha:CgR p a a')(hb:CgR p b b')(hc:CgR p c c')(hx:CgR p x x'):CgR p (ap a b c x) (ap a' b' c' x'):=⟨Mn ha hx,Mn hb hx,Mn hc hx⟩
theorem Pr.ap(i:Pr p x y):Pr p (OvC.ap a b c x) (OvC.ap a b c y):=by
 obtain⟨d,dz,e⟩:=i;exact⟨d,dz,(pP CgR.rfl CgR.rfl CgR.rfl e).trans (CgR.of (pO a b c y d))⟩
end
noncomputable def tri(g:R3):Ac Ai:=[g.1,g.2.1,g.2.2]
theorem cH{x y:R3}(hp:P4 p)(ix:In3 p x)(iy:In3 p y)(lx:BJ p (tri x)=Aa 1)(ly:BJ p (tri y)=Aa 1)(h:Pr p x y):x=y:=by
 obtain⟨d,dz,e⟩:=h;have p1:1<p:=by have:=hp.lo;omega
 have rs:(tri x).map (λx=>x%p)=((tri y).map λx=>d*x).map (λx=>x%p):=by
  simp only[tri,B2,IG];rw[show x.1%p=d*y.1%p from e.1,show x.2.1%p=d*y.2.1%p from e.2.1,show x.2.2%p=d*y.2.2%p from e.2.2]
 have el:=L4 hp dz (f:=λx=>d*x) (λ_=>rfl) (tri y)
 rw[ly,<-Qw rs,lx,Ho,En,FC]at el;have o:Cg p d 1:=by
  show d%p=1%p;rw[<-el,Bq (by decide) p1]
 have q:=e.trans ((CgR.sc o CgR.rfl).trans (CgR.of (OW y)));have same:∀{u v:Ai},(0<=u/\u<p)->(0<=v/\v<p)->Cg p u v->u=v:=λhu hv huv=>by
  have:=show _%p=_%p from huv
  rwa [Bq hu.1 hu.2,Bq hv.1 hv.2]at this
 exact GY (same ix.1 iy.1 q.1) (GY (same ix.2.1 iy.2.1 q.2.1) (same ix.2.2 iy.2.2 q.2.2))
section
variable{p:Ai}{a b c a' b' c' f0 f1 f2 f3 g0 g1 g2 g3 h0 h1 h2 h3:R3}
end
section
variable{Z:Gam}{ns:Ac Ai}{p:Ai}
end
section
variable{Z:Gam}{ns:Ac Ai}{mid:Af}{p:Ai}{a b c:R3}{s2 s4 s5 s6 s7 s8:Sl}
end
theorem Rv{p l:Ai}{r:R3}(hp:P4 p)(el:BJ p (tri r)=Aa l):∃ u,Hl p l u/\In3 p (fmR p u r)/\BJ p (tri (fmR p u r))=Aa 1/\Pr p (fmR p u r) r/\fmI p u (tri r)=tri (fmR p u r):=by
 have p0:=hp.pos;obtain⟨lz,_,_⟩:=LV p0 el;obtain⟨t,t1,t2,t3⟩:=Lo hp lz;have tz:t%p≠0:=by rw[Bq (by omega) t2];omega
 have ff:∀ x,(t*(x%p)%p)%p=t*x%p:=λx=>by rw[BD _ (CQ p),B5 t (x%p) p,BD _ (CQ p),<-B5]
 have lv:=L4 hp tz (f:=λx=>t*(x%p)%p) ff (tri r)
 rw[el,Ho,Cf,t3]at lv;exact⟨t,⟨t1,t2,t3⟩,oS p0 t r,lv,⟨t,tz,oV p t r⟩,rfl⟩
theorem YW(h:BJ p (tri g)=Ae):CgR p g (0,0,0):=by
 have hz:=LW.mp h;have k:∀ x∈tri g,Cg p x 0:=λx hx=>by show x%p=0%p;rw[hz x hx,CY]
 exact⟨k _ (by simp[tri]),k _ (by simp[tri]),k _ (by simp[tri])⟩
theorem YQ(h:CgR p g (0,0,0)):BJ p (tri g)=Ae:=by
 refine LW.mpr λx hx=>?_
 have k:∀{x:Ai},Cg p x 0->x%p=0:=λ{x} h=>by rw[show x%p=_ from h,CY]
 simp only[tri,AH,Co,EG]at hx;rcases hx with rfl|rfl|rfl
 .exact k h.1
 .exact k h.2.1
 .exact k h.2.2
theorem Tn(x:R3):flD 5 (Au Ab x)=Ab/\eqD (Au Ab x) (Au Ab x)=Ab:=by
 refine⟨rfl,?_⟩;show eqDs (ds [x.1,x.2.1,x.2.2]) (ds [x.1,x.2.1,x.2.2])=Ab;rw[O3]
section
variable{Z:Gam}{ns:Ac Ai}{p:Ai}{C:C6}{s3 s4 s5 s6 s7 s8:Sl}
end
section
variable{Z:Gam}{ns:Ac Ai}
end
theorem Zl{a b:R3}(hp:P4 p)(h:CgR p (crs a b) (0,0,0))(la:BJ p (tri a)=Aa 1)(lb:BJ p (tri b)=Aa 1):Pr p b a:=by
 obtain⟨h0,h1,h2⟩:=h;have p1:1<p:=by have:=hp.lo;omega
 have sw:∀{x y:Ai},Cg p (x-y) 0->Cg p x y:=λ{x y} h=>by
  have:=h.add (Cg.rfl (a:=y))
  rwa [Int.sub_add_cancel,IF]at this
 have e0:Cg p (a.2.1*b.2.2) (a.2.2*b.2.1):=sw h0;have e1:Cg p (a.2.2*b.1) (a.1*b.2.2):=sw h1;have e2:Cg p (a.1*b.2.1) (a.2.1*b.1):=sw h2;have one:∀{x:Ai},x%p=1->Cg p x 1:=λ{x} h=>by show x%p=1%p;rw[h,Bq (by decide) p1]
 have fin:∀ k,CgR p b (Ei k a)->Pr p b a:=λk hk=>by
  refine⟨k,λz=>?_,hk⟩
  have:CgR p b (0,0,0):=by
   have kz:Cg p k 0:=by show k%p=0%p;rw[z,CY]
   refine hk.trans ((CgR.sc kz CgR.rfl).trans (CgR.of ?_));unfold Ei;simp
  rw[YQ this]at lb;cases lb
 unfold tri BJ at la;by_cases z0:a.1%p=0
 .rw[AC z0]at la;have c0:Cg p a.1 0:=by show a.1%p=0%p;rw[z0,CY]
  unfold BJ at la;by_cases z1:a.2.1%p=0
  .rw[AC z1]at la;have c1:Cg p a.2.1 0:=by show a.2.1%p=0%p;rw[z1,CY]
   unfold BJ at la;by_cases z2:a.2.2%p=0
   .rw[AC z2]at la;cases la
   .rw[AJ z2,En]at la;have c2:=one la;refine fin b.2.2 ⟨?_,?_,?_⟩
    .have:=(c2.symm.mul (Cg.rfl (a:=b.1))).trans e1;rw[CS]at this;exact this.trans (Cg.of (Cf _ _))
    .have:=(c2.symm.mul (Cg.rfl (a:=b.2.1))).trans e0.symm;rw[CS]at this;exact this.trans (Cg.of (Cf _ _))
    .have:=(Cg.rfl (a:=b.2.2)).mul c2;rw[FC]at this;exact this.symm
  .rw[AJ z1,En]at la;have c1:=one la;refine fin b.2.1 ⟨?_,?_,?_⟩
   .have:=(c1.symm.mul (Cg.rfl (a:=b.1))).trans e2.symm;rw[CS]at this;exact this.trans (Cg.of (Cf _ _))
   .have:=(Cg.rfl (a:=b.2.1)).mul c1;rw[FC]at this;exact this.symm
   .have:=(c1.symm.mul (Cg.rfl (a:=b.2.2))).trans e0;rw[CS]at this;exact this.trans (Cg.of (Cf _ _))
 .rw[AJ z0,En]at la;have c0:=one la;refine fin b.1 ⟨?_,?_,?_⟩
  .have:=(Cg.rfl (a:=b.1)).mul c0;rw[FC]at this;exact this.symm
  .have:=(c0.symm.mul (Cg.rfl (a:=b.2.1))).trans e2;rw[CS]at this;exact this.trans (Cg.of (Cf _ _))
  .have:=(c0.symm.mul (Cg.rfl (a:=b.2.2))).trans e1.symm;rw[CS]at this;exact this.trans (Cg.of (Cf _ _))
theorem eY(a b:R3):Da (crs a b) a=0/\Da (crs a b) b=0:=by
 unfold Da crs;constructor<;>grind
theorem iI{k:Ai}(hp:P4 p)(kz:k%p≠0):k*x%p=0↔x%p=0:=by
 constructor
 .intro z;exact Classical.byContradiction λn=>JD hp kz n z
 .intro z;rw[B5,z,IE,CY]
theorem Uc{x y x' y':R3}(hp:P4 p)(hx:Pr p x x')(hy:Pr p y y'):(Da x y%p=0)↔(Da x' y'%p=0):=by
 obtain⟨d,dz,e⟩:=hx;obtain⟨d',dz',e'⟩:=hy;have q:Cg p (Da x y) (d*d'*Da x' y'):=(Mn e e').trans (Cg.of (by unfold Da Ei;simp only;grind))
 rw[show Da x y%p=_ from q]
 exact iI hp (JD hp dz dz')
section
variable{Z:Gam}{ns:Ac Ai}{p:Ai}{C:C6}{s3 s4 s5 s6 s7 s8:Sl}
end
def NF(p:Ai)(x:R3):Prop:=In3 p x/\BJ p (tri x)=Aa 1
noncomputable def q4(w:Af)(k:Ai)(y:R3):Ai:=match w with
  |0=>y.1*y.2.2-y.2.1*y.2.1
  |1=>y.1*y.1
  |2=>y.1*y.2.1
  |_=>y.1*y.1-k*(y.2.1*y.2.1)
noncomputable def want(p:Ai)(w:Af):Af:=match w with
  |0=>(p+1).toNat
  |1=>(p+1).toNat
  |2=>(2*p+1).toNat
  |_=>1
section
variable{Z:Gam}{p i j k d N:Ai}{PP x y u:D}{RL:Ac D}{s t s' t' v:Sl}
end
section
variable{Z:Gam}{p:Ai}{pts:Ac R3}
end
theorem jQ(k l:Ai)(a b:R3):crs (Ei k a) (Ei l b)=Ei (k*l) (crs a b):=by
 unfold crs Ei;simp only;refine GY ?_ (GY ?_ ?_)<;>(simp only;grind)
theorem Pr.crs{a b a' b':R3}(hp:P4 p)(h:Pr p a a')(g:Pr p b b'):Pr p (OvC.crs a b) (OvC.crs a' b'):=by
 obtain⟨d,dz,e⟩:=h;obtain⟨d',dz',e'⟩:=g;exact⟨d*d',JD hp dz dz',(jR e e').trans (CgR.of (jQ ..))⟩
noncomputable def O6:Df:=⟨3,Ad,(.cons (.ret (.cmp .Eq (.call 1 (.cons (.var 0) (.cons (.bin .Add (.bin .Add (.bin .Mult (.idx (.var 1) (.int 0)) (.idx (.var 2) (.int 0))) (.bin .Mult (.idx (.var 1) (.int 1)) (.idx (.var 2) (.int 1)))) (.bin .Mult (.idx (.var 1) (.int 2)) (.idx (.var 2) (.int 2)))) .nil))) (.int 0))) .nil)⟩
def TQ(Z:Gam):Prop:=∀(p:Ai)(x y:R3),P4 p->In3 p x->In3 p y->Z.F 24 [.int p,Au Ab x,Au Ab y]=.ok (.bl (decide (Da x y%p=0)))
theorem iV(hr:Lr Z)(p:Ai)(x y:R3)(hp:P4 p)(ix:In3 p x)(iy:In3 p y):O6.run Z [.int p,Au Ab x,Au Ab y]=.ok (.bl (decide (Da x y%p=0))):=by
 have p0:=hp.pos;have bx:=Jn hp ix;have by_:=Jn hp iy;have k:∀ {u v},Bd 10 u->Bd 10 v->Im u v=Ab:=λhu hv=>O8 hu hv (by decide) (by decide)
 have k0:=k bx.1 by_.1;have k1:=k bx.2.1 by_.2.1;have k2:=k bx.2.2 by_.2.2;obtain⟨x0,x1,x2⟩:=Ko Ab x;obtain⟨y0,y1,y2⟩:=Ko Ab y;have e:=hr p (Da x y) p0;unfold Da at *;generalize x.1=a0 at *;generalize x.2.1=a1 at *;generalize x.2.2=a2 at *;generalize y.1=b0 at *;generalize y.2.1=b1 at *;generalize y.2.2=b2 at *;generalize Au Ab x=xx at *;generalize Au Ab y=yy at *;generalize hs:(a0*b0+a1*b1+a2*b2)%p=s at *;simp[O6,Df.run,BV,x0,x1,x2,y0,y1,y2,k0,k1,k2,e];rw[DD];simp
noncomputable def sp7:Ag:=Ap " "
noncomputable def dg(n:Af):Ag:=if n<10 then ⟨#[48+n]⟩ else ⟨#[49,48]⟩
theorem fO:∀ n:Af,n<11->Ap (toString (n:Ai))=dg n:=by decide+kernel
noncomputable def br0(s:Ak):Ag:=if s=Ab then Ap "[" else Ap "("
noncomputable def br1(s:Ak):Ag:=if s=Ab then Ap "]" else Ap ")"
noncomputable def jn(a b c:Af):Ag:=Ed sp7 [dg a,dg b,dg c]
noncomputable def tx(s:Ak)(a b c:Af):Ag:=br0 s++jn a b c++br1 s
def Sg(u:Ag):Prop:=(∃ x,u=⟨#[x]⟩)\/∃ x y,u=⟨#[x,y]⟩
theorem PJ(a:Af):Sg (dg a):=by
 unfold dg;by_cases h:a<10
 .rw[AC h];exact .inl ⟨_,rfl⟩
 .rw[AJ h];exact .inr ⟨_,_,rfl⟩
structure JF (u v w:Ag):Prop where
 jo:IK sp7 [u,v,w]=Ab
 ln:(Ed sp7 [u,v,w]).length<=10
 cut:∀ b d:Af,MY ((⟨#[b]⟩:Ag)++Ed sp7 [u,v,w]++⟨#[d]⟩) (Aa 1) (Aa (-1))=Ed sp7 [u,v,w]
 tl:∀ b d:Af,((⟨#[b]⟩:Ag)++Ed sp7 [u,v,w]++⟨#[d]⟩).length<=20
 i0:∀ b d:Af,F6 (.str ((⟨#[b]⟩:Ag)++Ed sp7 [u,v,w]++⟨#[d]⟩)) (.int 0)=.ok (.str ⟨#[b]⟩)
 i1:∀ b d:Af,F6 (.str ((⟨#[b]⟩:Ag)++Ed sp7 [u,v,w]++⟨#[d]⟩)) (.int (-1))=.ok (.str ⟨#[d]⟩)
theorem jf{u v w:Ag}(hu:Sg u)(hv:Sg v)(hw:Sg w):JF u v w:=by
 rcases hu with ⟨x,rfl⟩|⟨x,x',rfl⟩<;>rcases hv with ⟨y,rfl⟩|⟨y,y',rfl⟩<;>rcases hw with ⟨z,rfl⟩|⟨z,z',rfl⟩ <;>
  exact⟨by kernel_rfl,BG (by kernel_rfl),λb d=>by kernel_rfl,λb d=>BG (by kernel_rfl),λb d=>by kernel_rfl,λb d=>by kernel_rfl⟩
theorem eF(s:Ak):∃ b,br0 s=⟨#[b]⟩:=by
 cases s with
 |false=>exact⟨40,by kernel_rfl⟩
 |true=>exact⟨91,by kernel_rfl⟩
theorem eE(s:Ak):∃ b,br1 s=⟨#[b]⟩:=by
 cases s with
 |false=>exact⟨41,by kernel_rfl⟩
 |true=>exact⟨93,by kernel_rfl⟩
theorem lK{x y:Ag}{l:Ac Ag}(h:Fc x y=l)(hl:l.length=3)(hx:x.length<=20):JM x y=Ab:=by
 unfold Fc at h;have no:¬ ([x]=l):=λz=>by rw[<-z]at hl;simp at hl
 by_cases h1:(decide (x.length<y.length)||decide (EN x<EN y))=Ab
 .rw[AC h1]at h;exact absurd h no
 .rw[AJ h1]at h;by_cases h2:(D3 x y 0 x.length (x.length+1)).isEmpty=Ab
  .rw[AC h2]at h;exact absurd h no
  .rw[AJ h2]at h;unfold JM;rw[h,hl,Al];exact⟨VM.mpr (by omega),rfl⟩
noncomputable def Gh(a:Af):Ak:=(Di 11).all λb=>(Di 11).all λc=>Fc (jn a b c) sp7==[dg a,dg b,dg c]
theorem tA0:Gh 0=Ab:=by decide+kernel
theorem tA1:Gh 1=Ab:=by decide+kernel
theorem tA2:Gh 2=Ab:=by decide+kernel
theorem tA3:Gh 3=Ab:=by decide+kernel
theorem tA4:Gh 4=Ab:=by decide+kernel
theorem tA5:Gh 5=Ab:=by decide+kernel
theorem tA6:Gh 6=Ab:=by decide+kernel
theorem tA7:Gh 7=Ab:=by decide+kernel
theorem tA8:Gh 8=Ab:=by decide+kernel
theorem tA9:Gh 9=Ab:=by decide+kernel
theorem qW:Gh 10=Ab:=by decide+kernel
theorem lM:∀ a:Af,a<11->Gh a=Ab
 |0,_=>tA0
 |1,_=>tA1
 |2,_=>tA2
 |3,_=>tA3
 |4,_=>tA4
 |5,_=>tA5
 |6,_=>tA6
 |7,_=>tA7
 |8,_=>tA8
 |9,_=>tA9
 |10,_=>qW
 |n+11,h=>absurd h (by omega)
noncomputable def NO:E:=(.bi .str (.cons (.var 1) .nil))
noncomputable def N7:Df:=⟨2,Ad,(.cons (.ret (.bi .sjoin (.cons (.str (Ap " ")) (.cons (.comp NO 1 (.e (.var 0)) Dp) .nil)))) .nil)⟩
noncomputable def Nj:Df:=⟨1,Ad,(.cons (.ret (.ofl (.var 0) (Ap "triple"))) .nil)⟩
noncomputable def Nk:Df:=⟨1,Ad,(.cons (.ret (.bin .Add (.bin .Add (.str (Ap "(")) (.call 25 (.cons (.ofl (.var 0) (Ap "triple")) .nil))) (.str (Ap ")")))) .nil)⟩
noncomputable def Nb:Df:=⟨1,Ad,(.cons (.ret (.bin .Add (.bin .Add (.str (Ap "[")) (.call 25 (.cons (.ofl (.var 0) (Ap "triple")) .nil))) (.str (Ap "]")))) .nil)⟩
structure TxF (a b c:Af):Prop where
 jo:IK sp7 [dg a,dg b,dg c]=Ab
 spl:Fc (jn a b c) sp7=[dg a,dg b,dg c]
 spo:JM (jn a b c) sp7=Ab
 ln:(jn a b c).length<=10
 cut:∀ s,MY (tx s a b c) (Aa 1) (Aa (-1))=jn a b c
 tl:∀ s,(tx s a b c).length<=20
 i0:∀ s,F6 (.str (tx s a b c)) (.int 0)=.ok (.str (br0 s))
 i1:∀ s,F6 (.str (tx s a b c)) (.int (-1))=.ok (.str (br1 s))
theorem txf{a b c:Af}(ha:a<11)(hb:b<11)(hc:c<11):TxF a b c:=by
 have h:=lM a ha;unfold Gh at h;rw[Ca]at h;have h:=h b (Fk.mpr hb);rw[Ca]at h;have h:=eq_of_beq (h c (Fk.mpr hc));have j:=jf (PJ a) (PJ b) (PJ c);have ln:(jn a b c).length<=10:=j.ln;have tw:∀ s,∃ b' d',tx s a b c=(⟨#[b']⟩:Ag)++Ed sp7 [dg a,dg b,dg c]++⟨#[d']⟩/\br0 s=⟨#[b']⟩/\br1 s=⟨#[d']⟩:=λs=>by
  obtain⟨b',e1⟩:=eF s;obtain⟨d',e2⟩:=eE s;exact⟨b',d',by unfold tx;rw[e1,e2];rfl,e1,e2⟩
 refine⟨j.jo,h,lK h rfl (by omega),ln,λs=>?_,λs=>?_,λs=>?_,λs=>?_⟩<;>obtain⟨b',d',e,e1,e2⟩:=tw s
 .rw[e];exact j.cut b' d'
 .rw[e];exact j.tl b' d'
 .rw[e,e1];exact j.i0 b' d'
 .rw[e,e2];exact j.i1 b' d'
noncomputable def jq(q:R3):Ag:=jn q.1.toNat q.2.1.toNat q.2.2.toNat
noncomputable def tq(s:Ak)(q:R3):Ag:=tx s q.1.toNat q.2.1.toNat q.2.2.toNat
theorem OR(hp:P4 p)(h:In3 p q):TxF q.1.toNat q.2.1.toNat q.2.2.toNat:=by
 have:=hp.hi;obtain⟨⟨a0,a1⟩,⟨b0,b1⟩,c0,c1⟩:=h;exact txf (by omega) (by omega) (by omega)
theorem ON(h0:0<=x)(h1:x<11):biD .str [.int x]=.ok (.str (dg x.toNat)):=by
 obtain⟨n,rfl⟩:=Int.eq_ofNat_of_zero_le h0;show (if LF (n:Ai)=Ab then R.ok (D.str (Ap (toString (n:Ai)))) else .bad)=_
 have:LF (n:Ai)=Ab:=by unfold LF;simp;omega
 rw[AC this,fO n (by omega)]
 rfl
theorem R8(hp:P4 p)(h:In3 p q):biD .str [.int q.1]=.ok (.str (dg q.1.toNat))/\biD .str [.int q.2.1]=.ok (.str (dg q.2.1.toNat))/\biD .str [.int q.2.2]=.ok (.str (dg q.2.2.toNat)):=by
 have:=hp.hi;obtain⟨⟨a0,a1⟩,⟨b0,b1⟩,c0,c1⟩:=h;exact⟨ON a0 (by omega),ON b0 (by omega),ON c0 (by omega)⟩
theorem Uq(hp:P4 p)(h:In3 p q):biD .sjoin [.str (Ap " "),.lst [.str (dg q.1.toNat),.str (dg q.2.1.toNat),.str (dg q.2.2.toNat)]]=.ok (.str (jq q)):=by
 show (if IK sp7 [dg q.1.toNat,dg q.2.1.toNat,dg q.2.2.toNat]=Ab then R.ok (D.str (Ed sp7 [dg q.1.toNat,dg q.2.1.toNat,dg q.2.2.toNat])) else .bad)=_
 rw[AC (OR hp h).jo];rfl
theorem hG(s:Ak):(br0 s).length=1/\(br1 s).length=1:=by cases s<;>exact⟨rfl,rfl⟩
theorem sz7(h:n<=1000):Dl n=Ab:=VM.mpr (by omega)
theorem M3(hp:P4 p)(h:In3 p q)(s:Ak):CM .Add (.str (br0 s)) (.str (jq q))=.ok (.str (br0 s++jq q))/\CM .Add (.str (br0 s++jq q)) (.str (br1 s))=.ok (.str (tq s q)):=by
 have t:=OR hp h;have l:=hG s;have lj:(jq q).length<=10:=t.ln;have la:(br0 s++jq q).length=(br0 s).length+(jq q).length:=Array.size_append;rw[Il,Il,AC (sz7 (by omega)),AC (sz7 (by omega))]
 exact⟨rfl,rfl⟩
section
variable{Z:Gam}
def Mp(Z:Gam):Prop:=∀(p:Ai)(q:R3),P4 p->In3 p q->Z.F 25 [Au Ab q]=.ok (.str (jq q))
theorem iS(Z:Gam)(p:Ai)(q:R3)(hp:P4 p)(h:In3 p q):N7.run Z [Au Ab q]=.ok (.str (jq q)):=by
 obtain⟨s0,s1,s2⟩:=R8 hp h;have e:Bz (cG Z [sh (Au Ab q),Ae] 1 Dp) (cF Z [sh (Au Ab q),Ae] 1 NO) [.int q.1,.int q.2.1,.int q.2.2]=.ok [.str (dg q.1.toNat),.str (dg q.2.1.toNat),.str (dg q.2.2.toNat)]:=by
  simp[Bz,cG,cF,Dp,NO,s0,s1,s2]
 have j:=Uq hp h;have sq:=OI Ab q;generalize Au Ab q=Q at *;simp[N7,Df.run,BV,sq,e,j]
noncomputable def cl7(s:Ak):Af:=if s=Ab then 2 else 1
noncomputable def obD(p:Ai)(s:Ak)(q:R3):D:=.obj (cl7 s) [("p",.int p),("triple",Au Ab q)]
theorem Ug(p:Ai)(s:Ak)(q:R3):ofD (obD p s q) (Ap "triple")=.ok (Au Ab q):=rfl
theorem mS(hr:Mp Z)(p:Ai)(q:R3)(hp:P4 p)(h:In3 p q):Nk.run Z [obD p Ad q]=.ok (.str (tq Ad q)):=by
 have e:=Ug p Ad q;have r:=hr p q hp h;obtain⟨a1,a2⟩:=M3 hp h Ad;have b0:br0 Ad=Ap "(" := rfl
 have b1:br1 Ad=Ap ")" := rfl
 rw[b0]at a1 a2;rw[b1]at a2;generalize obD p Ad q=o at *;generalize Au Ab q=Q at *;simp[Nk,Df.run,BV,e,r,a1,a2,-Il]
theorem mR(hr:Mp Z)(p:Ai)(q:R3)(hp:P4 p)(h:In3 p q):Nb.run Z [obD p Ab q]=.ok (.str (tq Ab q)):=by
 have e:=Ug p Ab q;have r:=hr p q hp h;obtain⟨a1,a2⟩:=M3 hp h Ab;have b0:br0 Ab=Ap "[" := rfl
 have b1:br1 Ab=Ap "]" := rfl
 rw[b0]at a1 a2;rw[b1]at a2;generalize obD p Ab q=o at *;generalize Au Ab q=Q at *;simp[Nb,Df.run,BV,e,r,a1,a2,-Il]
def Fm(p:Ai)(q a:R3):Prop:=∃ l u,BJ p (tri q)=Aa l/\Hl p l u/\fmI p u (tri q)=tri a
def UB(Z:Gam):Prop:=∀(p:Ai)(b:Ak)(q a:R3),P4 p->Fm p q a->Z.F 910 [.int p,Au b q]=.ok (.tup [.int p,Au Ab a])
theorem oR(hf:Li Z)(b:Ak)(hp:P4 p)(h:Fm p q a):Z.F 17 [.int p,Au b q]=.ok (Au Ab a):=by
 obtain⟨l,u,h1,h2,h3⟩:=h;have e:=hf p b (tri q) l u hp h1 h2;rw[h3]at e;exact e
theorem mW(hf:Li Z)(p:Ai)(b:Ak)(q a:R3)(hp:P4 p)(h:Fm p q a):inC.run Z [.int p,Au b q]=.ok (.tup [.int p,Au Ab a]):=by
 have e:=oR hf b hp h;generalize Au b q=Q at *;generalize Au Ab a=A at *;simp[inC,Df.run,BV,e]
theorem Pp(hi:UB Z)(c:Af)(p:Ai)(b:Ak)(q a:R3)(hp:P4 p)(h:Fm p q a):(mkC c).run Z [.int p,Au b q]=.ok (.obj c [("p",.int p),("triple",Au Ab a)]):=by
 have e:=hi p b q a hp h;have m:Dk c (.tup [.int p,Au Ab a])=.ok (.obj c [("p",.int p),("triple",Au Ab a)]):=rfl;generalize Au b q=Q at *;generalize Au Ab a=A at *;simp[mkC,Df.run,BV,e,m,noX]
end
noncomputable def K8:Df:=⟨2,Ad,(.cons (.ife (.cmp .Eq (.var 0) (.var 1)) (.cons (.rais 107 (.cons (.var 0) .nil)) .nil) .nil) (.cons (.ret (.tup (.cons (.bin .Sub (.bin .Mult (.idx (.var 0) (.int 1)) (.idx (.var 1) (.int 2))) (.bin .Mult (.idx (.var 0) (.int 2)) (.idx (.var 1) (.int 1)))) (.cons (.bin .Sub (.bin .Mult (.idx (.var 0) (.int 2)) (.idx (.var 1) (.int 0))) (.bin .Mult (.idx (.var 0) (.int 0)) (.idx (.var 1) (.int 2)))) (.cons (.bin .Sub (.bin .Mult (.idx (.var 0) (.int 0)) (.idx (.var 1) (.int 1))) (.bin .Mult (.idx (.var 0) (.int 1)) (.idx (.var 1) (.int 0)))) .nil))))) .nil))⟩
theorem YI(Z:Gam)(a b:R3)(ha:B3 a)(hb:B3 b)(ne:a≠b):K8.run Z [Au Ab a,Au Ab b]=.ok (Au Ab (crs a b)):=by
 obtain⟨x0,x1,x2⟩:=Ko Ab a;obtain⟨y0,y1,y2⟩:=Ko Ab b;have k:∀ {u v},Bd 300 u->Bd 300 v->Im u v=Ab:=λhu hv=>O8 hu hv (by decide) (by decide)
 have f:∀ r:R3,flD 5 (Au Ab r)=Ab:=λ_=>rfl
 have e:eqD (Au Ab a) (Au Ab b)=Ad:=by rw[SL];exact Cj ne
 simp[K8,Df.run,BV,f,e,x0,x1,x2,y0,y1,y2,k ha.2.1 hb.2.2,k ha.2.2 hb.2.1,k ha.2.2 hb.1,k ha.1 hb.2.2,k ha.1 hb.2.1,k ha.2.1 hb.1];rfl
noncomputable def alk(a:R3):Ex:=⟨107,[(Ap "triple",Au Ab a)]⟩
theorem gX(hp:P4 p)(h:In3 p a):mkX 107 "triple" [Au Ab a]=.ok (alk a):=by
 have ph:=hp.hi;obtain⟨⟨x0,x1⟩,⟨y0,y1⟩,z0,z1⟩:=h;have e:xfD 1 (Au Ab a)=Ab:=by
  show (CO 3 8&&([D.int a.1,.int a.2.1,.int a.2.2].all (xfD 0)))=Ab;simp[xfD];omega
 show (if (xfD 1 (Au Ab a)||xfD 2 (Au Ab a))=Ab then R.ok (alk a) else .bad)=_
 rw[e];rfl
theorem dB(Z:Gam)(a:R3)(hx:Z.xn 107 [Au Ab a]=.ok (alk a)):K8.run Z [Au Ab a,Au Ab a]=.exn (alk a):=by
 obtain⟨f,e⟩:=Tn a;generalize Au Ab a=ra at *;simp[K8,Df.run,BV,f,e,hx]
noncomputable def NG:Df:=⟨3,Ad,(.cons (.ret (.cmp .Eq (.bin .Mod (.bin .Add (.bin .Add (.bin .Mult (.idx (.var 0) (.int 0)) (.idx (.var 1) (.int 0))) (.bin .Mult (.idx (.var 0) (.int 1)) (.idx (.var 1) (.int 1)))) (.bin .Mult (.idx (.var 0) (.int 2)) (.idx (.var 1) (.int 2)))) (.var 2)) (.int 0))) .nil)⟩
def kW(Z:Gam):Prop:=∀(p:Ai)(x y:R3),P4 p->In3 p x->In3 p y->Z.F 29 [Au Ab x,Au Ab y,.int p]=.ok (.bl (decide (Da x y%p=0)))
theorem iQ(Z:Gam)(p:Ai)(x y:R3)(hp:P4 p)(ix:In3 p x)(iy:In3 p y):NG.run Z [Au Ab x,Au Ab y,.int p]=.ok (.bl (decide (Da x y%p=0))):=by
 have p0:=hp.pos;have bx:=Jn hp ix;have by_:=Jn hp iy;have k:∀ {u v},Bd 10 u->Bd 10 v->Im u v=Ab:=λhu hv=>O8 hu hv (by decide) (by decide)
 have k0:=k bx.1 by_.1;have k1:=k bx.2.1 by_.2.1;have k2:=k bx.2.2 by_.2.2;obtain⟨x0,x1,x2⟩:=Ko Ab x;obtain⟨y0,y1,y2⟩:=Ko Ab y;unfold Da at *;generalize x.1=a0 at *;generalize x.2.1=a1 at *;generalize x.2.2=a2 at *;generalize y.1=b0 at *;generalize y.2.1=b1 at *;generalize y.2.2=b2 at *;generalize Au Ab x=xx at *;generalize Au Ab y=yy at *;generalize hs:(a0*b0+a1*b1+a2*b2)=s at *;simp[NG,Df.run,BV,x0,x1,x2,y0,y1,y2,k0,k1,k2,hs,p0];rw[DD];simp
section
variable{Z:Gam}{ns:Ac Ai}
theorem in1(b:Ak):biD .int [.bl b]=.ok (.int (if b=Ab then 1 else 0)):=by cases b<;>rfl
end
noncomputable def M9:Df:=⟨5,Ad,(.cons (.asg 3 Ad (.bl Ad)) (.cons (.tryx (.cons (.ife (.cmp .Eq (.var 0) (.int 0)) (.cons (.expr (.mkn 0 (.cons (.var 1) (.cons (.var 2) .nil)))) .nil) (.cons (.ife (.cmp .Eq (.var 0) (.int 1)) (.cons (.expr (.mkn 1 (.cons (.var 1) (.cons (.var 2) .nil)))) .nil) (.cons (.expr (.mkn 2 (.cons (.var 1) (.cons (.var 2) .nil)))) .nil)) .nil)) .nil) 3 4 (.cons (.asg 3 Ad (.and (.cons (.isi (.var 4) [.cls 0]) (.cons (.isi (.var 4) [.verr]) (.cons (.no (.isi (.var 4) [.cls 107,.cls 108])) .nil))))) .nil)) (.cons (.ret (.var 3)) .nil)))⟩
noncomputable def K7:Df:=⟨6,Ad,(.cons (.asg 3 Ad .non) (.cons (.asg 4 Ad (.bl Ad)) (.cons (.tryx (.cons (.expr (.methA (Ap "across") [(1,940),(2,941)] (.var 0) (.var 1))) .nil) 107 5 (.cons (.asg 3 Ad (.fld (.var 5) (Ap "triple"))) (.cons (.asg 4 Ad (.and (.cons (.isi (.var 5) [.cls 0]) (.cons (.isi (.var 5) [.verr]) (.cons (.no (.isi (.var 5) [.cls 108,.cls 3,.cls 106])) .nil))))) .nil))) (.cons (.ret (.and (.cons (.var 4) (.cons (.call 19 (.cons (.var 3) (.cons (.var 2) .nil))) .nil)))) .nil))))⟩
noncomputable def Nq:E:=(.bi .str (.cons (.var 4) .nil))
noncomputable def NH:Df:=⟨5,Ad,(.cons (.asg 3 Ad (.bin .Add (.bin .Add (.idx (.var 2) (.int 0)) (.bi .sjoin (.cons (.str (Ap " ")) (.cons (.comp Nq 4 (.e (.var 1)) Dp) .nil)))) (.idx (.var 2) (.int 1)))) (.cons (.ife (.or (.cons (.no (.iso (.var 0) 0)) (.cons (.no (.call 19 (.cons (.meth (Ap "told") [(0,920),(1,920),(2,920)] (.var 0)) (.cons (.var 1) .nil)))) .nil))) (.cons (.ret (.bl Ad)) .nil) .nil) (.cons (.ret (.and (.cons (.isi (.meth (Ap "shown") [(0,930),(1,931),(2,932)] (.var 0)) [.str]) (.cons (.cmp .Eq (.meth (Ap "shown") [(0,930),(1,931),(2,932)] (.var 0)) (.var 3)) .nil)))) .nil)))⟩
noncomputable def NA:Df:=⟨1,Ad,(.cons (.ret (.call 25 (.cons (.ofl (.var 0) (Ap "triple")) .nil))) .nil)⟩
noncomputable def K1:Df:=⟨2,Ad,(.cons (.ret (.mkn 2 (.cons (.ofl (.var 0) (Ap "p")) (.cons (.call 23 (.cons (.ofl (.var 0) (Ap "triple")) (.cons (.meth (Ap "told") [(0,920),(1,920),(2,920)] (.var 1)) .nil))) .nil)))) .nil)⟩
noncomputable def K4:Df:=⟨2,Ad,(.cons (.ret (.mkn 1 (.cons (.ofl (.var 0) (Ap "p")) (.cons (.call 23 (.cons (.ofl (.var 0) (Ap "triple")) (.cons (.meth (Ap "told") [(0,920),(1,920),(2,920)] (.var 1)) .nil))) .nil)))) .nil)⟩
noncomputable def Nl:Df:=⟨2,Ad,(.cons (.ret (.call 24 (.cons (.ofl (.var 0) (Ap "p")) (.cons (.ofl (.var 0) (Ap "triple")) (.cons (.meth (Ap "told") [(0,920),(1,920),(2,920)] (.var 1)) .nil))))) .nil)⟩
noncomputable def Nc:Df:=⟨2,Ad,(.cons (.ret (.call 24 (.cons (.ofl (.var 0) (Ap "p")) (.cons (.meth (Ap "told") [(0,920),(1,920),(2,920)] (.var 1)) (.cons (.ofl (.var 0) (Ap "triple")) .nil))))) .nil)⟩
noncomputable def obC(p:Ai)(c:Af)(a:R3):D:=.obj c [("p",.int p),("triple",Au Ab a)]
theorem Jj(p:Ai)(c:Af)(a:R3):ofD (obC p c a) (Ap "triple")=.ok (Au Ab a):=rfl
theorem Kx(p:Ai)(c:Af)(a:R3):ofD (obC p c a) (Ap "p")=.ok (.int p):=rfl
section
variable{Z:Gam}
def Ja(Z:Gam):Prop:=∀(p:Ai)(c:Af)(a:R3),Z.F 920 [obC p c a]=.ok (Au Ab a)
theorem cX(Z:Gam)(p:Ai)(c:Af)(a:R3):Nj.run Z [obC p c a]=.ok (Au Ab a):=by
 have e:=Jj p c a;generalize obC p c a=o at *;simp[Nj,Df.run,BV,e]
theorem tm6(h:Ja Z)(p:Ai)(hc:c<3)(a:R3):Kz Z.F (Ap "told") [(0,920),(1,920),(2,920)] (obC p c a)=.ok (Au Ab a):=by
  have e:=h p c a
  match c,hc with
  |0,_=>exact e
  |1,_=>exact e
  |2,_=>exact e
  |n+3,h=>omega
noncomputable def sx6(c:Af)(a:R3):Ag:=match c with
  |0=>jq a
  |1=>tq Ad a
  |_=>tq Ab a
theorem mT(hr:Mp Z)(p:Ai)(a:R3)(hp:P4 p)(h:In3 p a):NA.run Z [obC p 0 a]=.ok (.str (jq a)):=by
 have e:=Jj p 0 a;have r:=hr p a hp h;generalize obC p 0 a=o at *;generalize Au Ab a=Q at *;simp[NA,Df.run,BV,e,r]
def Uy(Z:Gam):Prop:=∀(p:Ai)(c:Af)(a:R3),c<3->P4 p->In3 p a->Kz Z.F (Ap "shown") [(0,930),(1,931),(2,932)] (obC p c a)=.ok (.str (sx6 c a))
def Ma(Z:Gam):Prop:=∀ a:R3,Z.F 19 [Au Ab a,Au Ab a]=.ok (.bl Ab)
noncomputable def en0(c:Af):Ag:=match c with
  |0=>Ap ""
  | 1=>Ap "("
  | _=>Ap "["
noncomputable def en1(c:Af):Ag:=match c with
  |0=>Ap ""
  | 1=>Ap ")"
  | _=>Ap "]"
theorem Um(j:Ag):Ap "" ++ j=j/\j++Ap "" = j:=by
 have e:Ap "" = ⟨#[]⟩:=by decide+kernel
 rw[e];cases j with
 |mk c=>exact⟨by show (⟨#[]++c⟩:Ag)=⟨c⟩;simp,by show (⟨c ++ #[]⟩:Ag)=⟨c⟩;simp⟩
theorem pY(hp:P4 p)(h:In3 p a)(hc:c<3):∃ u,CM .Add (.str (en0 c)) (.str (jq a))=.ok (.str u)/\CM .Add (.str u) (.str (en1 c))=.ok (.str (sx6 c a)):=by
  match c,hc with
  |0,_=>
    have lj:(jq a).length<=10:=(OR hp h).ln;have l0:(Ap "").length=0:=by decide+kernel
    refine⟨jq a,?_,?_⟩
    · show CM .Add (.str (Ap "")) (.str (jq a))=_;rw[Il,AC (sz7 (by omega)),(Um _).1]
    · show CM .Add (.str (jq a)) (.str (Ap ""))=.ok (.str (jq a));rw[Il,AC (sz7 (by omega)),(Um _).2]
  |1,_=>exact⟨_,M3 hp h Ad⟩
  |2,_=>exact⟨_,M3 hp h Ab⟩
  |n+3,h=>omega
def TN(Z:Gam):Prop:=∀(p:Ai)(c:Af)(a:R3),c<3->P4 p->In3 p a->Z.F 28 [obC p c a,Au Ab a,.tup [.str (en0 c),.str (en1 c)]]=.ok (.bl Ab)
theorem iU(ht:Ja Z)(hs:Uy Z)(hm:Ma Z)(p:Ai)(c:Af)(a:R3)(hc:c<3)(hp:P4 p)(h:In3 p a):NH.run Z [obC p c a,Au Ab a,.tup [.str (en0 c),.str (en1 c)]]=.ok (.bl Ab):=by
  obtain⟨s0,s1,s2⟩:=R8 hp h;have e:Bz (cG Z [sh (obC p c a),sh (Au Ab a),sh (.tup [.str (en0 c),.str (en1 c)]),Ae,Ae] 4 Dp) (cF Z [sh (obC p c a),sh (Au Ab a),sh (.tup [.str (en0 c),.str (en1 c)]),Ae,Ae] 4 Nq) [.int a.1,.int a.2.1,.int a.2.2]=.ok [.str (dg a.1.toNat),.str (dg a.2.1.toNat),.str (dg a.2.2.toNat)]:=by
    simp[Bz,cG,cF,Dp,Nq,s0,s1,s2]
  have j:=Uq hp h;have sq:=OI Ab a;obtain⟨u,a1,a2⟩:=pY hp h hc;have t:=tm6 ht p hc a;have sw:=hs p c a hc hp h;have sm:=hm a;have io:Jm 0 (obC p c a)=.ok (.bl Ab):=by
    match c,hc with
    |0,_=>rfl
    |1,_=>rfl
    |2,_=>rfl
    |n+3,h=>omega
  generalize sx6 c a=T at *;generalize en0 c=E0 at *;generalize en1 c=E1 at *;generalize obC p c a=o at *;generalize Au Ab a=Q at *;have g0:Dq [.str E0,.str E1] 0=.ok (.str E0):=rfl;have g1:Dq [.str E0,.str E1] 1=.ok (.str E1):=rfl;simp[NH,Df.run,BV,sq,e,j,g0,g1,a1,a2,t,sw,sm,io,kiD,Dv,-Il]
theorem iW(hf:TR Z)(p:Ai)(b:Ak)(q:R3)(hp:P4 p)(h:BJ p (tri q)=Ae):inC.run Z [.int p,Au b q]=.exn ⟨3,[]⟩:=by
 have e:Z.F 17 [.int p,Au b q]=.exn ⟨3,[]⟩:=(hf p b (tri q) hp).1 h;generalize Au b q=Q at *;simp[inC,Df.run,BV,e]
def LB(Z:Gam):Prop:=∀(p:Ai)(c:Af)(b:Ak)(q a:R3),c<3->P4 p->Fm p q a->Z.F (900+c) [.int p,Au b q]=.ok (obC p c a)
def TM(Z:Gam):Prop:=∀(p:Ai)(c:Af)(b:Ak)(q:R3),c<3->P4 p->BJ p (tri q)=Ae->Z.F (900+c) [.int p,Au b q]=.exn ⟨3,[]⟩
theorem OY(c:Af)(p:Ai)(b:Ak)(q:R3)(e:Z.F 910 [.int p,Au b q]=.exn ⟨3,[]⟩):(mkC c).run Z [.int p,Au b q]=.exn ⟨3,[]⟩:=by
 generalize Au b q=Q at *;simp[mkC,Df.run,BV,e]
def SD(Z:Gam):Prop:=∀(p s:Ai)(q:R3),0<=s->s<3->P4 p->BJ p (tri q)=Ae->Z.F 26 [.int s,.int p,Au Ad q]=.ok (.bl Ab)
theorem cY(h:TM Z)(hu:Z.up 3=[3,0])(p s:Ai)(q:R3)(s0:0<=s)(s3:s<3)(hp:P4 p)(hl:BJ p (tri q)=Ae):M9.run Z [.int s,.int p,Au Ad q]=.ok (.bl Ab):=by
 have e0:Z.F 900 [.int p,Au Ad q]=.exn ⟨3,[]⟩:=h p 0 Ad q (by decide) hp hl
 have e1:Z.F 901 [.int p,Au Ad q]=.exn ⟨3,[]⟩:=h p 1 Ad q (by decide) hp hl
 have e2:Z.F 902 [.int p,Au Ad q]=.exn ⟨3,[]⟩:=h p 2 Ad q (by decide) hp hl
 generalize Au Ad q=Q at *;have:s=0\/s=1\/s=2:=by omega
 rcases this with rfl|rfl|rfl<;>simp[M9,Df.run,BV,e0,e1,e2,hu,kiD,Dv]
theorem eM(hf:Li Z){a b:R3}(hp:P4 p)(na:NF p a)(nb:NF p b)(ne:a≠b):∃ y,NF p y/\Da y a%p=0/\Da y b%p=0/\Fm p (crs a b) y:=by
 cases el:BJ p (tri (crs a b)) with
 |none=>exact absurd (cH hp nb.1 na.1 nb.2 na.2 (Zl hp (YW el) na.2 nb.2)).symm ne
 |some l=>
  obtain⟨u,iu,j,l1,pr,ef⟩:=Rv hp el;obtain⟨d1,d2⟩:=eY a b;refine⟨_,⟨j,l1⟩,(Uc hp pr (Pr.rfl hp (x:=a))).mpr (by rw[d1];exact CY p),(Uc hp pr (Pr.rfl hp (x:=b))).mpr (by rw[d2];exact CY p),l,u,el,iu,ef⟩
def UD(Z:Gam):Prop:=∀(p:Ai)(a b y:R3),P4 p->NF p a->NF p b->a≠b->Fm p (crs a b) y->Z.F 940 [obC p 1 a,obC p 1 b]=.ok (obC p 2 y)/\Z.F 941 [obC p 2 a,obC p 2 b]=.ok (obC p 1 y)
theorem mZ(ht:Ja Z)(hc:OE Z)(hm:LB Z)(p:Ai)(a b y:R3)(hp:P4 p)(na:NF p a)(nb:NF p b)(ne:a≠b)(hy:Fm p (crs a b) y):K1.run Z [obC p 1 a,obC p 1 b]=.ok (obC p 2 y):=by
 have t:=tm6 ht p (c:=1) (by decide) b
 have e1:=hc a b ((Jn hp na.1).b3 (by decide)) ((Jn hp nb.1).b3 (by decide)) ne
 have e2:Z.F 902 [.int p,Au Ab (crs a b)]=.ok (obC p 2 y):=hm p 2 Ab _ y (by decide) hp hy
 have o1:=Jj p 1 a;have o2:=Kx p 1 a;generalize obC p 1 a=A at *;generalize obC p 1 b=B at *;generalize obC p 2 y=Y_ at *;generalize Au Ab a=ra at *;generalize Au Ab b=rb at *;generalize Au Ab (crs a b)=rc at *;simp[K1,Df.run,BV,t,e1,e2,o1,o2,Ew]
theorem mY(ht:Ja Z)(hc:OE Z)(hm:LB Z)(p:Ai)(a b y:R3)(hp:P4 p)(na:NF p a)(nb:NF p b)(ne:a≠b)(hy:Fm p (crs a b) y):K4.run Z [obC p 2 a,obC p 2 b]=.ok (obC p 1 y):=by
 have t:=tm6 ht p (c:=2) (by decide) b
 have e1:=hc a b ((Jn hp na.1).b3 (by decide)) ((Jn hp nb.1).b3 (by decide)) ne
 have e2:Z.F 901 [.int p,Au Ab (crs a b)]=.ok (obC p 1 y):=hm p 1 Ab _ y (by decide) hp hy
 have o1:=Jj p 2 a;have o2:=Kx p 2 a;generalize obC p 2 a=A at *;generalize obC p 2 b=B at *;generalize obC p 1 y=Y_ at *;generalize Au Ab a=ra at *;generalize Au Ab b=rb at *;generalize Au Ab (crs a b)=rc at *;simp[K4,Df.run,BV,t,e1,e2,o1,o2,Ew]
def UC(Z:Gam):Prop:=∀(p:Ai)(a:R3),P4 p->In3 p a->Z.F 940 [obC p 1 a,obC p 1 a]=.exn (alk a)/\Z.F 941 [obC p 2 a,obC p 2 a]=.exn (alk a)
theorem mX(ht:Ja Z)(p:Ai)(a:R3)(e:Z.F 23 [Au Ab a,Au Ab a]=.exn (alk a)):K1.run Z [obC p 1 a,obC p 1 a]=.exn (alk a)/\K4.run Z [obC p 2 a,obC p 2 a]=.exn (alk a):=by
 have t1:=tm6 ht p (c:=1) (by decide) a
 have t2:=tm6 ht p (c:=2) (by decide) a
 have o1:=Jj p 1 a;have o2:=Kx p 1 a;have o3:=Jj p 2 a;have o4:=Kx p 2 a;generalize obC p 1 a=A at *;generalize obC p 2 a=B at *;generalize Au Ab a=ra at *;generalize alk a=x at *;constructor
 .simp[K1,Df.run,BV,t1,e,o1,o2]
 .simp[K4,Df.run,BV,t2,e,o3,o4]
def Uz(Z:Gam):Prop:=∀(p:Ai)(a b:R3),P4 p->In3 p a->In3 p b->Z.F 942 [obC p 1 a,obC p 2 b]=.ok (.bl (decide (Da a b%p=0)))/\Z.F 943 [obC p 2 b,obC p 1 a]=.ok (.bl (decide (Da a b%p=0)))
theorem mU(ht:Ja Z)(hl:TQ Z)(p:Ai)(a b:R3)(hp:P4 p)(ia:In3 p a)(ib:In3 p b):Nl.run Z [obC p 1 a,obC p 2 b]=.ok (.bl (decide (Da a b%p=0)))/\Nc.run Z [obC p 2 b,obC p 1 a]=.ok (.bl (decide (Da a b%p=0))):=by
 have e:=hl p a b hp ia ib;have t1:=tm6 ht p (c:=1) (by decide) a
 have t2:=tm6 ht p (c:=2) (by decide) b
 have o1:=Jj p 1 a;have o2:=Kx p 1 a;have o3:=Jj p 2 b;have o4:=Kx p 2 b;generalize decide (Da a b%p=0)=v at *;generalize obC p 1 a=A at *;generalize obC p 2 b=B at *;generalize Au Ab a=ra at *;generalize Au Ab b=rb at *;constructor
 .simp[Nl,Df.run,BV,t2,e,o1,o2]
 .simp[Nc,Df.run,BV,t1,e,o3,o4]
def UA(Z:Gam):Prop:=∀(p:Ai)(a:R3),P4 p->In3 p a->Z.F 27 [obC p 1 a,obC p 1 a,Au Ab a]=.ok (.bl Ab)/\Z.F 27 [obC p 2 a,obC p 2 a,Au Ab a]=.ok (.bl Ab)
theorem mV(h:UC Z)(hs:Ma Z)(hu:Z.up 107=[107,0])(p:Ai)(a:R3)(hp:P4 p)(ia:In3 p a):K7.run Z [obC p 1 a,obC p 1 a,Au Ab a]=.ok (.bl Ab)/\K7.run Z [obC p 2 a,obC p 2 a,Au Ab a]=.ok (.bl Ab):=by
 obtain⟨e1,e2⟩:=h p a hp ia;have e3:=hs a;have m1:G9 (Ap "across") [(1,940),(2,941)] (obC p 1 a)=.ok 940:=rfl;have m2:G9 (Ap "across") [(1,940),(2,941)] (obC p 2 a)=.ok 941:=rfl;unfold alk at e1 e2;generalize obC p 1 a=A at *;generalize obC p 2 a=B at *;generalize Au Ab a=ra at *;constructor
 .simp[K7,Df.run,BV,m1,e1,e3,hu,kiD,Dv,KH]
 .simp[K7,Df.run,BV,m2,e2,e3,hu,kiD,Dv,KH]
def PB(Z:Gam):Prop:=∀(p:Ai)(b:Ak)(q:R3),P4 p->(BJ p (tri q)=Ae->Z.F 18 [Au b q,.int p]=.ok .non)/\∀ a,Fm p q a->Z.F 18 [Au b q,.int p]=.ok (Au Ab a)
theorem Uj(Z:Gam){b:Ak}(hp:P4 p):(BJ p xs=Ae->Lb.run Z [CW b xs,.int p]=.ok .non)/\(∀ l t,BJ p xs=Aa l->Hl p l t->Lb.run Z [CW b xs,.int p]=.ok (.tup (ds (fmI p t xs)))):=by
 have p0:=hp.pos;have ph:=hp.hi;have c1:Bz (cG Z [sh (CW b xs),si p,Ae,Ae,Ae,Ae,Ae,Ae,Ae] 5 Dp) (cF Z [sh (CW b xs),si p,Ae,Ae,Ae,Ae,Ae,Ae,Ae] 5 Nx) (ds xs)=.ok (ds (xs.map λx=>x%p)):=by
  refine K5 xs λx _=>⟨rfl,?_⟩
  simp[cF,Nx,p0]
 generalize hR:(xs.map λx=>x%p)=rs at c1
 have c2:Bz (cG Z [sh (CW b xs),si p,sh (.lst (ds rs)),Ae,Ae,Ae,Ae,Ae,Ae] 6 Nt) (cF Z [sh (CW b xs),si p,sh (.lst (ds rs)),Ae,Ae,Ae,Ae,Ae,Ae] 6 Nw) (ds rs)=.ok (ds (rs.filter λr=>decide (0<r))):=by
  refine NN rs λx _=>⟨?_,?_⟩
  .simp[cG,Nt]
  .simp[cF,Nw]
 have hl:=Ql p0 xs;rw[hR]at hl;generalize hL:(rs.filter λr=>decide (0<r))=ls at c2 hl
 have dl:(ds ls).length=ls.length:=CA ..;refine⟨λz=>?_,λl t e it=>?_⟩
 .rw[z]at hl;have:ls=[]:=List.head?_eq_none_iff.mp hl;subst this;simp[Lb,Df.run,BV,N3,c1,c2,dl]
 .rw[e]at hl;have hne:ls≠[]:=by rintro rfl;cases hl
  have hlen:(ls.length:Ai)≠0:=by have:=VF.mpr hne;omega
  have g0:=QE hl;obtain⟨_,l0,l1⟩:=LV p0 e;have c3:Bz (cG Z [sh (CW b xs),si p,sh (.lst (ds rs)),sh (.lst (ds ls)),Ae,Ae,Ae,Ae,Ae] 7 Nr) (cF Z [sh (CW b xs),si p,sh (.lst (ds rs)),sh (.lst (ds ls)),Ae,Ae,Ae,Ae,Ae] 7 Nv) (ds (F7 p))=.ok (ds ((F7 p).filter λk=>decide (k*l%p=1))):=by
   refine NN (F7 p) λx hx=>⟨?_,?_⟩
   .obtain⟨x1,x2⟩:=Kd.mp hx;have m:DV x l=Ab:=J9 (by omega) (by omega)
    simp[cG,Nr,g0,m,p0];rw[DD];simp
   .simp[cF,Nv]
  have g1:=QE (Yp it);have c4:Bz (cG Z [sh (CW b xs),si p,sh (.lst (ds rs)),sh (.lst (ds ls)),si t,Ae,Ae,Ae,Ae] 8 Dp) (cF Z [sh (CW b xs),si p,sh (.lst (ds rs)),sh (.lst (ds ls)),si t,Ae,Ae,Ae,Ae] 8 Nu) (ds rs)=.ok (ds (rs.map λr=>t*r%p)):=by
   refine K5 rs λx _=>⟨rfl,?_⟩
   have m:DV x t=Ab:=RZ (by have:=it.1;omega) (by have:=it.2.1;omega)
   simp[cF,Nu,m,p0,Cf]
  have ru:EQ 1 p=.ok (ds (F7 p)):=Rw hp;have fe:fmI p t xs=rs.map λr=>t*r%p:=by rw[<-hR];simp[fmI,VI,Vs]
  simp[Lb,Df.run,BV,N3,c1,c2,dl,hlen,hne,ru,c3,g1,c4,fe]
end
section
variable{Z:Gam}
end
theorem oG(hp:P4 p):Hl p 1 1:=by
 have:=hp.lo;exact⟨by omega,by omega,Bq (by omega) (by omega)⟩
theorem oU(hp:P4 p)(h:NF p a):Fm p a a:=by
 refine⟨1,1,h.2,oG hp,?_⟩;obtain⟨⟨⟨a0,a1⟩,⟨b0,b1⟩,c0,c1⟩,_⟩:=h;have e:∀ x:Ai,0<=x->x<p->1*(x%p)%p=x:=λx h0 h1=>by rw[CS,BD _ (CQ p),Bq h0 h1]
 simp only[fmI,tri,B2,IG,e _ a0 a1,e _ b0 b1,e _ c0 c1]
section
variable{Z:Gam}{ns:Ac Ai}{p:Ai}
end
noncomputable def Np:Ss:=(.cons (.asg 11 Ad (.methA (Ap "meets") [(1,942),(2,943)] (.var 9) (.var 10))) (.cons (.ife (.or (.cons (.no (.isi (.var 11) [.bool])) (.cons (.cmp .NotEq (.var 11) (.call 29 (.cons (.var 3) (.cons (.var 4) (.cons (.var 0) .nil))))) .nil))) (.cons (.ret (.bl Ad)) .nil) .nil) .nil))
noncomputable def LZ:Df:=⟨14,Ad,(.cons (.hand 5 (.cons (.bi .list (.cons (.var 1) .nil)) (.cons (.bi .list (.cons (.var 2) .nil)) (.cons (.bi .list (.cons (.var 1) .nil)) (.cons (.bi .list (.cons (.var 2) .nil)) .nil)))) 6 (.lst (.cons (.mkn 1 (.cons (.var 0) (.cons (.idx (.var 5) (.int 0)) .nil))) (.cons (.mkn 1 (.cons (.var 0) (.cons (.idx (.var 5) (.int 1)) .nil))) .nil))) 7 (.lst (.cons (.mkn 2 (.cons (.var 0) (.cons (.idx (.var 5) (.int 2)) .nil))) (.cons (.mkn 2 (.cons (.var 0) (.cons (.idx (.var 5) (.int 3)) .nil))) .nil))) (.cmp .NotEq (.var 5) (.lst (.cons (.var 1) (.cons (.var 2) (.cons (.var 1) (.cons (.var 2) .nil)))))) 8) (.cons (.ife (.or (.cons (.no (.call 28 (.cons (.idx (.var 6) (.int 0)) (.cons (.var 3) (.cons (.tup (.cons (.str (Ap "(")) (.cons (.str (Ap ")")) .nil))) .nil))))) (.cons (.no (.call 28 (.cons (.idx (.var 7) (.int 1)) (.cons (.var 4) (.cons (.tup (.cons (.str (Ap "[")) (.cons (.str (Ap "]")) .nil))) .nil))))) .nil))) (.cons (.ret (.bl Ad)) .nil) .nil) (.cons (.ife (.or (.cons (.iso (.idx (.var 6) (.int 0)) 2) (.cons (.iso (.idx (.var 7) (.int 0)) 1) (.cons (.no (.call 28 (.cons (.mkn 0 (.cons (.var 0) (.cons (.var 1) .nil))) (.cons (.var 3) (.cons (.tup (.cons (.str (Ap "")) (.cons (.str (Ap "")) .nil))) .nil))))) .nil)))) (.cons (.ret (.bl Ad)) .nil) .nil) (.cons (.forT [9,10] (.e (.lst (.cons (.tup (.cons (.idx (.var 6) (.int 0)) (.cons (.idx (.var 7) (.int 1)) .nil))) (.cons (.tup (.cons (.idx (.var 7) (.int 1)) (.cons (.idx (.var 6) (.int 0)) .nil))) .nil)))) Np) (.cons (.ife (.cmp .Eq (.var 3) (.var 4)) (.cons (.ret (.and (.cons (.call 27 (.cons (.idx (.var 6) (.int 0)) (.cons (.idx (.var 6) (.int 1)) (.cons (.var 3) .nil)))) (.cons (.call 27 (.cons (.idx (.var 7) (.int 0)) (.cons (.idx (.var 7) (.int 1)) (.cons (.var 3) .nil)))) .nil)))) .nil) .nil) (.cons (.asg 12 Ad (.methA (Ap "across") [(1,940),(2,941)] (.idx (.var 6) (.int 0)) (.idx (.var 6) (.int 1)))) (.cons (.asg 13 Ad (.methA (Ap "across") [(1,940),(2,941)] (.idx (.var 7) (.int 0)) (.idx (.var 7) (.int 1)))) (.cons (.ife (.or (.cons (.no (.iso (.var 12) 2)) (.cons (.no (.iso (.var 13) 1)) (.cons (.cmp .NotEq (.meth (Ap "told") [(0,920),(1,920),(2,920)] (.var 12)) (.meth (Ap "told") [(0,920),(1,920),(2,920)] (.var 13))) .nil)))) (.cons (.ret (.bl Ad)) .nil) .nil) (.cons (.ife (.no (.call 19 (.cons (.meth (Ap "told") [(0,920),(1,920),(2,920)] (.var 12)) (.cons (.call 18 (.cons (.meth (Ap "told") [(0,920),(1,920),(2,920)] (.var 12)) (.cons (.var 0) .nil))) .nil)))) (.cons (.ret (.bl Ad)) .nil) .nil) (.cons (.ret (.and (.cons (.call 29 (.cons (.meth (Ap "told") [(0,920),(1,920),(2,920)] (.var 12)) (.cons (.var 3) (.cons (.var 0) .nil)))) (.cons (.call 29 (.cons (.meth (Ap "told") [(0,920),(1,920),(2,920)] (.var 12)) (.cons (.var 4) (.cons (.var 0) .nil)))) .nil)))) .nil))))))))))⟩
noncomputable def Ni:E:=(.call 5 (.cons (.var 0) (.cons (.bin .Add (.bin .Mult (.int 6) (.var 1)) (.var 8)) .nil)))
noncomputable def Nh:E:=(.call 5 (.cons (.var 0) (.cons (.bin .Add (.bin .Add (.bin .Mult (.int 6) (.var 1)) (.int 3)) (.var 9)) .nil)))
noncomputable def Ng:E:=(.bin .Mult (.bin .Add (.int 1) (.bin .Mod (.bin .FloorDiv (.var 2) (.int 20)) (.bin .Sub (.var 3) (.int 1)))) (.var 10))
noncomputable def Nf:E:=(.bin .Mult (.var 3) (.var 11))
noncomputable def J6:Ss:=(.cons (.ife (.no (.call 26 (.cons (.bin .Mod (.bin .FloorDiv (.var 2) (.int 20)) (.int 3)) (.cons (.var 3) (.cons (.comp Nf 11 (.e (.var 5)) Dp) .nil))))) (.cons (.ret (.bl Ad)) .nil) .nil) (.cons (.asg 6 Ad (.call 18 (.cons (.var 4) (.cons (.var 3) .nil)))) (.cons (.asg 7 Ad (.call 18 (.cons (.var 5) (.cons (.var 3) .nil)))) (.cons (.ife (.and (.cons (.cmp .IsNot (.var 6) .non) (.cons (.cmp .IsNot (.var 7) .non) (.cons (.no (.call 30 (.cons (.var 3) (.cons (.var 4) (.cons (.var 5) (.cons (.var 6) (.cons (.var 7) .nil))))))) .nil)))) (.cons (.ret (.bl Ad)) .nil) .nil) .nil))))
noncomputable def KZ:Ss:=(.cons (.asg 2 Ad (.call 3 (.cons (.var 0) (.cons (.bin .Add (.int 80) (.var 1)) .nil)))) (.cons (.asg 3 Ad (.idx (.lst (.cons (.int 3) (.cons (.int 5) (.cons (.int 7) (.cons (.int 11) .nil))))) (.bin .Mod (.var 2) (.int 4)))) (.cons (.asg 4 Ad (.comp Ni 8 (.rng (.int 3)) Dp)) (.cons (.asg 5 Ad (.comp Nh 9 (.rng (.int 3)) Dp)) (.cons (.ife (.cmp .Eq (.bin .Mod (.bin .FloorDiv (.var 2) (.int 4)) (.int 5)) (.int 1)) (.cons (.asg 5 Ad (.comp Ng 10 (.e (.var 4)) Dp)) .nil) .nil) J6)))))
noncomputable def NV:Df:=⟨12,Ad,(.cons (.fors 1 (.rng (.int 10)) KZ) (.cons (.ret (.bl Ab)) .nil))⟩
structure H30 (Z:Gam):Prop where
 mk_:LB Z
 ma:TN Z
 to:Ja Z
 me:Uz Z
 ze:kW Z
 li:UA Z
 ac:UD Z
 lf:PB Z
 sa:Ma Z
 fo:Li Z
section
variable{Z:Gam}
noncomputable def PC:S:=(.hand 5 (.cons (.bi .list (.cons (.var 1) .nil)) (.cons (.bi .list (.cons (.var 2) .nil)) (.cons (.bi .list (.cons (.var 1) .nil)) (.cons (.bi .list (.cons (.var 2) .nil)) .nil)))) 6 (.lst (.cons (.mkn 1 (.cons (.var 0) (.cons (.idx (.var 5) (.int 0)) .nil))) (.cons (.mkn 1 (.cons (.var 0) (.cons (.idx (.var 5) (.int 1)) .nil))) .nil))) 7 (.lst (.cons (.mkn 2 (.cons (.var 0) (.cons (.idx (.var 5) (.int 2)) .nil))) (.cons (.mkn 2 (.cons (.var 0) (.cons (.idx (.var 5) (.int 3)) .nil))) .nil))) (.cmp .NotEq (.var 5) (.lst (.cons (.var 1) (.cons (.var 2) (.cons (.var 1) (.cons (.var 2) .nil)))))) 8)
theorem YG(h:LB Z)(p:Ai)(q1 q2 a1 a2:R3)(A1 A2:D)(hp:P4 p)(f1:Fm p q1 a1)(f2:Fm p q2 a2):evS Z [si p,sh (Au Ad q1),sh (Au Ad q2),sh A1,sh A2,Ae,Ae,Ae,Ae,Ae,Ae,Ae,Ae,Ae] PC=.next [si p,sh (Au Ad q1),sh (Au Ad q2),sh A1,sh A2,Ae,sh (.lst [obC p 1 a1,obC p 1 a2]),sh (.lst [obC p 2 a1,obC p 2 a2]),Ae,Ae,Ae,Ae,Ae,Ae]:=by
 have m1:Z.F 901 [.int p,Au Ad q1]=.ok (obC p 1 a1):=h p 1 Ad q1 a1 (by decide) hp f1
 have m2:Z.F 901 [.int p,Au Ad q2]=.ok (obC p 1 a2):=h p 1 Ad q2 a2 (by decide) hp f2
 have m3:Z.F 902 [.int p,Au Ad q1]=.ok (obC p 2 a1):=h p 2 Ad q1 a1 (by decide) hp f1
 have m4:Z.F 902 [.int p,Au Ad q2]=.ok (obC p 2 a2):=h p 2 Ad q2 a2 (by decide) hp f2
 have l1:biD .list [Au Ad q1]=.ok (Au Ad q1):=rfl;have l2:biD .list [Au Ad q2]=.ok (Au Ad q2):=rfl;have d1:JO (Au Ad q1)=Ab:=rfl;have d2:JO (Au Ad q2)=Ab:=rfl;have d3:flD 4 (Au Ad q1)=Ab:=rfl;have d4:flD 4 (Au Ad q2)=Ab:=rfl;have d5:=Oj 4 _ d3;have d6:=Oj 4 _ d4;have s1:JN (.lst [obC p 1 a1,obC p 1 a2])=Ab:=rfl;have s2:JN (.lst [obC p 2 a1,obC p 2 a2])=Ab:=rfl;generalize obC p 1 a1=P1 at *;generalize obC p 1 a2=P2 at *;generalize obC p 2 a1=L1 at *;generalize obC p 2 a2=L2 at *;generalize Au Ad q1=R1 at *;generalize Au Ad q2=R2 at *;have g0:Dq [R1,R2,R1,R2] 0=.ok R1:=rfl;have g1:Dq [R1,R2,R1,R2] 1=.ok R2:=rfl;have g2:Dq [R1,R2,R1,R2] 2=.ok R1:=rfl;have g3:Dq [R1,R2,R1,R2] 3=.ok R2:=rfl;simp[PC,ZK,JG,l1,l2,m1,m2,m3,m4,d1,d2,d3,d4,d5,d6,s1,s2,g0,g1,g2,g3]
def SG(Z:Gam):Prop:=∀(p:Ai)(q1 q2 a1 a2:R3),P4 p->Fm p q1 a1->NF p a1->Fm p q2 a2->NF p a2->Z.F 30 [.int p,Au Ad q1,Au Ad q2,Au Ab a1,Au Ab a2]=.ok (.bl Ab)
theorem cZ(h:H30 Z)(p:Ai)(q1 q2 a1 a2:R3)(hp:P4 p)(f1:Fm p q1 a1)(n1:NF p a1)(f2:Fm p q2 a2)(n2:NF p a2):LZ.run Z [.int p,Au Ad q1,Au Ad q2,Au Ab a1,Au Ab a2]=.ok (.bl Ab):=by
 have hs:=YG h.mk_ p q1 q2 a1 a2 (Au Ab a1) (Au Ab a2) hp f1 f2;unfold PC at hs;have e0:Z.F 28 [obC p 1 a1,Au Ab a1,.tup [.str (Ap "("),.str (Ap ")")]]=.ok (.bl Ab):=h.ma p 1 a1 (by decide) hp n1.1
 have e1:Z.F 28 [obC p 2 a2,Au Ab a2,.tup [.str (Ap "["),.str (Ap "]")]]=.ok (.bl Ab):=h.ma p 2 a2 (by decide) hp n2.1
 have e2:Z.F 28 [obC p 0 a1,Au Ab a1,.tup [.str (Ap ""),.str (Ap "")]]=.ok (.bl Ab):=h.ma p 0 a1 (by decide) hp n1.1
 have e3:Z.F 900 [.int p,Au Ad q1]=.ok (obC p 0 a1):=h.mk_ p 0 Ad q1 a1 (by decide) hp f1
 have i1:Jm 2 (obC p 1 a1)=.ok (.bl Ad):=rfl;have i2:Jm 1 (obC p 2 a1)=.ok (.bl Ad):=rfl;obtain⟨me1,me2⟩:=h.me p a1 a2 hp n1.1 n2.1;have z:=h.ze p a1 a2 hp n1.1 n2.1;have w1:G9 (Ap "meets") [(1,942),(2,943)] (obC p 1 a1)=.ok 942:=rfl;have w2:G9 (Ap "meets") [(1,942),(2,943)] (obC p 2 a2)=.ok 943:=rfl;have w3:G9 (Ap "across") [(1,940),(2,941)] (obC p 1 a1)=.ok 940:=rfl;have w4:G9 (Ap "across") [(1,940),(2,941)] (obC p 2 a1)=.ok 941:=rfl;have fl:∀ r:R3,flD 5 (Au Ab r)=Ab:=λ_=>rfl
 have er:eqD (Au Ab a1) (Au Ab a2)=decide (a1=a2):=SL ..;have fl1:=fl a1;have fl2:=fl a2;have gl:∀ x y:D,Dq [x,y] 0=.ok x/\Dq [x,y] 1=.ok y:=λ_ _=>⟨rfl,rfl⟩
 by_cases eq:a1=a2
 .subst eq;obtain⟨k1,k2⟩:=h.li p a1 hp n1.1;have er:eqD (Au Ab a1) (Au Ab a1)=Ab:=by rw[er];exact Fp rfl
  clear fl f1 f2 n1 n2 h
  generalize decide (Da a1 a1%p=0)=v at *;generalize obC p 1 a1=P1 at *;generalize obC p 2 a1=L1 at *;generalize obC p 0 a1=T1 at *;generalize Au Ab a1=A1 at *;generalize Au Ad q1=R1 at *;generalize Au Ad q2=R2 at *;have gP:=gl P1 P1;have gL:=gl L1 L1
  clear gl
  simp[LZ,Np,Df.run,BV,hs,gP,gL,e0,e1,e2,e3,i1,i2,Du,MC,ER,Er,w1,w2,me1,me2,z,kiD,fl1,er,k1,k2]
 .have er:eqD (Au Ab a1) (Au Ab a2)=Ad:=by rw[er];exact Cj eq
  obtain⟨y,ny,d1,d2,fy⟩:=eM h.fo hp n1 n2 eq;obtain⟨x1,x2⟩:=h.ac p a1 a2 y hp n1 n2 eq fy;have i3:Jm 2 (obC p 2 y)=.ok (.bl Ab):=rfl;have i4:Jm 1 (obC p 1 y)=.ok (.bl Ab):=rfl;have t1:=tm6 h.to p (c:=2) (by decide) y
  have t2:=tm6 h.to p (c:=1) (by decide) y
  have lf:=(h.lf p Ab y hp).2 y (oU hp ny);have sa:=h.sa y;have z1:=h.ze p y a1 hp ny.1 n1.1;have z2:=h.ze p y a2 hp ny.1 n2.1;rw[Fp d1]at z1;rw[Fp d2]at z2;obtain⟨fy1,fy2⟩:=Tn y
  clear fl f1 f2 n1 n2 h fy d1 d2 ny
  generalize decide (Da a1 a2%p=0)=v at *;generalize obC p 1 a1=P1 at *;generalize obC p 2 a1=L1 at *;generalize obC p 0 a1=T1 at *;generalize obC p 1 a2=P2 at *;generalize obC p 2 a2=L2 at *;generalize obC p 1 y=Py at *;generalize obC p 2 y=Ly at *;generalize Au Ab a1=A1 at *;generalize Au Ab a2=A2 at *;generalize Au Ab y=Y_ at *;generalize Au Ad q1=R1 at *;generalize Au Ad q2=R2 at *;have gP:=gl P1 P2;have gL:=gl L1 L2
  clear gl
  simp[LZ,Np,Df.run,BV,hs,gP,gL,e0,e1,e2,e3,i1,i2,i3,i4,Du,MC,ER,Er,w1,w2,w3,w4,me1,me2,z,kiD,fl1,fl2,er,x1,x2,t1,t2,lf,sa,z1,z2,fy1,fy2]
end
structure H06 (Z:Gam) (ns:Ac Ai):Prop where
 mi:∀ k,Z.F 3 [scr ns,.int k]=.ok (.int (EZ ns k))
 nu:∀ k,Z.F 5 [scr ns,.int k]=.ok (.int (HK ns k))
 re:SD Z
 lf:PB Z
 pa:SG Z
theorem PH{p l:Ai}(hp:P4 p)(el:BJ p (tri q)=Aa l):∃ a,Fm p q a/\NF p a:=by
 obtain⟨u,iu,j,l1,pr,ef⟩:=Rv hp el;exact⟨_,⟨l,u,el,iu,ef⟩,⟨j,l1⟩⟩
section
variable{Z:Gam}{ns:Ac Ai}
theorem T5(h:H06 Z ns)(S:D)(i m p:Ai)(q1 q2:R3)(s6 s7:Sl)(hp:P4 p)(m0:0<=m):∃ t6 t7,evSs Z [sh S,si i,si m,si p,sh (Au Ad q1),sh (Au Ad q2),s6,s7,Ae,Ae,Ae,Ae] J6=.next [sh S,si i,si m,si p,sh (Au Ad q1),sh (Au Ad q2),t6,t7,Ae,Ae,Ae,Ae]:=by
 have p0:=hp.pos;have ph:=hp.hi;have mk:∀ j,DV p j=Ab:=λj=>J9 (by omega) (by omega)
 have sq:=OI Ad q2;have c3:Bz (cG Z [sh S,si i,si m,si p,sh (Au Ad q1),sh (Au Ad q2),s6,s7,Ae,Ae,Ae,Ae] 11 Dp) (cF Z [sh S,si i,si m,si p,sh (Au Ad q1),sh (Au Ad q2),s6,s7,Ae,Ae,Ae,Ae] 11 Nf) [.int q2.1,.int q2.2.1,.int q2.2.2]=.ok [.int (p*q2.1),.int (p*q2.2.1),.int (p*q2.2.2)]:=by
  simp[Bz,cG,cF,Dp,Nf,mk]
 have r:Z.F 26 [.int (m/20%3),.int p,.lst [.int (p*q2.1),.int (p*q2.2.1),.int (p*q2.2.2)]]=.ok (.bl Ab):=h.re p (m/20%3) (p*q2.1,p*q2.2.1,p*q2.2.2) (by omega) (by omega) hp (LW.mpr (by simp[tri]))
 obtain⟨n1,y1⟩:=h.lf p Ad q1 hp;obtain⟨n2,y2⟩:=h.lf p Ad q2 hp;have nn:∀ a:R3,BN .IsNot (Au Ab a) .non=.ok (.bl Ab):=λ_=>rfl
 cases e2:BJ p (tri q2) with
 |none=>
  have l2:=n2 e2;cases e1:BJ p (tri q1) with
  |none=>
   have l1:=n1 e1;refine⟨sh .non,sh .non,?_⟩;generalize Au Ad q1=R1 at *;generalize Au Ad q2=R2 at *;simp[J6,sq,c3,r,l1,l2]
  |some l=>
   obtain⟨a1,f1,g1⟩:=PH hp e1;have l1:=y1 a1 f1;have k:=nn a1;refine⟨sh (Au Ab a1),sh .non,?_⟩;generalize Au Ad q1=R1 at *;generalize Au Ad q2=R2 at *;generalize Au Ab a1=A1 at *;simp[J6,sq,c3,r,l1,l2,k]
 |some l'=>
  obtain⟨a2,f2,g2⟩:=PH hp e2;have l2:=y2 a2 f2;have k2:=nn a2;cases e1:BJ p (tri q1) with
  |none=>
   have l1:=n1 e1;refine⟨sh .non,sh (Au Ab a2),?_⟩;generalize Au Ad q1=R1 at *;generalize Au Ad q2=R2 at *;generalize Au Ab a2=A2 at *;simp[J6,sq,c3,r,l1,l2]
  |some l=>
   obtain⟨a1,f1,g1⟩:=PH hp e1;have l1:=y1 a1 f1;have k:=nn a1;have pr:=h.pa p q1 q2 a1 a2 hp f1 g1 f2 g2;refine⟨sh (Au Ab a1),sh (Au Ab a2),?_⟩;generalize Au Ad q1=R1 at *;generalize Au Ad q2=R2 at *;generalize Au Ab a1=A1 at *;generalize Au Ab a2=A2 at *;simp[J6,sq,c3,r,l1,l2,k,k2,pr]
theorem lI(h:H06 Z ns)(i:Af)(hi:i<10)(s1 s2 s3 s4 s5 s6 s7:Sl):∃ t1 t2 t3 t4 t5 t6 t7,Ek Z 1 KZ (.int i) [sh (scr ns),s1,s2,s3,s4,s5,s6,s7,Ae,Ae,Ae,Ae]=.next [sh (scr ns),t1,t2,t3,t4,t5,t6,t7,Ae,Ae,Ae,Ae]:=by
 have em:=h.mi (80+i);have m0:=gY ns (80+i);have hp:=jF (EZ ns (80+i));have gp:=ZF (EZ ns (80+i));have mo:DV 6 (i:Ai)=Ab:=J9 (by decide) (by decide)
 have u0:=h.nu (6*(i:Ai));have u1:=h.nu (6*(i:Ai)+1);have u2:=h.nu (6*(i:Ai)+2);have v0:=h.nu (6*(i:Ai)+3);have v1:=h.nu (6*(i:Ai)+3+1);have v2:=h.nu (6*(i:Ai)+3+2);generalize HK ns (6*(i:Ai))=x0 at *;generalize HK ns (6*(i:Ai)+1)=x1 at *;generalize HK ns (6*(i:Ai)+2)=x2 at *;generalize HK ns (6*(i:Ai)+3)=y0 at *;generalize HK ns (6*(i:Ai)+3+1)=y1 at *;generalize HK ns (6*(i:Ai)+3+2)=y2 at *;generalize pr4 (EZ ns (80+i))=p at *;generalize EZ ns (80+i)=m at *;have p0:=hp.lo;have ph:=hp.hi;have p1:(1:Ai)<p:=by omega
 have rg:EQ 0 3=.ok [.int 0,.int 1,.int 2]:=rfl;have c0:∀ s5,Bz (cG Z [sh (scr ns),si i,si m,si p,s4,s5,s6,s7,Ae,Ae,Ae,Ae] 8 Dp) (cF Z [sh (scr ns),si i,si m,si p,s4,s5,s6,s7,Ae,Ae,Ae,Ae] 8 Ni) [.int 0,.int 1,.int 2]=.ok [.int x0,.int x1,.int x2]:=λs5=>by
  simp[Bz,cG,cF,Dp,Ni,mo,u0,u1,u2]
 have c1:∀ s4,Bz (cG Z [sh (scr ns),si i,si m,si p,s4,s5,s6,s7,Ae,Ae,Ae,Ae] 9 Dp) (cF Z [sh (scr ns),si i,si m,si p,s4,s5,s6,s7,Ae,Ae,Ae,Ae] 9 Nh) [.int 0,.int 1,.int 2]=.ok [.int y0,.int y1,.int y2]:=λs4=>by
  simp[Bz,cG,cF,Dp,Nh,mo,v0,v1,v2]
 have c0':=c0 s5;have c1':=c1 (sh (.lst [.int x0,.int x1,.int x2]));by_cases c:m/4%5=1
 .have f0:0<=m/20%(p-1):=Cz _ (by omega)
  have f1:m/20%(p-1)<p-1:=Ck _ (by omega)
  have mk:∀ j,DV (1+m/20%(p-1)) j=Ab:=λj=>J9 (by omega) (by omega)
  have c2:Bz (cG Z [sh (scr ns),si i,si m,si p,sh (.lst [.int x0,.int x1,.int x2]),sh (.lst [.int y0,.int y1,.int y2]),s6,s7,Ae,Ae,Ae,Ae] 10 Dp) (cF Z [sh (scr ns),si i,si m,si p,sh (.lst [.int x0,.int x1,.int x2]),sh (.lst [.int y0,.int y1,.int y2]),s6,s7,Ae,Ae,Ae,Ae] 10 Ng) [.int x0,.int x1,.int x2]=.ok [.int ((1+m/20%(p-1))*x0),.int ((1+m/20%(p-1))*x1),.int ((1+m/20%(p-1))*x2)]:=by
   simp[Bz,cG,cF,Dp,Ng,mk,p1]
  obtain⟨t6,t7,e⟩:=T5 h (scr ns) i m p (x0,x1,x2) ((1+m/20%(p-1))*x0,(1+m/20%(p-1))*x1,(1+m/20%(p-1))*x2) s6 s7 hp m0;refine⟨_,_,_,_,_,t6,t7,KR ?_ e⟩;generalize scr ns=S at *;simp[Ek,KZ,em,gp,rg,c0',c1',c,c2];rfl
 .obtain⟨t6,t7,e⟩:=T5 h (scr ns) i m p (x0,x1,x2) (y0,y1,y2) s6 s7 hp m0;refine⟨_,_,_,_,_,t6,t7,KR ?_ e⟩;generalize scr ns=S at *;simp[Ek,KZ,em,gp,rg,c0',c1',c];rfl
theorem kU(h:H06 Z ns):NV.run Z [scr ns]=.ok (.bl Ab):=by
 have rg:EQ 0 10=.ok (Hg 0 10):=rfl;obtain⟨U1,e1,s1,s2,s3,s4,s5,s6,s7,rfl⟩:=Qz (body:=Ek Z 1 KZ) (λ_ U=>∃ s1 s2 s3 s4 s5 s6 s7:Sl,U=[sh (scr ns),s1,s2,s3,s4,s5,s6,s7,Ae,Ae,Ae,Ae]) (Hg 0 10) 0 [sh (scr ns),Ae,Ae,Ae,Ae,Ae,Ae,Ae,Ae,Ae,Ae,Ae] ⟨_,_,_,_,_,_,_,rfl⟩ (by
  rintro i x hx U ⟨s1,s2,s3,s4,s5,s6,s7,rfl⟩;obtain⟨hi,rfl⟩:=Rg hx;obtain⟨t1,t2,t3,t4,t5,t6,t7,e⟩:=lI h i hi s1 s2 s3 s4 s5 s6 s7;rw[IF];exact⟨_,e,t1,t2,t3,t4,t5,t6,t7,rfl⟩)
 generalize Hg 0 10=RG at *;generalize scr ns=S at *;simp[NV,Df.run,BV,rg,e1]
end
noncomputable def UM:Af->Ac Af
 |2=>[2,0]
 |3=>[3,0]
 |107=>[107,0]
 |_=>[]
noncomputable def MW:Af->Ac D->R Ex
 |2,_=>.ok ⟨2,[]⟩
 |3,_=>.ok ⟨3,[]⟩
 |107,ds=>mkX 107 "triple" ds
 |_,_=>.bad
noncomputable def Q06:Prg:=⟨Ab,fun
 |1=>O5
 |9=>K3
 |17=>La
 |23=>K8
 |24=>O6
 |25=>N7
 |2=>Ny
 |3=>NP
 |4=>X6
 |5=>Nd
 |18=>Lb
 |6=>X5
 |19=>M8
 |26=>M9
 |27=>K7
 |28=>NH
 |29=>NG
 |30=>LZ
 |31=>NV
 |900=>mkC 0
 |901=>mkC 1
 |902=>mkC 2
 |910=>inC
 |920=>Nj
 |930=>NA
 |931=>Nk
 |932=>Nb
 |940=>K1
 |941=>K4
 |942=>Nl
 |943=>Nc
 | _=>⟨0,Ad,.nil⟩,λ_=>.non,UM,MW⟩
theorem pH(ns:Ac Ai):(gam Q06 9).F 31 [scr ns]=.ok (.bl Ab):=by
  have rs:∀ n,Lr (gam Q06 (n+1)):=λn p m hp=>iT (gam Q06 n) p m hp
  have ce:∀ n,O9 (gam Q06 (n+1)):=λn ns k=>iY (gam Q06 n) ns k
  have mi:∀ n,SH (gam Q06 (n+2)):=λn ns k=>dA (ce n) ns k
  have nu:∀ n,Z_8 (gam Q06 (n+3)):=λn ns k=>YS (ce (n+1)) (mi n) ns k
  have xa:∀ n,(gam Q06 n).xn=MW:=λn=>by cases n<;>rfl
  have ua:∀ n,(gam Q06 n).up=UM:=λn=>by cases n<;>rfl
  have tu:∀ n,N8 (gam Q06 (n+2)):=λn p m hp=>YR (rs n) (λds=>by rw[xa];rfl) p m hp
  have fx:∀ n,TR (gam Q06 (n+3)):=λn p b xs hp=>iX (b:=b) (xs:=xs) (rs (n+1)) (tu n) (λds=>by rw[xa];rfl) hp
  have fo:∀ n,Li (gam Q06 (n+3)):=λn p b xs l t hp e it=>(fx n p b xs hp).2 l t e it
  have ii:∀ n,UB (gam Q06 (n+4)):=λn p b q a hp h=>mW (fo n) p b q a hp h
  have mk:∀ n,LB (gam Q06 (n+5)):=λn p c b q a hc hp h=>by
    match c,hc with
    |0,_=>exact Pp (ii n) 0 p b q a hp h
    |1,_=>exact Pp (ii n) 1 p b q a hp h
    |2,_=>exact Pp (ii n) 2 p b q a hp h
    |n+3,h=>omega
  have ix:∀ n p b q,P4 p->BJ p (tri q)=Ae->(gam Q06 (n+4)).F 910 [.int p,Au b q]=.exn ⟨3,[]⟩:=λn p b q hp h=>iW (fx n) p b q hp h
  have mx:∀ n,TM (gam Q06 (n+5)):=λn p c b q hc hp h=>by
    match c,hc with
    |0,_=>exact OY 0 p b q (ix n p b q hp h)
    |1,_=>exact OY 1 p b q (ix n p b q hp h)
    |2,_=>exact OY 2 p b q (ix n p b q hp h)
    |n+3,h=>omega
  have ro:∀ n,Mp (gam Q06 (n+1)):=λn p q hp h=>iS (gam Q06 n) p q hp h
  have sw:∀ n,Uy (gam Q06 (n+2)):=λn p c q hc hp h=>by
    match c,hc with
    |0,_=>exact mT (ro n) p q hp h
    |1,_=>exact mS (ro n) p q hp h
    |2,_=>exact mR (ro n) p q hp h
    |n+3,h=>omega
  have to':∀ n,Ja (gam Q06 (n+1)):=λn p c a=>cX (gam Q06 n) p c a
  have sa:∀ n,Ma (gam Q06 (n+1)):=λn a=>iR (gam Q06 n) [a.1,a.2.1,a.2.2]
  have ma:∀ n,TN (gam Q06 (n+3)):=λn p c a hc hp h=>iU (to' (n+1)) (sw n) (sa (n+1)) p c a hc hp h
  have cr:∀ n,OE (gam Q06 (n+1)):=λn a b ha hb ne=>YI (gam Q06 n) a b ha hb ne
  have al:∀ n p a,P4 p->In3 p a->(gam Q06 (n+1)).F 23 [Au Ab a,Au Ab a]=.exn (alk a):=λn p a hp ia=>dB (gam Q06 n) a (by rw[xa];exact gX hp ia)
  have ac:∀ n,UD (gam Q06 (n+6)):=λn p a b y hp na nb ne hy=>⟨mZ (to' (n+4)) (cr (n+4)) (mk n) p a b y hp na nb ne hy,mY (to' (n+4)) (cr (n+4)) (mk n) p a b y hp na nb ne hy⟩
  have al6:∀ n,UC (gam Q06 (n+2)):=λn p a hp ia=>mX (to' n) p a (al n p a hp ia)
  have li:∀ n,TQ (gam Q06 (n+2)):=λn p x y hp ix iy=>iV (rs n) p x y hp ix iy
  have me:∀ n,Uz (gam Q06 (n+3)):=λn p a b hp ia ib=>mU (to' (n+1)) (li n) p a b hp ia ib
  have lk:∀ n,UA (gam Q06 (n+3)):=λn p a hp ia=>mV (al6 n) (sa (n+1)) (by rw[ua];rfl) p a hp ia
  have lf:∀ n,PB (gam Q06 (n+1)):=λn p b q hp=>⟨λh=>(Uj (gam Q06 n) (b:=b) (xs:=tri q) hp).1 h,λa ⟨l,t,e1,e2,e3⟩=>((Uj (gam Q06 n) (b:=b) (xs:=tri q) hp).2 l t e1 e2).trans (by rw[e3];rfl)⟩
  have pa:∀ n,SG (gam Q06 (n+7)):=λn p q1 q2 a1 a2 hp f1 n1 f2 n2=>cZ ⟨mk (n+1),ma (n+3),to' (n+5),me (n+3),λp x y hp ix iy=>iQ (gam Q06 (n+5)) p x y hp ix iy,lk (n+3),ac n,lf (n+5),sa (n+5),fo (n+3)⟩ p q1 q2 a1 a2 hp f1 n1 f2 n2
  have rf:∀ n,SD (gam Q06 (n+6)):=λn p s q s0 s3 hp hl=>cY (mx n) (by rw[ua];rfl) p s q s0 s3 hp hl
  exact kU (Z:=gam Q06 8) ⟨mi 6 ns,nu 5 ns,rf 2,lf 7,pa 1⟩
end OvC
namespace OvC
open PySem PySem.Spec PyProof.Rows Ov L2
variable{l:FE}
noncomputable def Hc:Ac (Ag×Af×Af):=([("rest",1,2),("turned_over",9,2),("one_form",17,2),("crossed",23,2),("lies",24,3),("row_of",25,1),("_law_cell_at",2,2),("_law_mixed",3,2),("_law_number",5,2),("_law_form",18,2),("_law_same_tuple",19,2),("_law_refused",26,3),("_law_alike",27,3),("_law_made",28,3),("_law_zero",29,3),("_law_pair",30,5),("law",31,1),("0.told",920,1),("1.told",920,1),("2.told",920,1),("0.shown",930,1),("1.shown",931,1),("2.shown",932,1),("1.across",940,2),("2.across",941,2),("1.meets",942,2),("2.meets",943,2)]:Ac (Ag×Af×Af))
noncomputable def Hj:Ac Ag:=["ValueError", "all", "bool", "int", "isinstance", "len", "list", "range", "str", "tuple"]
noncomputable def GA:Ac (Ag×Af):=[("NoOver",2),("NoTriple",3),("Alike",107)]
noncomputable def GE:Ac (Ag×Af):=[("NoTriple",3),("OvalError",0),("Alike",107),("NotOn",108),("BadRow",106),("Triple",109),("Line",11),("Point",10)]
noncomputable def Hb:Ac (Ag×Af):=[]
noncomputable abbrev C06(h:Ak)(n:Af)(N:Ac Ag)(i d:Af):Ak:=El 80 h Hc Hj GA GE Hb (N.take n) N (tp06 i) (Q06.defs d)
theorem kC:C06 Ad 2 ["p", "n"] 8 1=Ab:=by decide+kernel
theorem kB:C06 Ad 2 ["p", "n", "turned"] 9 9=Ab:=by decide+kernel
theorem kA:C06 Ad 2 ["p", "numbers", "rests", "first", "factor", "#5", "#6"] 11 17=Ab:=by decide+kernel
theorem jZ:C06 Ad 2 ["one", "other"] 12 23=Ab:=by decide+kernel
theorem jY:C06 Ad 3 ["p", "point", "line"] 13 24=Ab:=by decide+kernel
theorem jX:C06 Ad 1 ["triple", "#1"] 14 25=Ab:=by decide+kernel
theorem jW:C06 Ad 2 ["_law_script", "_law_k"] 19 2=Ab:=by decide+kernel
theorem jV:C06 Ad 2 ["_law_script", "_law_k"] 20 3=Ab:=by decide+kernel
theorem jU:C06 Ad 2 ["_law_script", "_law_k", "_law_mix", "_law_number_here"] 22 5=Ab:=by decide+kernel
theorem jT:C06 Ad 2 ["_law_numbers", "_law_p", "_law_rests", "_law_lead", "_law_over", "#5", "#6", "#7", "#8"] 23 18=Ab:=by decide+kernel
theorem eB:C06 Ad 2 ["_law_found", "_law_due", "#2"] 25 19=Ab:=by decide+kernel
theorem eA:C06 Ad 3 ["_law_sort_of", "_law_p", "_law_numbers", "_law_plain", "e"] 26 26=Ab:=by decide+kernel
theorem dZ:C06 Ad 3 ["_law_one", "_law_other", "_law_due", "_law_told", "_law_plain", "e"] 27 27=Ab:=by decide+kernel
theorem dY:C06 Ad 3 ["_law_thing", "_law_due", "_law_ends", "_law_text", "#4"] 28 28=Ab:=by decide+kernel
theorem fD:C06 Ad 3 ["_law_one", "_law_other", "_law_p"] 29 29=Ab:=by decide+kernel
theorem fC:C06 Ad 5 ["_law_p", "_law_first", "_law_second", "_law_one", "_law_other", "_law_handed", "_law_points", "_law_rows", "_law_numbers", "_law_a", "_law_b", "_law_found", "_law_across", "_law_common"] 30 30=Ab:=by decide+kernel
theorem Sv:C06 Ad 1 ["_law_script", "_law_turn", "_law_mix", "_law_p", "_law_first", "_law_second", "_law_one", "_law_other", "#8", "#9", "#10", "#11"] 31 31=Ab:=by decide+kernel
theorem N6:El 80 Ad Hc Hj GA GE Hb ["self"] ["self"] (EW (tp06 15) 1) (Q06.defs 920)=Ab:=by decide+kernel
theorem Zt:El 80 Ad Hc Hj GA GE Hb ["self"] ["self"] (EW (tp06 15) 2) (Q06.defs 930)=Ab:=by decide+kernel
theorem Zs:El 80 Ad Hc Hj GA GE Hb ["self"] ["self"] (EW (tp06 16) 0) (Q06.defs 931)=Ab:=by decide+kernel
theorem Zr:El 80 Ad Hc Hj GA GE Hb ["self"] ["self"] (EW (tp06 17) 0) (Q06.defs 932)=Ab:=by decide+kernel
theorem Zq:El 80 Ad Hc Hj GA GE Hb ["self", "other"] ["self", "other"] (EW (tp06 16) 1) (Q06.defs 940)=Ab:=by decide+kernel
theorem Zp:El 80 Ad Hc Hj GA GE Hb ["self", "other"] ["self", "other"] (EW (tp06 17) 1) (Q06.defs 941)=Ab:=by decide+kernel
theorem Zo:El 80 Ad Hc Hj GA GE Hb ["self", "other"] ["self", "other"] (EW (tp06 16) 2) (Q06.defs 942)=Ab:=by decide+kernel
theorem Zn:El 80 Ad Hc Hj GA GE Hb ["self", "other"] ["self", "other"] (EW (tp06 17) 2) (Q06.defs 943)=Ab:=by decide+kernel
theorem pV:LI 80 Hc Hj GA GE Hb (EW (tp06 15) 0)=Ab:=by decide+kernel
theorem eN:MS "OvalError" "triple" "triple" (Us (tp06 5))=Ab:=by decide+kernel
set_option maxHeartbeats 0 in
theorem all06{w:Az}{K:Fg}{h:AE}{mg:Ag->An Aj}{fa f0 f1 f2 f3 f4 f5 f6 f7 f8 f9 f10 f11 f12 f13 f14 f15 f16 x0 x1 x2 x3 x4 x5 x6 x7 x8 ix2:Ah}(X:K.In h)(G:h.Ns AT mg)(hfa:mg "law" = Aa (.ref fa)){o0 o1 o2 mt ms0 ms1 ms2 fi:Ah}{xa1 xa2 xm1 xm2:Ah}(a0:FnI K f0 "rest" (tp06 8))(a1:FnI K f1 "turned_over" (tp06 9))(a2:FnI K f2 "one_form" (tp06 11))(a3:FnI K f3 "crossed" (tp06 12))(a4:FnI K f4 "lies" (tp06 13))(a5:FnI K f5 "row_of" (tp06 14))(a6:FnI K f6 "_law_cell_at" (tp06 19))(a7:FnI K f7 "_law_mixed" (tp06 20))(a8:FnI K f8 "_law_number" (tp06 22))(a9:FnI K f9 "_law_form" (tp06 23))(a10:FnI K f10 "_law_same_tuple" (tp06 25))(a11:FnI K f11 "_law_refused" (tp06 26))(a12:FnI K f12 "_law_alike" (tp06 27))(a13:FnI K f13 "_law_made" (tp06 28))(a14:FnI K f14 "_law_zero" (tp06 29))(a15:FnI K f15 "_law_pair" (tp06 30))(a16:FnI K f16 "law" (tp06 31))(oa0:OA K "Triple" o0 mt ms0 fi)(oa1:OA K "Point" o1 mt ms1 fi)(oa2:OA K "Line" o2 mt ms2 fi)(kt0:KtC K o0 [(o0,Ab),(o1,Ad),(o2,Ad)])(kt1:KtC K o1 [(o0,Ab),(o1,Ab),(o2,Ad)])(kt2:KtC K o2 [(o0,Ab),(o1,Ad),(o2,Ab)])(ii:InI K fi "Triple.__init__" (EW (tp06 15) 0))(ob1:OB K o1 xa1 xm1)(ob2:OB K o2 xa2 xm2)(me920:MeI K mt "told" "Triple.told" (EW (tp06 15) 1))(me930:MeI K ms0 "shown" "Triple.shown" (EW (tp06 15) 2))(me931:MeI K ms1 "shown" "Point.shown" (EW (tp06 16) 0))(me932:MeI K ms2 "shown" "Line.shown" (EW (tp06 17) 0))(me940:MeI K xa1 "across" "Point.across" (EW (tp06 16) 1))(me941:MeI K xa2 "across" "Line.across" (EW (tp06 17) 1))(me942:MeI K xm1 "meets" "Point.meets" (EW (tp06 16) 2))(me943:MeI K xm2 "meets" "Line.meets" (EW (tp06 17) 2))(cx0:XA K "NoOver" x0 Ae)(cx1:XA K "NoTriple" x1 Ae)(cx2:XB K "Alike" x2 ix2 "Alike.__init__" (Us (tp06 5)))(cx3:XE K "OvalError" x3)(ox3:XO K x3)(cx4:XE K "NotOn" x4)(cx5:XE K "BadRow" x5)(cx6:XE K "Triple" x6)(cx7:XE K "Line" x7)(cx8:XE K "Point" x8)(sx1:SuC K x1 [(x0,Ad),(x1,Ab),(x2,Ad)])(sx3:SuC K x3 [(x0,Ab),(x1,Ab),(x2,Ab)])(sx2:SuC K x2 [(x0,Ad),(x1,Ad),(x2,Ab)])(sx4:SuC K x4 [(x0,Ad),(x1,Ad),(x2,Ad)])(sx5:SuC K x5 [(x0,Ad),(x1,Ad),(x2,Ad)])(sx6:SuC K x6 [(x0,Ad),(x1,Ad),(x2,Ad)])(sx7:SuC K x7 [(x0,Ad),(x1,Ad),(x2,Ad)])(sx8:SuC K x8 [(x0,Ad),(x1,Ad),(x2,Ad)])(z0:Bl K AT "ValueError" = Aa Ae)(z1:Bl K AT "all" = Aa Ae)(z2:Bl K AT "bool" = Aa Ae)(z3:Bl K AT "int" = Aa Ae)(z4:Bl K AT "isinstance" = Aa Ae)(z5:Bl K AT "len" = Aa Ae)(z6:Bl K AT "list" = Aa Ae)(z7:Bl K AT "range" = Aa Ae)(z8:Bl K AT "str" = Aa Ae)(z9:Bl K AT "tuple" = Aa Ae):
  ∃ fd:Bv,(∀(s:Ao)(v:Aj),FR s fd ⟨[v],[]⟩ [("_law_script",v)])/\∀ base:AE,K.In base->base.Ns AT mg->FnOk l.prog w K mg base (CXR l.prog w) 9 fa fd ["_law_script"] (Mw K):=by
 obtain⟨_,F,e⟩:=a16;obtain⟨_,_,_,_,_,_,_,_,_,rfl,_,_⟩:=F.ex;cases hfa.symm.trans (Bx X G e);have XT06:XT Q06.up Q06.xn (clL [(2,x0),(3,x1),(107,x2)]) GA GE K mg:=by
  refine lA (all_cons (cx0.row λ_=>by first|exact .inr rfl|exact .inl rfl) (all_cons (cx1.row λ_=>by first|exact .inr rfl|exact .inl rfl) (all_cons (XB.row X G cx2 ox3 cx3.n (.inl rfl) eN (λ_ _ _ _ _ _ _ _=>rfl) λ_=>rfl) (all_nil)))) (all_cons ⟨_,rfl,Bx X G cx0.n⟩ (all_cons ⟨_,rfl,Bx X G cx1.n⟩ (all_cons ⟨_,rfl,Bx X G cx2.a.n⟩ (all_nil)))) (all_cons ⟨_,Bx X G cx1.n,cx1.kc,sx1⟩ (all_cons ⟨_,Bx X G cx3.n,cx3.kc,sx3⟩ (all_cons ⟨_,Bx X G cx2.a.n,cx2.a.kc,sx2⟩ (all_cons ⟨_,Bx X G cx4.n,cx4.kc,sx4⟩ (all_cons ⟨_,Bx X G cx5.n,cx5.kc,sx5⟩ (all_cons ⟨_,Bx X G cx6.n,cx6.kc,sx6⟩ (all_cons ⟨_,Bx X G cx7.n,cx7.kc,sx7⟩ (all_cons ⟨_,Bx X G cx8.n,cx8.kc,sx8⟩ (all_nil))))))))) ?_
  intro c q ds;show MW c ds=.bad;unfold MW;split<;>first|rfl|exact absurd rfl (q ("NoOver",2) (by decide))|exact absurd rfl (q ("NoTriple",3) (by decide))|exact absurd rfl (q ("Alike",107) (by decide))
 have T:Tab K mg (clL [(2,x0),(3,x1),(107,x2)]) Hc Hj GA GE Hb Q06 80:=⟨lX X G oa0 oa1 oa2 kt0 kt1 kt2 ob1 ob2,oH oa0 oa1 oa2 ii pV rfl rfl rfl rfl λ_ _ _ _ _ _ _ _ _=>rfl,XT06,all_cons (B9 X G z0) (all_cons (B9 X G z1) (all_cons (B9 X G z2) (all_cons (B9 X G z3) (all_cons (B9 X G z4) (all_cons (B9 X G z5) (all_cons (B9 X G z6) (all_cons (B9 X G z7) (all_cons (B9 X G z8) (all_cons (B9 X G z9) (all_nil)))))))))),all_nil,all_cons (Iu 2 1 (by decide+kernel) X G a0 rfl kC λ_ _ _ _ _ _ _ _=>rfl) (all_cons (Iu 2 9 (by decide+kernel) X G a1 rfl kB λ_ _ _ _ _ _ _ _=>rfl) (all_cons (Iu 2 17 (by decide+kernel) X G a2 rfl kA λ_ _ _ _ _ _ _ _=>rfl) (all_cons (Iu 2 23 (by decide+kernel) X G a3 rfl jZ λ_ _ _ _ _ _ _ _=>rfl) (all_cons (LK 3 24 (by decide+kernel) X G a4 rfl jY λ_ _ _ _ _ _ _ _ _=>rfl) (all_cons (U_6 1 25 (by decide+kernel) X G a5 rfl jX λ_ _ _ _ _ _ _=>rfl) (all_cons (Iu 2 2 (by decide+kernel) X G a6 rfl jW λ_ _ _ _ _ _ _ _=>rfl) (all_cons (Iu 2 3 (by decide+kernel) X G a7 rfl jV λ_ _ _ _ _ _ _ _=>rfl) (all_cons (Iu 2 5 (by decide+kernel) X G a8 rfl jU λ_ _ _ _ _ _ _ _=>rfl) (all_cons (Iu 2 18 (by decide+kernel) X G a9 rfl jT λ_ _ _ _ _ _ _ _=>rfl) (all_cons (Iu 2 19 (by decide+kernel) X G a10 rfl eB λ_ _ _ _ _ _ _ _=>rfl) (all_cons (LK 3 26 (by decide+kernel) X G a11 rfl eA λ_ _ _ _ _ _ _ _ _=>rfl) (all_cons (LK 3 27 (by decide+kernel) X G a12 rfl dZ λ_ _ _ _ _ _ _ _ _=>rfl) (all_cons (LK 3 28 (by decide+kernel) X G a13 rfl dY λ_ _ _ _ _ _ _ _ _=>rfl) (all_cons (LK 3 29 (by decide+kernel) X G a14 rfl fD λ_ _ _ _ _ _ _ _ _=>rfl) (all_cons (qB 5 30 (by decide+kernel) X G a15 rfl fC λ_ _ _ _ _ _ _ _ _ _ _=>rfl) (all_cons (U_6 1 31 (by decide+kernel) X G ⟨_,F,e⟩ rfl Sv λ_ _ _ _ _ _ _=>rfl) (all_cons (KJ 920 (by decide+kernel) (FB (by decide:0<3) oa0.n) oa0.ft me920 N6 λ_ _ _ _ _ _ _=>rfl) (all_cons (KJ 920 (by decide+kernel) (FB (by decide:1<3) oa1.n) oa1.ft me920 N6 λ_ _ _ _ _ _ _=>rfl) (all_cons (KJ 920 (by decide+kernel) (FB (by decide:2<3) oa2.n) oa2.ft me920 N6 λ_ _ _ _ _ _ _=>rfl) (all_cons (KJ 930 (by decide+kernel) (FB (by decide:0<3) oa0.n) oa0.fs me930 Zt λ_ _ _ _ _ _ _=>rfl) (all_cons (KJ 931 (by decide+kernel) (FB (by decide:1<3) oa1.n) oa1.fs me931 Zs λ_ _ _ _ _ _ _=>rfl) (all_cons (KJ 932 (by decide+kernel) (FB (by decide:2<3) oa2.n) oa2.fs me932 Zr λ_ _ _ _ _ _ _=>rfl) (all_cons (Mu 940 (by decide+kernel) (FB (by decide:1<3) oa1.n) ob1.fa me940 Zq λ_ _ _ _ _ _ _ _=>rfl) (all_cons (Mu 941 (by decide+kernel) (FB (by decide:2<3) oa2.n) ob2.fa me941 Zp λ_ _ _ _ _ _ _ _=>rfl) (all_cons (Mu 942 (by decide+kernel) (FB (by decide:1<3) oa1.n) ob1.fm me942 Zo λ_ _ _ _ _ _ _ _=>rfl) (all_cons (Mu 943 (by decide+kernel) (FB (by decide:2<3) oa2.n) ob2.fm me943 Zn λ_ _ _ _ _ _ _ _=>rfl) (all_nil)))))))))))))))))))))))))))⟩
 exact⟨_,λs v=>.of_eq rfl,λbase _ _=>law_fn (SN T (gS T 8) (gU T 8) (Lv F) rfl Sv) pH⟩
theorem walk06{q:AL}{loose:Ac Ag}{XP:(Ag->An Aj)->AE->Prop}{YP:Az->AE->Prop}{d:DefRec}{K:KW->Fg}(hn:l.most=Aa 63)(hdf:d.params.defaults=[])(hY:∀(w:Az)(h:AE),YP w h->(K w.params).In h)(F:∀(w:Az)(mg:Ag->An Aj)(fa:Ah)(h:AE),(K w.params).In h->h.Ns AT mg->mg d.name=Aa (.ref fa) ->
   ∃ fd:Bv,(∀(s:Ao)(u:Aj),FR s fd ⟨[u],[]⟩ [("_law_script",u)])/\∀ base:AE,(K w.params).In base->base.Ns AT mg->FnOk l.prog w (K w.params) mg base (CXR l.prog w) 9 fa fd ["_law_script"] (Mw (K w.params))):W5 q loose XP YP l.row.toRowW d [] (λf vs=>JT f vs):=
 L2.walk_of (n:=63) (k:=9) (x := "_law_script") (CX:=λw=>CXR l.prog w) (sp:=λw=>Mw (K w.params)) hn (by decide) hdf ⟨rfl,by decide,by decide,rfl⟩ hY F (λ_ H a ns hl _ hS=>⟨a,ns,rfl,hl,hS,λ_ _ z=>z⟩) λ_ _ _ _ _ z=>jP z
end OvC
open PySem PySem.W PyProof.Rows
set_option hygiene false
set_option maxRecDepth 100000 in
set_option maxHeartbeats 0 in
theorem PySem.Challenge.cw_ovalfield_k06_points_and_lines_holds : PySem.Challenge.rw_ovalfield_k06_points_and_lines.Holds := by
 refine OvC.hold06.go OvC.reck06_1 OvC.reck06_2 OvC.reck06_3 OvC.reck06_4 OvC.reck06_5 OvC.reck06_6 OvC.reck06_7 OvC.reck06_8 OvC.reck06_9 OvC.reck06_10 OvC.reck06_11 ?_;intro said;refine OvC.walk06 (l:=PySem.Challenge.rw_ovalfield_k06_points_and_lines) rfl rfl (λw h Y_=>Xa Y_) ?F
 case F=>
  intro w mg fa h KX G hmg
  refine' OvC.all06 KX G hmg ?a0 ?a1 ?a2 ?a3 ?a4 ?a5 ?a6 ?a7 ?a8 ?a9 ?a10 ?a11 ?a12 ?a13 ?a14 ?a15 ?a16 ?oa0 ?oa1 ?oa2 ?kt0 ?kt1 ?kt2 ?ii ?ob1 ?ob2 ?me920 ?me930 ?me931 ?me932 ?me940 ?me941 ?me942 ?me943 ?cx0 ?cx1 ?cx2 ?cx3 ?ox3 ?cx4 ?cx5 ?cx6 ?cx7 ?cx8 ?sx1 ?sx3 ?sx2 ?sx4 ?sx5 ?sx6 ?sx7 ?sx8 ?z0 ?z1 ?z2 ?z3 ?z4 ?z5 ?z6 ?z7 ?z8 ?z9
  case a0|a1|a2|a3|a4|a5|a6|a7|a8|a9|a10|a11|a12|a13|a14|a15|a16=>(refine' Ov.fni ?a ?l ?c ?k;(case a=>k_is);(case l=>k_is);(case c=>k_is);(case k=>k_is))
  case oa0|oa1|oa2=>(refine' Ov.oa_mk ?n ?i ?ft ?fs ?q1 ?q2 ?q3 ?q4 ?q5 ?q6 ?q7 ?q8 ?q9 ?r1 ?r2 ?r3 ?r4 ?r5 ?r6;(case n=>k_is);(case i=>k_is);(case ft=>k_is);(case fs=>k_is);(case q1|q2|q3|q4|q5|q6|q7|q8|q9|r1|r2|r3|r4|r5|r6=>k_is))
  case kt0|kt1|kt2=>(refine' Ov.all_cons ?q0 (Ov.all_cons ?q1 (Ov.all_cons ?q2 Ov.all_nil));(case q0|q1|q2=>dsimp only;kit_is))
  case ob1|ob2=>(refine' Ov.OB.mk ?q1 ?q2 ?q3 ?q4;(case q1=>k_is);(case q2=>k_is);(case q3|q4=>k_is))
  case ii=>(refine' Ov.ini_mk ?l ?m ?k;(case l=>k_is);(case m=>k_is);(case k=>k_is))
  case me920|me930|me931|me932|me940|me941|me942|me943=>(refine' Ov.mei ?l ?m ?k;(case l=>k_is);(case m=>k_is);(case k=>k_is))
  case cx0|cx1=>(refine' Ov.xa_mk ?n (Ov.xcls_l ?e) ?d ?f ?g ?r ?a ?b ?c ?o ?h ?v;(case n=>k_is);(case e=>k_exc);(case d=>kernel_rfl);(case f|g|r|a|b|c|o|h|v=>k_is))
  case cx2=>(refine' Ov.XB.mk ?i (Ov.xa_mk ?n ?e ?d ?f ?g ?r ?a ?b ?c ?o ?h ?v) (Ov.ini_mk ?l ?m ?k) ?t ?s;(case n=>k_is);(case i=>k_is);(case l=>k_is);(case e|d=>kernel_rfl);(case m|k|t|s|f|g|r|a|b|c|o|h|v=>k_is))
  case cx3|cx4|cx5|cx6|cx7|cx8=>(refine' Ov.XE.mk ?a ?b ?c;(case a=>k_is);(case b|c=>k_is))
  case ox3=>(refine' Ov.XO.mk ?a ?b ?c;(case a|b|c=>k_is))
  case sx1|sx3|sx2|sx4|sx5|sx6|sx7|sx8=>(refine' Ov.all_cons ?q0 (Ov.all_cons ?q1 (Ov.all_cons ?q2 (Ov.all_nil)));(case q0|q1|q2=>dsimp only;k_is))
  case z0|z1|z2|z3|z4|z5|z6|z7|z8|z9=>k_is
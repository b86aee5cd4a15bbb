import PyProof.Rows.All
import Wide.All
import OpenK.AllK
import Wide.FinOn
import PyProof.EqAt
import KE.KSortTup
import PyProof.EqKinds
import PyProof.TupleCall
import Lean
import PySem.Challenge.RW_ovalfield_k08_rows_refused
set_option Elab.async false
set_option linter.all false
set_option maxRecDepth 100000
set_option maxHeartbeats 4000000
open Option renaming some→Aa,none→Ae,bind_eq_some_iff→Ax,isSome_iff_exists→Co,isNone_iff_eq_none→DN,map→Fx,bind_some→Wn,getD_none→Wo,map_some→Wp
open Bool renaming true→Ab,false→Ad,and_eq_true→Al,false_ne_true→Ay,not_eq_true'→Bs,or_eq_true→B8,or_false→Ef,eq_iff_iff→Eh,and_true→FX,and_false→Ig,or_true→Jb,not_eq_true→VN
open _root_ renaming List→Ac,Nat→Af,Int→Ah,Bool→Am,Option→Ao,if_pos→At,if_neg→AC,decide_eq_true_eq→AE,beq_iff_eq→AH,of_decide_eq_true→AO,False→AW,Array→Bg,dif_neg→BP,decide_eq_false→CU,beq_eq_false_iff_ne→CV,String→CZ,beq_self_eq_true→Du,Unit→DI,decide_eq_true→D2,or_false→EB,if_true→EM,Decidable→Gb,ne_true_of_eq_false→Gz,not_or→GV,bne_iff_ne→Ha,True→Hs,ne_eq→K9,if_false→Mb
open PySem renaming Str→Ag,Value→Aj,Addr→Ak,Expr→An,Shared→Ap,wpAny_bind→Aq,starEach→As,wpAny→Av,World→AA,Pos→AD,Heap→AG,Stmt→AJ,Program→AM,mainGlobals→AR,wpAny_pure→AT,Around→AU,wpAny_mono→A9,backTo→BA,FuncData→BE,cLine→BG,Scope→BN,excClassObj→BV,foldedSetIterable→B4,wpAny_loadPart_at→B5,binaryOp→B6,Env→Ci,sizeLine_eq→Cj,wpAny_field→Cq,compareOp→Cw,wpAny_truthy_bool→Cy,Tok→Cz,mem_of_lookup→CA,wpAny_newObj_type→CN,cellsFrom→CQ,swapsWith→CS,bootBuiltins→CY,CmpOp→C5,attributeBase→C8,Obj→C9,wpAny_Call_Name_kw→Di,OwnTail→DD,wpAny_passesOwn→DF,assignEach→DQ,codeAny_call_builtin→DR,PassesOwn→DX,noteFrame→DY,Keyword→DZ,wpAny_setField→D1,NameKind→D7,rawInt→D8,wpAny_standAt→Eg,wpAny_execs_nil→Eo,GenState→Et,codeAny→EG,codeAny_mono→EH,ExceptHandler→E1,wpAny_holding→E3,sliceBounds→E5,wpAny_isSubtype_exc→E9,Operator→Fq,wpAny_comprehension_free→Fs,typeIs_str→FB,wpAny_call→FC,wpAny_callSpecial?_slot→FG,Sem→FJ,wpAny_pyIter_list→FL,keywordEach→FW,strLen_append→FY,bindArgs→F2,checkBuiltinCall→F3,setFlight→Gc,Model→Gi,call_meets→Gj,letOwnedTupleGo→Gk,BindsTo→GB,compEnvC→GD,notedBy→GE,IsPart→GR,pushCells→GS,wpAny_pyIter_tuple→GU,behindInMarks→GY,methodCallPos→GZ,OsState→Hb,callerA→Hc,ExcBaseFacts→Hl,Paired→Hm,Result→Hn,backToKw→Ho,wpAny_call_entry→Hq,wpAny_execs_cons→Hr,Drawn→HI,pushCells_keeps→HN,wpAny_of_eq→HP,isTrue→Ik,newFunctionEnv→Il,recursionLimit→Im,bindC→Iq,bindL→Ir,builtinsNs→Iu,isInstance→Iw,numAt→Ix,Comprehension→IX,JoinOk→Jf,Within→Jj,callSpecial?→Jk,concat_meets→Jl,lastMarks→Jm,onTheHeap→Jn,UnaryOp→JG,getAttr→JH,getItem→JI,compPost→JL,handleBy→JM,PyData→Kc,StoreFacts→Ke,call→Kg,sysModules→Kh,wpAny_Name→Kj,setAttr→Kk,IntMulOk→Lc,Params→Ld,intItems→Le,pyIter→Lf,codeAny_call_function→X8,firstArgMember→X9,methodCallForm→Yb,noFill_tuple_add→Yc,pastItsLine_dict→Yd,plainObj_wpAny_Assign_Attribute→Ye,refuseLoop_ref→Yg,slot_list_getitem→Yh,wpAny_JoinedStr→Yi,wpAny_assign_Name→Yj,wpAny_loadPart→Yk,wpAny_lookBehind→Yl,wpAny_newFunctionEnv_cells→Ym,wpAny_pyIter_enum→Yn,wpAny_seqItems→Yo
open PySem.Str renaming ofString→Ai,empty→Do
open PySem.W renaming findIn→Ar,nsIn→Be,keepIn→Bi,subIn→BF,mg_none_of→BH,mg_of→BM,kitOne→BW,fnOf→BX,specialIn→B2,mroIn→B7,kia_one→Cb,looks_findIn→Cc,emptyDict→Cv,fencedOpening→CG,typeIn→Dh,instObj→Dj,clsIn→Dp,isFn→Dx,codeIn→D0,callWith_K→En,openEnds→Ev,plainGet→ER,topFrom→E4,findCls→Fn,readsIn→Fo,hasDictIn→FK,OpenLaw→FV,plainGet_of→Gy,lookIn→GC,methodObj→G8,plainOver→G9,makesIn→HK,takerIn→HL,takesIn→HM,kitAny→Ij,excIn→IZ,WalkO→XS,cellsFrom_some→XU,codeRec_of→XV,handedIn→XX,isNs_of_in→XY,kIn_of→XZ,kitMeta→X1,kitx_dict→X2,kitx_list→X3,looks_subIn→X4,nsOkIn→X5,tail_of_in→X6
open PySem.Heap renaming get?_push_of_some→Au,lt_size→AK,get?_push_size→A3,get?_update_other→BU,get?_update_self→Cp,get?_none_of_le→CJ,size_push→Dt,SameBut→EF,MadeExcOf→Ii,ExtBut→Xh,get?_push_at→Xk,get?_update_ne→Xl
open List renaming mem_cons_of_mem→Aw,mem_cons_self→AF,mem_cons→AI,size_toArray→AN,length_set→AV,map_cons→A4,getElem?_eq_some_iff→A5,length_cons→A7,range→Ba,getElem?_eq_getElem→Bc,mem_singleton→Bf,mem_append_right→Bh,length_map→Bo,all_eq_true→Br,length_append→BS,lookup→BZ,lookup_cons→Cf,not_mem_nil→Ch,getElem?_map→Cn,getElem?_set_self→Cu,append_nil→CC,getD_eq_getElem?_getD→C4,length_singleton→De,all_cons→Dm,getElem_mem→Dr,mem_range→Ds,mem_append→DC,drop_eq_getElem_cons→DL,isEmpty_eq_false_iff→DM,all_map→D3,any_eq_true→D4,map_nil→D5,drop_eq_nil_of_le→Ep,toArray→EE,mem_append_left→EO,getElem_of_mem→E7,getElem?_append_left→Fj,getElem?_set_self'→FE,length_take→FZ,any_map→Gd,getElem?_set_ne→Ge,mem_filter→Gf,nodup_cons→Gg,filterMap_cons→Gw,length_pos_iff→Gx,replicate→GA,contains_cons→GO,findIdx?_cons→GP,any_cons→GX,getElem?_set→G6,filter_cons→Hg,length_drop→Hh,of_mem_zip→HH,append_assoc→VY,contains_eq_mem→VZ,ext_getElem?→V0,find?_cons→V1,findIdx?_append→V2,findIdx?_eq_some_iff_getElem→V3,findIdx?_map→V4,forIn_nil→V5,getElem?_append_right→V6,getElem?_replicate→V7,length→V8,length_replicate→V9,map_append→Wa,map_map→Wb,mem_map→Wc,mem_of_getElem?→Wd,range_succ_eq_map→Wf,reverse_cons→Wg,set_set→Wh,take_append_drop→Wi
open Nat renaming le_refl→AL,lt_of_lt_of_le→AQ,ne_of_lt→Bm,lt_irrefl→Bw,le_trans→By,le_of_ble_eq_true→BD,ble→Dl,zero_le→DW,lt_of_le_of_lt→Ej,lt_succ_self→F0,mod_eq_of_lt→F1,le_of_lt→Gh,lt_succ_of_lt→G7,log2_le_self→Hi,ne_of_gt→Hj,zero_add→Hk,ble_eq→Io,le_succ→JJ,le_of_eq→Wj,min_self→Wk,not_lt→Wl,not_lt_zero→Wm
open PySem.W.Fast renaming te10274390034422433532→AX,te14082659384304107361→AY,te14289696077712309145→AZ,te14364793385576792824→A1,te1435165496053646825→A6
open False renaming elim→A8
open PySem.Value renaming ref→Bk,builtin→Ct,none→CD,bool→Ip,int→Jh,str→Ji,float→JK,type→Kf,bytes→XM
open Option.some renaming inj→Bl
open PySem.NameKind renaming cell→BL,free→DH
open Int renaming emod_eq_of_lt→BO,emod_lt_of_pos→BR,emod_nonneg→B9,emod_emod_of_dvd→CH,mul_emod→CW,eq_ofNat_of_zero_le→Ec,dvd_refl→EC,mul_comm→ED,zero_emod→EZ,one_mul→GN,mul_assoc→GW,zero_add→Jc,add_emod→VP,le_refl→VQ,le_trans→VR,mul_one→VS,mul_zero→VT,ne_of_gt→VU,sub_zero→VV,toNat_natCast→VW
open PySem.Obj renaming data_mapFields→Ca,isFreed_of_fields→Dg,mapFields→E2,cls_mapFields→Xm,mapSeq→Xn
open Array renaming getElem?_eq_getElem→Cm,getElem?_eq_some_iff→EY,length_toList→E6,getElem?_toList→Ga,toList→Ja,find?_toList→VJ,mem_toList_iff→VL,size_append→VM
open Ne renaming symm→CI
open PySem.F renaming excBase_ValueError→C7,slot_tuple_iterator_next→DG,slot_str_split→Er,args_str_split_2→Fp,entry_str_split→FF,attr_ValueError→FH,args_tuple_add_2→W6,args_tuple_iterator_next_1→W7,entry_bexc_ga→W8,entry_tuple_add→W9,entry_tuple_iterator_next→Xa,plainAttrs_list→Xb,plainAttrs_str→Xc,slot_list_index→Xd,slot_str_join→Xe,slot_tuple_add→Xf,typeOf_object_class→Xg
open Classical renaming choose_spec→Dd,choose→Hf
open PyProof.Rows renaming callWith_type1→Dv,envOfC→Ek,boot_isinstance→Fk,AllBare→FA,IntsAre→Ih,IsTup→Kb,boot_list→Wq,boot_str→Wr,boot_tuple→Ws,slicePart_none→Wt,slot_tuple_getitem→Wu,subscriptTail_builtinR→Wv
open PySem.PyData renaming shownAll→DE,depthAll→HJ,hasDictAll→Xp,showableAll→Xq
open PySem.Builtin.Slice renaming slicePlaces→DO,sliceAdjust→Fl,sliceApplied→Wy
open PySem.Builtin.SmallTypes renaming nextOf→DP
open PySem.Builtin.Tuple renaming tupleExact→D6
open PySem.Builtin.Str renaming occurrences→Ed,strSliceIndices→EN,strKind→E8,partsBetween→Wz
open ForInStep renaming yield→Ei
open PySem.SeqAt renaming EqAt→El,RcNeAt→Jg,RcAt→Kd
open PySem.Txt renaming split→Em,join→Eu
open PySem.Calls renaming evalArgs_plain→EQ,Name_function_global→WA,callWith_builtin→WB
open True renaming intro→FD
open PySem.Code renaming quiet_builtin→GQ,isFrame→Je,frames→WC
open Sum renaming inl→Hd,inr→He
open PySem.Value.ref renaming inj→IY
open PySem.Around renaming under→Jd
open NeZero renaming ne→K6
open PyProof.Rows.IsTup renaming new→K7
open PySem.Data renaming cell→K8,seq→Lb
open Prod renaming ext→La
open Function renaming comp_def→VO
open PySem.Builtin.Int renaming intBits→Ww
open PySem.Builtin.ObjectAttr renaming storeInDict→Wx
open PySem.EntryCells renaming newEntry→WD
open PySem.Expr renaming Attribute→WE,BinOp→WG,BoolOp→WI,Call→WK,Compare→WM,Constant→WO,List→WQ,ListComp→WT,Name→WV,Slice→WX,Subscript→WZ,Tuple→W2,UnaryOp→W4
open PySem.Expr.Attribute renaming elim→WF
open PySem.Expr.BinOp renaming elim→WH
open PySem.Expr.BoolOp renaming elim→WJ
open PySem.Expr.Call renaming elim→WL
open PySem.Expr.Compare renaming elim→WN
open PySem.Expr.Constant renaming elim→WP
open PySem.Expr.List renaming elim→WR
open PySem.Expr.ListComp renaming elim→WU
open PySem.Expr.Name renaming elim→WW
open PySem.Expr.Slice renaming elim→WY
open PySem.Expr.Subscript renaming elim→W1
open PySem.Expr.Tuple renaming elim→W3
open PySem.Expr.UnaryOp renaming elim→W5
open PySem.Heap.Ns1 renaming of_empty→Xi
open PySem.Heap.SameBut renaming update→Xj
open PySem.Paired renaming length→Xo
open PySem.SeqAt.EqAt renaming of_refs→Xr,same→Xs
open PySem.Stmt renaming Assign→Xu,Expr→Xx,Raise→XD,Return→XG,While→XI
open PySem.Stmt.Assign renaming elim→Xv
open PySem.Stmt.Expr renaming elim→Xy
open PySem.Stmt.For renaming elim→Xz
open PySem.Stmt.If renaming elim→XC
open PySem.Stmt.Raise renaming elim→XF
open PySem.Stmt.Return renaming elim→XH
open PySem.Stmt.While renaming elim→XJ
open PySem.W.WData renaming int→XN
open PySem.W.WShape renaming has→XQ
open PySem.Walks renaming list→X7
abbrev Fg:=PySem.W.Frag
abbrev Pn:=Ac (PySem.Addr×PySem.Obj)
abbrev Vq:=PySem.Value->PySem.Shared->Prop
set_option genSizeOfSpec false
section
open PySem PySem.W PyProof.Rows
namespace OvC
set_option genInjectivity false in
structure Eleven (P:Prop) where
 (α1 α2 α3 α4 α5 α6 α7 α8 α9 α10 α11:Type)
 (l1 r1:AA->α1)
 (l2 r2:AA->α2)
 (l3 r3:AA->α3)
 (l4 r4:AA->α4)
 (l5 r5:AA->α5)
 (l6 r6:AA->α6)
 (l7 r7:AA->α7)
 (l8 r8:AA->α8)
 (l9 r9:AA->α9)
 (l10 r10:AA->α10)
 (l11 r11:AA->α11)
 X:Prop
 go:(∀ w,l1 w=r1 w)->(∀ w,l2 w=r2 w)->(∀ w,l3 w=r3 w)->(∀ w,l4 w=r4 w)->(∀ w,l5 w=r5 w)->(∀ w,l6 w=r6 w)->(∀ w,l7 w=r7 w)->(∀ w,l8 w=r8 w)->(∀ w,l9 w=r9 w)->(∀ w,l10 w=r10 w)->(∀ w,l11 w=r11 w)->X->P
theorem map_pair{Y α β:Type}{A:Y->α}{B:Y->β}{r:Ao Y}{a:α}{b:β}(h1:Fx A r=Aa a)(h2:Fx B r=Aa b):Fx (λs=>(A s,B s)) r=Aa (a,b):=by
 cases r with
 |none=>cases h1
 |some s=>cases h1;cases h2;rfl
theorem map_take{Y α:Type}{B:Y->Ac α}{r:Ao Y}{v:Ac α}(n:Af)(h1:Fx (λs=>(B s).take n) r=Aa (v.take n))(h2:Fx (λs=>(B s).drop n) r=Aa (v.drop n)):Fx B r=Aa v:=by
 cases r with
 |none=>cases h1
 |some s=>
  have e1:(B s).take n=v.take n:=by injection h1
  have e2:(B s).drop n=v.drop n:=by injection h2
  show Aa (B s)=Aa v;rw[<-Wi n (B s),<-Wi n v,e1,e2]
end OvC
namespace OvC
noncomputable def tp08(i:Af):AJ:=PySem.Challenge.pw_ovalfield_k08_rows_refused.main.body.getD i (.Pass ⟨0,0,0,0⟩)
end OvC
noncomputable def OvC.view08:PySem.Program:={ PySem.Challenge.pw_ovalfield_k08_rows_refused with main:={PySem.Challenge.pw_ovalfield_k08_rows_refused.main with body:=[OvC.tp08 0,OvC.tp08 2,OvC.tp08 3,OvC.tp08 4,OvC.tp08 5,OvC.tp08 6,OvC.tp08 7,OvC.tp08 9,OvC.tp08 10,OvC.tp08 12,OvC.tp08 13,OvC.tp08 14,OvC.tp08 15,OvC.tp08 17,OvC.tp08 18,OvC.tp08 19,OvC.tp08 20,OvC.tp08 21,OvC.tp08 23,OvC.tp08 24,OvC.tp08 25,OvC.tp08 26,OvC.tp08 27,OvC.tp08 28,OvC.tp08 29,OvC.tp08 30,OvC.tp08 31,OvC.tp08 32,OvC.tp08 33,OvC.tp08 34,OvC.tp08 35,OvC.tp08 36]} }
set_option hygiene false
local macro_rules | `(tactic| o_head $H)=>`(tactic| refine holds_open (q:=OvC.view08) (loose:=[]) (Xt:=fun s=>xlAt OvC.view08 [] s&&recOk (RowW.records (OpenRow.toRowW (PySem.Challenge.rw_ovalfield_k08_rows_refused.row))) s) (XP:=XL OvC.view08 []) (Yf:=Hook.obs $H) (Ya:=Hook.val $H) (YP:=Hook.says $H) (N:=5992) ?hl (Hook.of $H) (Hook.keeps $H) (fun s e=>xl_of s (Bool.and_eq_true_iff.mp e).1) XL.keeps (by rfl) (by rfl) (by rfl) (fun s e=>recFacts_of (Bool.and_eq_true_iff.mp e).2) (by rfl) (by first|assumption|decide +kernel) (by decide +kernel) ⟨rfl,rfl,rfl,rfl,rfl,by decide +kernel⟩ ?hw ?hc)
set_option maxRecDepth 100000 in
set_option maxHeartbeats 0 in
noncomputable def OvC.hold08:OvC.Eleven PySem.Challenge.rw_ovalfield_k08_rows_refused.Holds:=by
 refine' ⟨_,_,_,_,_,_,_,_,_,_,_,_,_,_,_,_,_,_,_,_,_,_,_,_,_,_,_,_,_,_,_,_,_,_,λg1 g2 g3 g4 g5 g6 g7 g8 g9 g10 g11 x=>_⟩
 rotate_right
 w_on;refine holds_law (by decide+kernel) λsaid=>?_;k_head
 (case hl=>intro w;refine OvC.map_pair ?p1 (OvC.map_take 100 ?p2 ?p3);(case p1=>rw[PySem.W.Fast.te4187177175401517315];unfold PySem.W.Fast.tw4187177175401517315 openGood;refine OvC.map_pair ?q1 (OvC.map_pair ?q2 (OvC.map_pair ?q3 (OvC.map_pair ?q4 (OvC.map_pair ?q5 (OvC.map_pair ?q6 (OvC.map_pair ?q7 (OvC.map_pair ?q8 ?q9)))))));(case q1=>unfold Ev CG E4;rw[AX,A1,A6,AZ,AY];exact g1 w);(case q2=>unfold Ev CG E4;rw[AX,A1,A6,AZ,AY];exact g2 w);(case q3=>unfold Ev CG E4;rw[AX,A1,A6,AZ,AY];exact g3 w);(case q4=>unfold Ev CG E4;rw[AX,A1,A6,AZ,AY];exact g4 w);(case q5=>unfold Ev CG E4;rw[AX,A1,A6,AZ,AY];exact g5 w);(case q6=>unfold Ev CG E4;rw[AX,A1,A6,AZ,AY];exact g6 w);(case q7=>unfold Ev CG E4;rw[AX,A1,A6,AZ,AY];exact g7 w);(case q8=>unfold Ev CG E4;rw[AX,A1,A6,AZ,AY];exact g8 w);(case q9=>unfold Ev CG E4;rw[AX,A1,A6,AZ,AY];exact g9 w);skip);(case p2=>unfold Ev CG E4;rw[AX,A1,A6,AZ,AY];exact g10 w);(case p3=>unfold Ev CG E4;rw[AX,A1,A6,AZ,AY];exact g11 w))
 (case hw=>w_witness2)
 k_fill
 revert said
 exact x
theorem OvC.reck08_1(w:AA):OvC.hold08.l1 w=OvC.hold08.r1 w:=by kernel_rfl
theorem OvC.reck08_2(w:AA):OvC.hold08.l2 w=OvC.hold08.r2 w:=by kernel_rfl
theorem OvC.reck08_3(w:AA):OvC.hold08.l3 w=OvC.hold08.r3 w:=by kernel_rfl
theorem OvC.reck08_4(w:AA):OvC.hold08.l4 w=OvC.hold08.r4 w:=by kernel_rfl
theorem OvC.reck08_5(w:AA):OvC.hold08.l5 w=OvC.hold08.r5 w:=by kernel_rfl
theorem OvC.reck08_6(w:AA):OvC.hold08.l6 w=OvC.hold08.r6 w:=by kernel_rfl
theorem OvC.reck08_7(w:AA):OvC.hold08.l7 w=OvC.hold08.r7 w:=by kernel_rfl
theorem OvC.reck08_8(w:AA):OvC.hold08.l8 w=OvC.hold08.r8 w:=by kernel_rfl
theorem OvC.reck08_9(w:AA):OvC.hold08.l9 w=OvC.hold08.r9 w:=by kernel_rfl
theorem OvC.reck08_10(w:AA):OvC.hold08.l10 w=OvC.hold08.r10 w:=by kernel_rfl
theorem OvC.reck08_11(w:AA):OvC.hold08.l11 w=OvC.hold08.r11 w:=by kernel_rfl
end
-- CHANGE: your row's module here,as the last of these rows
namespace L2
open PySem PySem.Spec PyProof.Rows
abbrev Key:=Sum Ah Ag
noncomputable def UH:Key->Aj->Am
 |.inl k,v=>Value.isInt k v
 |.inr x,v=>Value.isStrOf x v
noncomputable def YB(w:AA):Key->Ah
 |.inl k=>hashInt k
 |.inr x=>hashStr w x
theorem IB:∀{k:Key}{v:Aj},UH k v=Ab->(∃ i t,k=Hd i/\v=Jh i t)\/(∃ x t,k=He x/\v=Ji x t)
 |.inl i,v,h=>by
  obtain⟨t,e⟩:=Value.isInt_shape (k:=i) (v:=v) h;exact .inl ⟨i,t,rfl,e⟩
 |.inr x,v,h=>by
  obtain⟨t,e⟩:=Value.isStrOf_shape (x:=x) (v:=v) h;exact .inr ⟨x,t,rfl,e⟩
theorem nS(a b:Ah):decide ((Hd a:Key)=Hd b)=(a==b):=by
 by_cases e:a=b
 .subst e;simp
 .have h:¬ (Hd a:Key)=Hd b:=λq=>e (Sum.inl.inj q)
  rw[CU h];exact(CV.mpr e).symm
theorem nP(a b:Ag):decide ((He a:Key)=He b)=decide (a=b):=by
 by_cases e:a=b
 .subst e;simp
 .have h:¬ (He a:Key)=He b:=λq=>e (Sum.inr.inj q)
  rw[CU h,CU e]
theorem nR(a:Ah)(b:Ag):decide ((Hd a:Key)=He b)=Ad:=CU (λq=>nomatch q)
theorem nQ(a:Ag)(b:Ah):decide ((He a:Key)=Hd b)=Ad:=CU (λq=>nomatch q)
noncomputable def OO(prog:AM)(w:AA):PySem.KeyKind prog w Key where
 is:=UH
 hash:=YB w
 inj:=λv a b ha hb=>by
  rcases IB ha with ⟨i,t,rfl,rfl⟩|⟨x,t,rfl,rfl⟩
  .rcases IB hb with ⟨j,u,rfl,e⟩|⟨y,u,rfl,e⟩
   .injection e with e1 _;rw[e1]
   .exact nomatch e
  .rcases IB hb with ⟨j,u,rfl,e⟩|⟨y,u,rfl,e⟩
   .exact nomatch e
   .injection e with e1 _;rw[e1]
 byValue:=λk v h=>by
  rcases IB h with ⟨i,t,rfl,rfl⟩|⟨x,t,rfl,rfl⟩<;>rfl
 pyHash:=λhv h=>by
  rcases IB hv with ⟨i,t,rfl,rfl⟩|⟨x,t,rfl,rfl⟩
  .exact wpAny_pyHash_int h
  .exact wpAny_pyHash_str h
 eqBool:=λhu hv h=>by
  rcases IB hu with ⟨i,t,rfl,rfl⟩|⟨x,t,rfl,rfl⟩
  .rcases IB hv with ⟨j,u,rfl,rfl⟩|⟨y,u,rfl,rfl⟩
   .rw[nS]at h;exact wpAny_eqBool_int h
   .rw[nR]at h;exact SeqAt.EqAt.int_str i t y u _ _ _ _ h
  .rcases IB hv with ⟨j,u,rfl,rfl⟩|⟨y,u,rfl,rfl⟩
   .rw[nQ]at h;exact SeqAt.EqAt.str_int x t j u _ _ _ _ h
   .rw[nP]at h;exact wpAny_eqBool_str h
 «strs»:=λk x t v h=>by
  rcases IB h with ⟨i,u,rfl,e⟩|⟨y,u,rfl,e⟩
  .exact nomatch e
  .injection e with e1 _
   subst e1;cases v<;>rfl
end L2
namespace L2
open PySem PySem.Spec PyProof.Rows
variable{us:Ac Aj}{a b it dx C:Ak}{P:AM}{h:AG}{o:C9}{g':Bg Et}{t' i k n:Af}{d':HI}{ch fp:Ac Ak}{x qual:Ag}{M:Gi}{u:Aj}{Q:DI->Ap->Prop}{e c tg:An}{s:Ap}{pos p:AD}{pI:Pn}{es:Ac An}{body:Ac AJ}{f:Aj->Aj->FJ Aj}{g:Ah->Ah->Ah}{op:C5}{mA:Ag->Ao Aj}{pl:FJ Am}{kw:Ac (Ag×Aj)}{fd:BE}{ps:Ac Ag}{scope:BN}
inductive V where
 |non|bl (b:Am)|int (i:Ah)|str (x:Ag)|byt (b:Bg UInt8)|flt (b:UInt64)|ref (a:Ak)|ty (n:CZ)
 deriving DecidableEq
variable{xs vs:Ac V}{v y:V}
def Bu:V->Aj->Prop
 |.non,u=>u=CD
 |.bl b,u=>u=Ip b
 |.int i,u=>∃ t,u=Jh i t
 |.str x,u=>∃ t,u=Ji x t
 |.byt b,u=>∃ t,u=XM b t
 |.flt b,u=>∃ t,u=JK b t
 |.ref a,u=>u=Bk a
 |.ty n,u=>u=Kf n
noncomputable abbrev A2:Ac V->Ac Aj->Prop:=Hm Bu
theorem A2.length(r:A2 xs us):xs.length=us.length:=Xo r
theorem A2.get:∀{xs:Ac V}{us:Ac Aj}{i:Af}{x:V},A2 xs us->xs[i]?=Aa x->∃ u,us[i]?=Aa u/\Bu x u
 |_,_,_,_,.nil,e=>by simp at e
 |_,_,0,_,.cons r _,e=>by simp at e;subst e;exact⟨_,rfl,r⟩
 |_,_,i+1,x,.cons _ t,e=>by
  obtain⟨u,h1,h2⟩:=A2.get (i:=i) (x:=x) t (by simpa using e)
  exact⟨u,by simpa using h1,h2⟩
theorem A2.set{x:V}{u:Aj}(r:Bu x u):∀{xs:Ac V}{us:Ac Aj}(i:Af),A2 xs us->A2 (xs.set i x) (us.set i u)
 |_,_,_,.nil=>.nil
 |_,_,0,.cons _ t=>.cons r t
 |_,_,i+1,.cons q t=>.cons q (A2.set r i t)
theorem A2.append:∀{xs ys:Ac V}{us ws:Ac Aj},A2 xs us->A2 ys ws->A2 (xs++ys) (us++ws)
 |_,_,_,_,.nil,s=>s
 |_,_,_,_,.cons r t,s=>.cons r (A2.append t s)
theorem A2.take:∀{xs:Ac V}{us:Ac Aj}(n:Af),A2 xs us->A2 (xs.take n) (us.take n)
 |_,_,0,_=>.nil
 |_,_,_+1,.nil=>.nil
 |_,_,n+1,.cons r t=>.cons r (A2.take n t)
theorem A2.drop:∀{xs:Ac V}{us:Ac Aj}(n:Af),A2 xs us->A2 (xs.drop n) (us.drop n)
 |_,_,0,r=>r
 |_,_,_+1,.nil=>.nil
 |_,_,n+1,.cons _ t=>A2.drop n t
def HE:Ao V->Ao Aj->Prop
 |some v,Aa u=>Bu v u
 |none,Ae=>Hs
 |_,_=>AW
def KV{κ:Type}:Ac (κ×V)->Ac (κ×Aj)->Prop:=Hm fun(p:κ×V)(q:κ×Aj)=>p.1=q.1/\Bu p.2 q.2
noncomputable def kV:Key->V
 |.inl i=>.int i
 |.inr x=>.str x
inductive HO where
 /-- a list -/
 |lst (xs:Ac V)
 /-- a tuple (never changes) -/
 |tup (xs:Ac V)
 /-- a dict whose keys are ints and texts;one whose keys are tuples of ints and texts (the empty one is both) -/
 |dK (kvs:Ac (Key×V))|dT (kvs:Ac (Ac Key×V))
 /-- a set of ints: its members,its size -/
 |set (S:Ah->Am) (n:Af)
 /-- an instance of the class at C,its dict at dx,its attributes -/
 |ins (C dx:Ak) (fs:Ac (Ag×V))
 /-- the dict of the instance at x -/
 |own (x:Ak)
 /-- the dict of an exception -/
 |xd (fs:Ac (Ag×V))
 /-- a bound method,f of x -/
 |met (f x:Ak)
 /-- a range object lo,lo+1,.. below hi -/
 |rng (lo hi:Ah)
 /-- a thing that is known to the object (the script;a dict while a loop walks it): read,never written while it is so -/
 |frz (o:C9) (u:HO)
 /-- a code object's table -/
 |tbl (ps:Bg Aj)
 /-- any other thing,by what is Ab of its one object (a def of one's own: SetO a S n:=HO.ext fun h=>..) -/
 |ext (φ:AG->Prop)
abbrev Hp:=Ak->Ao HO
variable{H:Hp}
noncomputable def upd(H:Hp)(a:Ak)(o:HO):Hp:=λb=>if b=a then Aa o else H b
theorem DJ{o:HO}:upd H a o a=Aa o:=by unfold upd;rw[At rfl]
theorem Bj{o:HO}(h:b≠a):upd H a o b=H b:=by unfold upd;rw[AC h]
theorem OR{o u:HO}:upd (upd H a o) a u=upd H a u:=by
 funext b;unfold upd;split<;>rfl
theorem FO{o:HO}(h:H a=Aa o)(h':H b=Ae):a≠b:=by
 intro e;subst e;rw[h]at h';cases h'
section
variable(P:AM)(w:AA)
def ObjOk(H:Hp)(h:AG)(a:Ak):HO->Prop
  |.lst xs=>xs.length<=sizeLine/\∃(its:Ac Aj)(n:Af),A2 xs its/\h.get? a=Aa { cls:=.type "list",data:=.seq its.toArray n }
  |.tup xs=>xs.length<=sizeLine/\∃ its:Ac Aj,A2 xs its/\Kb h a its.toArray
  |.dK kvs=>kvs.length<=sizeLine/\(a==Kh)=Ad/\∃ vs,KV kvs vs/\h.DictOf (OO P w) a vs
  |.dT kvs=>kvs.length<=sizeLine/\(a==Kh)=Ad/\∃ xs:Ac (Ac Key×Ak×Aj),
      Hm (fun(p:Ac Key×V)(q:Ac Key×Ak×Aj)=>p.1=q.1/\H q.2.1=Aa (.tup (p.1.map kV))/\Bu p.2 q.2.2) kvs xs /\
      ∃ o es ep,h.get? a=Aa o/\o.ExactDict/\o.data=.dict es ep/\es.toList=xs.map (entryOfKey (tupleKind (OO P w)))/\(xs.map (·.1)).Nodup
  |.set S n=>h.SetOf (intKind P w) a S n
  |.ins C dx fs=>H dx=Aa (.own a)/\fs.length<=1000/\dx≠a/\h.get? a=Aa (Dj C dx) /\
      ∃ mA,h.Ns1 dx mA/\(∀ f,HE (fs.lookup f) (mA f))/\Jj mA (fs.map (·.1))
  |.own _=>∃ o,h.get? a=Aa o
  |.xd fs=>∃ mA,h.Ns1 a mA/\∀ f,HE (fs.lookup f) (mA f)
  |.rng lo hi=>∃ t u v,h.get? a=Aa { cls:=.type "range",data:=.fields #[.int lo t,.int hi u,.int 1 v] }
  |.frz o u=>h.get? a=Aa o/\ObjOk H h a u
  |.tbl ps=>h.get? a=Aa {cls:=.none,data:=.fields ps}
  |.met f x=>h.get? a=Aa (G8 (.ref f) (.ref x))
  |.ext φ=>φ h/\(∃ o,h.get? a=Aa o)/\∀ h1 h2:AG,φ h1->(∀ o,h1.get? a=Aa o->h2.get? a=Aa o)->φ h2
def HOk(H:Hp)(h:AG):Prop:=∀ a o,H a=Aa o->ObjOk P w H h a o
end
section
variable{P:AM}{w:AA}{H H':Hp}{h h':AG}{a:Ak}{o:HO}
theorem ObjOk.lt(x:ObjOk P w H h a o):a<h.objs.size:=by
 cases o with
 |lst xs=>obtain⟨_,_,_,_,e⟩:=x;exact AK e
 |tup xs=>obtain⟨_,_,_,p⟩:=x;exact p.lt
 |dK kvs=>obtain⟨_,_,_,_,o,_,_,e,_⟩:=x;exact AK e
 |dT kvs=>obtain⟨_,_,_,_,o,_,_,e,_⟩:=x;exact AK e
 |set S n=>obtain⟨o,_,_,_,e,_⟩:=x;exact AK e
 |ins C dx fs=>obtain⟨_,_,_,e,_⟩:=x;exact AK e
 |own y=>obtain⟨_,e⟩:=x;exact AK e
 |xd fs=>obtain⟨_,⟨_,_,_,e,_⟩,_⟩:=x;exact AK e
 |rng lo hi=>obtain⟨_,_,_,e⟩:=x;exact AK e
 |frz ob u=>obtain⟨e,_⟩:=x;exact AK e
 |tbl ps=>exact AK (show h.get? a=Aa _ from x)
 |met f y=>exact AK (show h.get? a=Aa _ from x)
 |ext φ=>obtain⟨_,⟨_,e⟩,_⟩:=x;exact AK e
theorem Hm.mapP{α β:Type}{F G:α->β->Prop}:∀{l₁:Ac α}{l₂:Ac β},Hm F l₁ l₂->(∀ a b,F a b->G a b)->Hm G l₁ l₂
 |_,_,.nil,_=>.nil
 |_,_,.cons r t,f=>.cons (f _ _ r) (Hm.mapP t f)
theorem ObjOk.stay(x:ObjOk P w H h a o)(k:∀ b u,(b=a\/H b=Aa (.own a))->h.get? b=Aa u->h'.get? b=Aa u)(ho:∀ b,H b=Aa (.own a)->H' b=Aa (.own a))(ht:∀ b xs,H b=Aa (.tup xs)->H' b=Aa (.tup xs)):ObjOk P w H' h' a o:=by
 induction o with
 |lst xs=>obtain⟨z,its,n,r,e⟩:=x;exact⟨z,its,n,r,k _ _ (.inl rfl) e⟩
 |tup xs=>obtain⟨z,its,r,ob,e,c⟩:=x;exact⟨z,its,r,ob,k _ _ (.inl rfl) e,c⟩
 |dK kvs=>obtain⟨z,y,vs,r,ob,es,ep,e,c⟩:=x;exact⟨z,y,vs,r,ob,es,ep,k _ _ (.inl rfl) e,c⟩
 |dT kvs=>
  obtain⟨z,y,xs,r,ob,es,ep,e,c⟩:=x;exact⟨z,y,xs,Hm.mapP r λp q z=>⟨z.1,ht _ _ z.2.1,z.2.2⟩,ob,es,ep,k _ _ (.inl rfl) e,c⟩
 |set S n=>obtain⟨ob,es,ep,t,e,c⟩:=x;exact⟨ob,es,ep,t,k _ _ (.inl rfl) e,c⟩
 |ins C dx fs=>
  obtain⟨d,z,ne,e,mA,⟨od,es,ep,e2,c⟩,r⟩:=x;exact⟨ho _ d,z,ne,k _ _ (.inl rfl) e,mA,⟨od,es,ep,k _ _ (.inr d) e2,c⟩,r⟩
 |own y=>obtain⟨ob,e⟩:=x;exact⟨ob,k _ _ (.inl rfl) e⟩
 |xd fs=>obtain⟨mA,⟨od,es,ep,e,c⟩,r⟩:=x;exact⟨mA,⟨od,es,ep,k _ _ (.inl rfl) e,c⟩,r⟩
 |rng lo hi=>obtain⟨t,u,v,e⟩:=x;exact⟨t,u,v,k _ _ (.inl rfl) e⟩
 |frz ob u ih=>obtain⟨e,q⟩:=x;exact⟨k _ _ (.inl rfl) e,ih q⟩
 |tbl ps=>
  have e:h.get? a=Aa {cls:=.none,data:=.fields ps}:=x;show h'.get? a=Aa {cls:=.none,data:=.fields ps};exact k a _ (.inl rfl) e
 |met f y=>
  have e:h.get? a=Aa (G8 (.ref f) (.ref y)):=x;show h'.get? a=Aa (G8 (.ref f) (.ref y));exact k a _ (.inl rfl) e
 |ext φ=>obtain⟨p,⟨o,e⟩,st⟩:=x;exact⟨st _ _ p λo q=>k _ _ (.inl rfl) q,⟨o,k _ _ (.inl rfl) e⟩,st⟩
theorem HOk.lt(x:HOk P w H h)(e:H a=Aa o):a<h.objs.size:=(x a o e).lt
theorem HOk.fresh(x:HOk P w H h)(e:h.objs.size<=a):H a=Ae:=by
 cases q:H a with
 |none=>rfl
 |some u=>exact absurd (AQ (x.lt q) e) (Bw _)
theorem HOk.kept(x:HOk P w H h)(k:∀ b u,h.get? b=Aa u->h'.get? b=Aa u):HOk P w H h':=λa o e=>
 (x a o e).stay (λb u _ q=>k b u q) (λ_ q=>q) λ_ _ q=>q
theorem HOk.laid(x:HOk P w H h)(k:∀ b u,h.get? b=Aa u->h'.get? b=Aa u)(hp:h.objs.size<=a)(new:ObjOk P w (upd H a o) h' a o):HOk P w (upd H a o) h':=λb u e=>by
 have hn:=x.fresh hp;by_cases hb:b=a
 .subst hb;rw[DJ]at e;cases e;exact new
 .rw[Bj hb]at e;exact(x b u e).stay (λc v _ q=>k c v q) (λc q=>by rw[Bj (FO q hn)];exact q) λc xs q=>by rw[Bj (FO q hn)];exact q
end
def Rd(H:Hp)(a:Ak)(u:HO):Prop:=H a=Aa u\/∃ o,H a=Aa (.frz o u)
theorem Rd.ok{w:AA}{u:HO}(r:Rd H a u)(x:HOk P w H h):ObjOk P w H h a u:=by
 rcases r with r|⟨o,r⟩
 .exact x a u r
 .obtain⟨_,q⟩:=x a _ r;exact q
def Mut:Ao HO->Prop
 |some (.lst _)=>Hs
 |some (.dK _)=>Hs
 |some (.dT _)=>Hs
 |some (.set _ _)=>Hs
 |some (.ins _ _ _)=>Hs
 |some (.ext _)=>Hs
 |_=>AW
section
variable{P:AM}{w:AA}{H:Hp}{h h':AG}{x e:Ak}{o':HO}
theorem HOk.write(ok:HOk P w H h)(mu:Mut (H x))(he:e=x\/H e=Aa (.own x))(k:∀ b u,b≠e->h.get? b=Aa u->h'.get? b=Aa u)(heo:∃ u,h'.get? e=Aa u)(new:ObjOk P w (upd H x o') h' x o'):HOk P w (upd H x o') h':=λb u q=>by
 have nown:∀ c y,H c=Aa (.own y)->c≠x:=λc y r z=>by subst z;rw[r]at mu;exact mu
 have ntup:∀ c xs,H c=Aa (.tup xs)->c≠x:=λc xs r z=>by subst z;rw[r]at mu;exact mu
 by_cases hb:b=x
 .subst hb;rw[DJ]at q;cases q;exact new
 .rw[Bj hb]at q;by_cases hbe:b=e
  .have q':H b=Aa (.own x):=by
    rcases he with z|z
    .exact absurd (hbe.trans z) hb
    .rw[hbe];exact z
   rw[q]at q';cases q';obtain⟨v,hv⟩:=heo;exact⟨v,by rw[hbe];exact hv⟩
  .refine(ok b u q).stay (λc v hc r=>k c v ?_ r) (λc r=>by rw[Bj (nown c b r)];exact r) λc xs r=>by rw[Bj (ntup c xs r)];exact r
   rcases hc with rfl|hc
   .exact hbe
   .rintro rfl;rcases he with z|z
    .exact nown c b hc z
    .rw[hc]at z;cases z;exact hb rfl
end
structure Un (fs ex:Ac Ak) (H H':Hp) (h h':AG):Prop where
 keep:∀ b o,h.get? b=Aa o->H b=Ae->b∉fs->b∉ex->h'.get? b=Aa o
 slot:∀ b o,h.get? b=Aa o->H b=Ae->b∈fs->b∉ex->∃ sl,h'.get? b=Aa {o with slots:=sl}
 free:∀ b o,h.get? b=Aa o->H b=Ae->b∉ex->H' b=Ae
 there:∀ b o,h.get? b=Aa o->b∉ex->∃ o',h'.get? b=Aa o'
 tups:∀ b xs,H b=Aa (.tup xs)->H' b=Aa (.tup xs)
 frzs:∀ b o u,H b=Aa (.frz o u)->H' b=Aa (.frz o u)
 tbls:∀ b ps,H b=Aa (.tbl ps)->∃ more,H' b=Aa (.tbl (ps++more))
section
variable{fs fs' ex ex':Ac Ak}{H H1 H2:Hp}{h h1 h2 h':AG}{a x e:Ak}{o:HO}
theorem Un.any(u:Un fs ex H H1 h h1){ob:C9}(q:h.get? b=Aa ob)(n:H b=Ae)(hx:b∉ex):∃ sl,h1.get? b=Aa {ob with slots:=sl}:=by
 by_cases hb:b∈fs
 .exact u.slot b ob q n hb hx
 .exact⟨ob.slots,u.keep b ob q n hb hx⟩
theorem Un.kept(k:∀ b u,h.get? b=Aa u->h'.get? b=Aa u):Un fs ex H H h h':=
 ⟨λb ob q _ _ _=>k b ob q,λb ob q _ _ _=>⟨ob.slots,k b ob q⟩,λ_ _ _ n _=>n,λb ob q _=>⟨ob,k b ob q⟩,λ_ _ q=>q,λ_ _ _ q=>q,λ_ ps q=>⟨#[],by rw[q];simp⟩⟩
theorem Un.refl:Un fs ex H H h h:=Un.kept λ_ _ q=>q
theorem Un.laid(k:∀ b u,h.get? b=Aa u->h'.get? b=Aa u)(hp:h.objs.size<=a)(hn:H a=Ae):Un fs ex H (upd H a o) h h' where
 keep:=λb u q _ _ _=>k b u q
 slot:=λb u q _ _ _=>⟨u.slots,k b u q⟩
 free:=λb u q n _=>by rw[Bj (Bm (AQ (AK q) hp))];exact n
 there:=λb u q _=>⟨u,k b u q⟩
 tups:=λb xs q=>by rw[Bj (FO q hn)];exact q
 frzs:=λb u xs q=>by rw[Bj (FO q hn)];exact q
 tbls:=λb ps q=>⟨#[],by rw[Bj (FO q hn),q];simp⟩
theorem Un.write(mu:Mut (H x))(he:e=x\/H e=Aa (.own x))(k:∀ b u,b≠e->h.get? b=Aa u->h'.get? b=Aa u)(heo:∃ u,h'.get? e=Aa u):Un fs ex H (upd H x o) h h':=by
 have hx:∀ b,H b=Ae->b≠x:=λb n z=>by subst z;rw[n]at mu;exact mu
 have hb:∀ b,H b=Ae->b≠e:=λb n z=>by
  subst z;rcases he with r|r
  .exact hx b n r
  .rw[n]at r;cases r
 have hm:∀ b u,H b=Aa u->¬ Mut (Aa u)->b≠x:=λb u q nm z=>by subst z;rw[q]at mu;exact nm mu
 refine⟨λb u q n _ _=>k b u (hb b n) q,λb u q n _ _=>⟨u.slots,k b u (hb b n) q⟩,λb u q n _=>by rw[Bj (hx b n)];exact n,λb u q _=>?_,
  λb xs q=>by rw[Bj (hm b _ q λz=>z)];exact q,λb u xs q=>by rw[Bj (hm b _ q λz=>z)];exact q,λb ps q=>⟨#[],by rw[Bj (hm b _ q λz=>z),q];simp⟩⟩
 by_cases hbe:b=e
 .subst hbe;exact heo
 .exact⟨u,k b u hbe q⟩
end
noncomputable def trk(h:AG)(H:Hp):Ac Ak:=(Ba h.objs.size).filter λa=>(H a).isSome
noncomputable def IT(h:AG)(H:Hp):AG:=PySem.W.hideAll h (trk h H)
theorem Zy(h:AG)(H:Hp):(IT h H).objs.size=h.objs.size:=PySem.W.hideAll_size _ _
theorem bN(e:h.get? b=Aa o)(n:H b=Ae):(IT h H).get? b=Aa o:=
 PySem.W.hideAll_get _ e λhm=>by
  have q:(H b).isSome=Ab:=(Gf.mp hm).2;rw[n]at q;simp at q
theorem fR(e:(IT h H).get? b=Aa o):h.get? b=Aa o/\H b=Ae:=by
 have e':h.get? b=Aa o:=PySem.W.of_hideAll (trk h H) e;refine⟨e',?_⟩;cases q:H b with
 |none=>rfl
 |some x=>
  have hm:b∈trk h H:=Gf.mpr ⟨Ds.mpr (AK e'),by simp[q]⟩
  have z:(IT h H).get? b=Ae:=PySem.W.hideAll_none (trk h H) hm;rw[z]at e;cases e
noncomputable def iP(g h:AG)(L:Ak):Pn:=(Ba h.objs.size).filterMap λa=>if a=L\/(g.get? a).isSome=Ab then Ae else (h.get? a).map λo=>(a,o)
noncomputable def rest(g h:AG)(L d:Ak):Pn:=(iP g h L).filter λp=>decide (p.1≠d)
structure Mod (K:Fg) (mg:Ag->Ao Aj) (base:AG):Prop where
 kin:K.In base
 glob:base.Ns AR mg
 blt:∃ mb,base.Ns Iu mb/\∀ x:Ag,x≠"__name__"->mb x=CY x
 nolimit:base.NoLimit
structure Cx where
 prog:AM
 w:AA
 K:Fg
 mg:Ag->Ao Aj
 base:AG
 A:AU
 N:Ac Ag
 s₀:Ap
 H₀:Hp
 env:Ci
 outer:Ac Ci
 stack:Ac Ci
 ex:Ac Ak
 fn:Ag->Am
 calm:Am
 pn:Pn
 xe:Aj->Ap->Prop
variable{X:Cx}
noncomputable def frs(l:Ac Ci):Ac Ak:=l.filterMap (·.frame)
noncomputable abbrev Cx.fs(X:Cx):Ac Ak:=frs X.outer
def Vis(sc:BN)(x:Ag):Prop:=sc.names.lookup x=Aa .local\/sc.names.lookup x=Aa .cell\/sc.names.lookup x=Aa .free
def Loc(sc:BN)(x:Ag):Prop:=sc.names.lookup x=Aa .local\/sc.names.lookup x=Aa .cell
noncomputable def Yv(env:Ci)(h:AG)(m:Ag->Ao Aj)(x:Ag)(u:Aj):Prop:=
 (env.kindOf x=Aa .local/\m x=Aa u)\/((env.kindOf x=Aa .cell\/env.kindOf x=Aa .free)/\∃ c,env.cells.lookup x=Aa c/\h.IsCell c (Aa u))
structure Cx.Ok (X:Cx):Prop where
 mod:Mod X.K X.mg X.base
 kind:X.env.scope.kind=.function
 glob:X.env.globals=AR
 blt:X.env.builtins=Iu
 above:X.s₀.heap.objs.size<=X.env.locals
 inj:∀ x y c,X.env.cells.lookup x=Aa c->X.env.cells.lookup y=Aa c->x=y
 has:∀ x,(X.env.kindOf x=Aa .cell\/X.env.kindOf x=Aa .free)->∃ c,X.env.cells.lookup x=Aa c
 cab:∀ x c,X.fn x=Ab->X.env.cells.lookup x=Aa c->X.s₀.heap.objs.size<=c
 hd:X.calm=Ab->X.A.handled=Ae
 frames:X.A.frames=Aa X.stack
 stk:X.stack=X.outer\/(X.stack=X.env::X.outer/\X.env.frame=Aa X.env.locals)
 exf:∀ b∈X.ex,b≠X.env.locals/\∀ x c,X.env.cells.lookup x=Aa c->c≠b
 bs:∀ b o,X.base.get? b=Aa o->X.s₀.heap.get? b=Aa o/\X.H₀ b=Ae
 bsz:X.base.objs.size<=X.s₀.heap.objs.size
 noex:∀ b o,X.base.get? b=Aa o->b∉X.ex
 exfs:∀ b∈X.ex,b∉X.fs
 funs:X.s₀.heap.FunFrames X.base X.outer
 frf:∀ b∈X.fs,X.H₀ b=Ae
structure Inv (X:Cx) (pI:Pn) (Y:Ac (Ao V)) (H:Hp) (s:Ap):Prop where
 ok:X.Ok
 os:s.os=X.s₀.os
 bare:FA s.gens
 base:Un X.fs X.ex X.H₀ H X.s₀.heap s.heap
 loc:∃ m,s.heap.Ns X.env.locals m/\∀(i:Af)(x:Ag)(v:V),X.N[i]?=Aa x->Y[i]?=Aa (Aa v)->Vis X.env.scope x->∃ u,Bu v u/\Yv X.env s.heap m x u
 cell:∀ x c,X.env.cells.lookup x=Aa c->∃ v,s.heap.IsCell c v
 free:H X.env.locals=Ae
 freeC:∀ x c,X.env.cells.lookup x=Aa c->H c=Ae
 pin:∀ p∈X.pn++pI,s.heap.get? p.1=Aa p.2/\H p.1=Ae/\p.1≠X.env.locals/\p.1∉X.fs/\∀ v,p.2.data≠.cell v
 hok:HOk X.prog X.w H s.heap
 len:Y.length=X.N.length
section
variable{X:Cx}{pI:Pn}{Y:Ac (Ao V)}{H H':Hp}{s:Ap}{h':AG}
theorem Cx.Ok.nofr(ok:X.Ok)(e:X.base.get? b=Aa o):b∉X.fs:=λhb=>by
 have:=(ok.funs.mem hb).1;rw[e]at this;cases this
theorem Inv.bs(I:Inv X pI Y H s):∀ b o,X.base.get? b=Aa o->s.heap.get? b=Aa o/\H b=Ae:=λb o e=>
 ⟨I.base.keep b o (I.ok.bs b o e).1 (I.ok.bs b o e).2 (I.ok.nofr e) (I.ok.noex b o e),I.base.free b o (I.ok.bs b o e).1 (I.ok.bs b o e).2 (I.ok.noex b o e)⟩
theorem Inv.bk(I:Inv X pI Y H s):∀ b o,X.base.get? b=Aa o->s.heap.get? b=Aa o:=λb o e=>(I.bs b o e).1
theorem Inv.mod(I:Inv X pI Y H s):Mod X.K X.mg X.base:=I.ok.mod
theorem Inv.kIn(I:Inv X pI Y H s):X.K.In s.heap:=I.ok.mod.kin.keeps I.bk
theorem Inv.lt(I:Inv X pI Y H s):X.env.locals<s.heap.objs.size:=let ⟨_,hn,_⟩:=I.loc;hn.lt
theorem Inv.sz(I:Inv X pI Y H s):X.s₀.heap.objs.size<=s.heap.objs.size:=By I.ok.above (Gh I.lt)
theorem Inv.nofs(I:Inv X pI Y H s)(h:s.heap.objs.size<=a):a∉X.fs:=λhb=>by
 obtain⟨_,o,ho,_⟩:=I.ok.funs.mem hb;exact absurd (AQ (AK ho) (By I.sz h)) (Bw _)
theorem Inv.cne(I:Inv X pI Y H s):∀ x c,X.env.cells.lookup x=Aa c->c≠X.env.locals:=λx c e z=>by
 obtain⟨v,o,ho,hd⟩:=I.cell x c e;obtain⟨m,⟨o',es,ep,ho',hd',_⟩,_⟩:=I.loc;rw[z,ho']at ho;cases ho;rw[hd']at hd;cases hd
theorem Inv.funs(I:Inv X pI Y H s):s.heap.FunFrames X.base X.outer:=by
 have all:∀(l:Ac Ci),(∀ b∈frs l,b∈X.fs)->X.s₀.heap.FunFrames X.base l->s.heap.FunFrames X.base l:=by
  intro l
  induction l with
  |nil=>intro _ _;trivial
  |cons env r ih=>
   intro hs hl;obtain⟨hk,⟨L,o,hf,hn,ho,hd⟩,hr⟩:=hl;have hL:L∈X.fs:=hs L (by unfold frs;rw[Gw,hf];exact AF)
   obtain⟨sl,e⟩:=I.base.slot L o ho (I.ok.frf L hL) hL λz=>I.ok.exfs L z hL
   exact⟨hk,⟨L,_,hf,hn,e,hd⟩,ih (λb hb=>hs b (by unfold frs;rw[Gw,hf];exact Aw _ hb)) hr⟩
 exact all X.outer (λ_ hb=>hb) I.ok.funs
theorem Inv.stack(I:Inv X pI Y H s):s.heap.FunFrames X.base X.stack:=by
 rcases I.ok.stk with e|⟨e,hf⟩
 .rw[e];exact I.funs
 .rw[e];obtain⟨m,hn,_⟩:=I.loc;refine .cons (by rw[I.ok.kind];decide) hf hn ?_ I.funs
  exact CJ (By I.ok.bsz I.ok.above)
theorem Inv.stkSub(I:Inv X pI Y H s):∀ b∈frs X.stack,b∈X.env.locals::X.fs:=λb hb=>by
 rcases I.ok.stk with e|⟨e,hf⟩
 .rw[e]at hb;exact Aw _ hb
 .rw[e]at hb;unfold frs at hb;rw[Gw,hf]at hb;exact hb
theorem Inv.stkFree(I:Inv X pI Y H s):∀ b∈frs X.stack,H b=Ae:=λb hb=>by
 rcases AI.mp (I.stkSub b hb) with e|hb
 .rw[e];exact I.free
 .obtain⟨_,o,ho,_⟩:=I.ok.funs.mem hb;exact I.base.free b o ho (I.ok.frf b hb) λz=>I.ok.exfs b z hb
theorem Inv.step(I:Inv X pI Y H s)(hch:∀ b∈ch,(b∈X.ex\/X.s₀.heap.objs.size<=b)/\b≠X.env.locals/\(∀ x c,X.env.cells.lookup x=Aa c->c≠b)/\∀ p∈X.pn++pI,p.1≠b)(keep:∀ b o,b≠X.env.locals->b∉X.fs->b∉ch->s.heap.get? b=Aa o->H b=Ae->h'.get? b=Aa o)(slot:∀ b o,b≠X.env.locals->b∈X.fs->b∉ch->s.heap.get? b=Aa o->H b=Ae->∃ sl,h'.get? b=Aa {o with slots:=sl})(free:∀ b o,b∉ch->s.heap.get? b=Aa o->H b=Ae->H' b=Ae)(there:∀ b o,b∉ch->s.heap.get? b=Aa o->∃ o',h'.get? b=Aa o')(tups:∀ b xs,H b=Aa (.tup xs)->H' b=Aa (.tup xs))(frzs:∀ b o u,H b=Aa (.frz o u)->H' b=Aa (.frz o u))(tbls:∀ b ps,H b=Aa (.tbl ps)->∃ more,H' b=Aa (.tbl (ps++more)))(ns:∀ m,s.heap.Ns X.env.locals m->h'.Ns X.env.locals m)(hok:HOk X.prog X.w H' h')(hg:FA g'):Inv X pI Y H' {s with heap:=h',gens:=g',drawn:=d',toks:=t'}:=by
 have neL:∀ b o,X.s₀.heap.get? b=Aa o->b≠X.env.locals:=λb o e=>Bm (AQ (AK e) I.ok.above)
 have neC:∀ b o,X.s₀.heap.get? b=Aa o->b∉X.ex->b∉ch:=λb o e hx hb=>by
  rcases (hch b hb).1 with z|z
  .exact hx z
  .exact absurd (AQ (AK e) z) (Bw _)
 have cellK:∀ x c,X.env.cells.lookup x=Aa c->∀ v,s.heap.IsCell c v->h'.IsCell c v:=λx c e v ⟨o,ho,hd⟩=>by
  have nch:c∉ch:=λz=>(hch c z).2.2.1 x c e rfl
  by_cases hc:c∈X.fs
  .obtain⟨sl,q⟩:=slot c o (I.cne x c e) hc nch ho (I.freeC x c e);exact⟨_,q,hd⟩
  .exact⟨o,keep c o (I.cne x c e) hc nch ho (I.freeC x c e),hd⟩
 refine⟨I.ok,I.os,hg,⟨λb o e n hb hx=>?_,λb o e n hb hx=>?_,λb o e n hx=>?_,λb o e hx=>?_,λb xs e=>tups b xs (I.base.tups b xs e),λb o xs e=>frzs b o xs (I.base.frzs b o xs e),λb ps e=>?_⟩,?_,λx c e=>?_,?_,λx c e=>?_,λp hp=>?_,hok,I.len⟩
 .exact keep b o (neL b o e) hb (neC b o e hx) (I.base.keep b o e n hb hx) (I.base.free b o e n hx)
 .obtain⟨sl,e1⟩:=I.base.slot b o e n hb hx;obtain⟨sl',e2⟩:=slot b _ (neL b o e) hb (neC b o e hx) e1 (I.base.free b o e n hx);exact⟨sl',e2⟩
 .obtain⟨o',e1⟩:=I.base.there b o e hx;exact free b o' (neC b o e hx) e1 (I.base.free b o e n hx)
 .obtain⟨o',e1⟩:=I.base.there b o e hx;exact there b o' (neC b o e hx) e1
 .obtain⟨m1,e1⟩:=I.base.tbls b ps e;obtain⟨m2,e2⟩:=tbls b _ e1;exact⟨m1++m2,by rw[e2,Array.append_assoc]⟩
 .obtain⟨m,hn,hl⟩:=I.loc;refine⟨m,ns m hn,λi x v e1 e2 e3=>?_⟩
  obtain⟨u,r,l⟩:=hl i x v e1 e2 e3;refine⟨u,r,?_⟩;rcases l with l|⟨k,c,e,z⟩
  .exact .inl l
  .exact .inr ⟨k,c,e,cellK x c e _ z⟩
 .obtain⟨v,z⟩:=I.cell x c e;exact⟨v,cellK x c e v z⟩
 .obtain⟨m,⟨o,_,_,ho,_⟩,_⟩:=I.loc;exact free _ o (λz=>(hch _ z).2.1 rfl) ho I.free
 .obtain⟨v,o,ho,hd⟩:=I.cell x c e;exact free c o (λz=>(hch c z).2.2.1 x c e rfl) ho (I.freeC x c e)
 .obtain⟨e,n,ne,nf,d⟩:=I.pin p hp;have nch:p.1∉ch:=λz=>(hch p.1 z).2.2.2 p hp rfl
  exact⟨keep p.1 p.2 ne nf nch e n,free p.1 p.2 nch e n,ne,nf,d⟩
theorem Inv.un(I:Inv X pI Y H s)(u:Un X.fs [] H H' s.heap h')(hok:HOk X.prog X.w H' h'):Inv X pI Y H' {s with heap:=h',toks:=t'}:=by
 obtain⟨m,⟨o,es,ep,ho,r⟩,_⟩:=id I.loc;obtain⟨sl,hL⟩:=u.any ho I.free (by simp)
 exact I.step (g':=s.gens) (d':=s.drawn) (ch:=[]) (λ_ z=>nomatch z) (λb o _ hb _ e n=>u.keep b o e n hb (by simp)) (λb o _ hb _ e n=>u.slot b o e n hb (by simp)) (λb o _ e n=>u.free b o e n (by simp)) (λb o _ e=>u.there b o e (by simp)) u.tups u.frzs u.tbls (λm' hm=>by
  obtain⟨o',es',ep',ho',r'⟩:=hm;rw[ho]at ho';cases ho';exact⟨_,es',ep',hL,r'⟩) hok I.bare
theorem Inv.call(I:Inv X pI Y H s)(u:Un (frs X.stack) ch H H' s.heap h')(hok:HOk X.prog X.w H' h')(hg:FA g')(hch:∀ b∈ch,(b∈X.ex\/X.s₀.heap.objs.size<=b)/\b≠X.env.locals/\(∀ x c,X.env.cells.lookup x=Aa c->c≠b)/\∀ p∈X.pn++pI,p.1≠b):Inv X pI Y H' {s with heap:=h',gens:=g',drawn:=d',toks:=t'}:=by
 obtain⟨m,⟨o,es,ep,ho,r⟩,_⟩:=id I.loc;obtain⟨sl,hL⟩:=u.any ho I.free λz=>(hch _ z).2.1 rfl
 exact I.step (ch:=ch) hch (λb o hL hb hc e n=>u.keep b o e n (λz=>(AI.mp (I.stkSub b z)).elim hL hb) hc) (λb o _ _ hc e n=>u.any e n hc) (λb o hc e n=>u.free b o e n hc) (λb o hc e=>u.there b o e hc) u.tups u.frzs u.tbls (λm' hm=>by
  obtain⟨o',es',ep',ho',r'⟩:=hm;rw[ho]at ho';cases ho';exact⟨_,es',ep',hL,r'⟩) hok hg
theorem Inv.turned(I:Inv X pI Y H s)(k:∀ b o,b≠it->s.heap.get? b=Aa o->h'.get? b=Aa o)(hn:H it=Ae)(hL:it≠X.env.locals)(h1:it∈X.ex\/X.s₀.heap.objs.size<=it)(h2:∀ x c,X.env.cells.lookup x=Aa c->c≠it)(h3:∀ p∈X.pn++pI,p.1≠it):Inv X pI Y H {s with heap:=h',toks:=t'}:=by
 have nit:∀ b u,H b=Aa u->b≠it:=λb u e z=>by rw[z,hn]at e;cases e
 refine I.step (g':=s.gens) (d':=s.drawn) (ch:=[it]) (λb hb=>?_) (λb o _ _ hc e _=>k b o (λz=>hc (by simp[z])) e) (λb o _ _ hc e _=>⟨o.slots,k b o (λz=>hc (by simp[z])) e⟩) (λ_ _ _ _ n=>n)
  (λb o hc e=>⟨o,k b o (λz=>hc (by simp[z])) e⟩) (λ_ _ e=>e) (λ_ _ _ e=>e) (λb ps e=>⟨#[],by rw[e];simp⟩) (λm hm=>?_) (λb u e=>?_) I.bare
 .have e:b=it:=by simpa using hb
  subst e;exact⟨h1,hL,h2,h3⟩
 .obtain⟨o,es,ep,ho,r⟩:=hm;exact⟨o,es,ep,k _ o (CI hL) ho,r⟩
 .refine(I.hok b u e).stay (λc v hc q=>k c v ?_ q) (λ_ q=>q) λ_ _ q=>q
  rcases hc with z|z
  .rw[z];exact nit b u e
  .exact nit c _ z
theorem Inv.tok(I:Inv X pI Y H s)(t:Af):Inv X pI Y H {s with toks:=t}:=I.un (h':=s.heap) (t':=t) Un.refl I.hok
theorem Inv.kept{t':Af}(I:Inv X pI Y H s)(k:∀ b u,s.heap.get? b=Aa u->h'.get? b=Aa u):Inv X pI Y H {s with heap:=h',toks:=t'}:=I.un (Un.kept k) (I.hok.kept k)
theorem Inv.laid{a:Ak}{o:HO}{t':Af}(I:Inv X pI Y H s)(k:∀ b u,s.heap.get? b=Aa u->h'.get? b=Aa u)(hp:s.heap.objs.size<=a)(new:ObjOk X.prog X.w (upd H a o) h' a o):Inv X pI Y (upd H a o) {s with heap:=h',toks:=t'}:=I.un (Un.laid k hp (I.hok.fresh hp)) (I.hok.laid k hp new)
theorem Inv.write{x e:Ak}{o:HO}{t':Af}(I:Inv X pI Y H s)(mu:Mut (H x))(he:e=x\/H e=Aa (.own x))(k:∀ b u,b≠e->s.heap.get? b=Aa u->h'.get? b=Aa u)(heo:∃ u,h'.get? e=Aa u)(new:ObjOk X.prog X.w (upd H x o) h' x o):Inv X pI Y (upd H x o) {s with heap:=h',toks:=t'}:=I.un (Un.write mu he k heo) (I.hok.write mu he k heo new)
theorem Inv.pins_of{pins':Pn}(I:Inv X pI Y H s)(h:∀ p∈pins',s.heap.get? p.1=Aa p.2/\H p.1=Ae/\p.1≠X.env.locals/\p.1∉X.fs/\∀ v,p.2.data≠.cell v):Inv X pins' Y H s:=
 ⟨I.ok,I.os,I.bare,I.base,I.loc,I.cell,I.free,I.freeC,λp hp=>(DC.mp hp).elim (λz=>I.pin p (EO _ z)) (h p),I.hok,I.len⟩
theorem OD{N:Ac Ag}(hN:N.Nodup){j:Af}(a:N[i]?=Aa x)(b:N[j]?=Aa x):i=j:=by
 obtain⟨h1,e1⟩:=A5.mp a;obtain⟨h2,e2⟩:=A5.mp b;exact(List.getElem_inj hN).mp (e1.trans e2.symm)
theorem Q9{A:AU}{E:Vq}(I:Inv X pI Y H s)(hN:X.N.Nodup)(hi:X.N[i]?=Aa x)(hx:Loc X.env.scope x)(r:Bu v u)(h:∀ s',Inv X pI (Y.set i (Aa v)) H s'->(∃ a,EF a s.heap s'.heap/\(a=X.env.locals\/X.env.cells.lookup x=Aa a))->Q () s')(hf:X.fn x=Ab\/X.env.scope.names.lookup x=Aa .local:=by first|exact .inl rfl|exact .inr rfl|assumption):Av M A (storeName X.env x u) Q E s:=by
 obtain⟨m,hn,hl⟩:=id I.loc;have hcls:(X.env.scope.kind==.class||(X.env.scope.kind==.module&&X.env.locals != X.env.globals))=Ad:=by rw[I.ok.kind];rfl
 have hiσ:i<Y.length:=by rw[I.len];exact(A5.mp hi).1
 have cne:=I.cne;have tracked:∀{a:Ak}{h':AG},(∃ o,s.heap.get? a=Aa o/\H a=Ae)->EF a s.heap h'->HOk X.prog X.w H h':=λ{a h'} ha hs b ob e=>by
  obtain⟨_,_,hfree⟩:=ha;refine(I.hok b ob e).stay (λc w' hc q=>(hs.2 c ?_).trans q) (λ_ q=>q) λ_ _ q=>q
  rintro rfl;rcases hc with rfl|hc
  .rw[hfree]at e;cases e
  .rw[hfree]at hc;cases hc
 rcases hx with hk|hk
 .refine wpAny_storeName_local hk hn (λh' hn' hs=>?_) hcls
  obtain⟨oL,_,_,hoL,_⟩:=id hn;refine h _ ⟨I.ok,I.os,I.bare,⟨λb o e n hb hx=>?_,λb o e n hb hx=>?_,I.base.free,λb o e hx=>?_,I.base.tups,I.base.frzs,I.base.tbls⟩,⟨_,hn',λj y v' e1 e2 e3=>?_⟩,λy c e=>?_,I.free,I.freeC,λp hp=>?_,tracked ⟨oL,hoL,I.free⟩ hs,by simpa using I.len⟩ ⟨_,hs,.inl rfl⟩
  .exact(hs.2 b (Bm (AQ (AK e) I.ok.above))).trans (I.base.keep b o e n hb hx)
  .obtain⟨sl,e1⟩:=I.base.slot b o e n hb hx;exact⟨sl,(hs.2 b (Bm (AQ (AK e) I.ok.above))).trans e1⟩
  .obtain⟨o',e1⟩:=I.base.there b o e hx;exact⟨o',(hs.2 b (Bm (AQ (AK e) I.ok.above))).trans e1⟩
  .by_cases hj:j=i
   .subst hj;rw[hi]at e1;cases e1;rw[Cu hiσ]at e2;cases e2;exact⟨u,r,.inl ⟨hk,by simp⟩⟩
   .rw[Ge (CI hj)]at e2;obtain⟨u',r',q⟩:=hl j y v' e1 e2 e3;refine⟨u',r',?_⟩;rcases q with ⟨k,e⟩|⟨k,c,e,z⟩
    .refine .inl ⟨k,?_⟩;have:y≠x:=λe=>hj (OD hN e1 (e ▸ hi))
     simp[this,e]
    .exact .inr ⟨k,c,e,z.sameBut hs (cne y c e)⟩
  .obtain⟨w',z⟩:=I.cell y c e;exact⟨w',z.sameBut hs (cne y c e)⟩
  .obtain⟨e,n,ne,nf,d⟩:=I.pin p hp;exact⟨(hs.2 p.1 ne).trans e,n,ne,nf,d⟩
 .have hfn:X.fn x=Ab:=by
   rcases hf with z|z
   .exact z
   .rw[z]at hk;cases hk
  obtain⟨c,hc⟩:=I.ok.has x (.inl hk);obtain⟨w',z⟩:=I.cell x c hc;refine wpAny_storeName_cell I.ok.kind hk hc z (λh' hc' hs=>?_)
  obtain⟨oc,hoc,hocd⟩:=id z;refine h {s with heap:=h'} ⟨I.ok,I.os,I.bare,⟨λb o e n hb hx=>?_,λb o e n hb hx=>?_,I.base.free,λb o e hx=>?_,I.base.tups,I.base.frzs,I.base.tbls⟩,⟨m,hn.sameBut hs (CI (cne x c hc)),λj y v' e1 e2 e3=>?_⟩,λy c' e=>?_,I.free,I.freeC,λp hp=>?_,tracked ⟨oc,hoc,I.freeC x c hc⟩ hs,by simpa using I.len⟩ ⟨c,hs,.inr hc⟩
  .exact(hs.2 b (Bm (AQ (AK e) (I.ok.cab x c hfn hc)))).trans (I.base.keep b o e n hb hx)
  .obtain⟨sl,e1⟩:=I.base.slot b o e n hb hx;exact⟨sl,(hs.2 b (Bm (AQ (AK e) (I.ok.cab x c hfn hc)))).trans e1⟩
  .obtain⟨o',e1⟩:=I.base.there b o e hx;exact⟨o',(hs.2 b (Bm (AQ (AK e) (I.ok.cab x c hfn hc)))).trans e1⟩
  .by_cases hj:j=i
   .subst hj;rw[hi]at e1;cases e1;rw[Cu hiσ]at e2;cases e2;exact⟨u,r,.inr ⟨.inl hk,c,hc,hc'⟩⟩
   .rw[Ge (CI hj)]at e2;obtain⟨u',r',q⟩:=hl j y v' e1 e2 e3;refine⟨u',r',?_⟩;rcases q with q|⟨k,c',e,z'⟩
    .exact .inl q
    .refine .inr ⟨k,c',e,z'.sameBut hs ?_⟩;rintro rfl;exact hj (OD hN e1 (I.ok.inj _ _ _ e hc ▸ hi))
  .by_cases hcc:c'=c
   .subst hcc;exact⟨_,hc'⟩
   .obtain⟨w2,z2⟩:=I.cell y c' e;exact⟨w2,z2.sameBut hs hcc⟩
  .obtain⟨e,n,ne,nf,d⟩:=I.pin p hp;refine⟨(hs.2 p.1 ?_).trans e,n,ne,nf,d⟩;intro q;rw[q,hoc]at e;have q':oc=p.2:=Bl e;exact d w' (by rw[<-q'];exact hocd)
theorem OH{A:AU}{E:Vq}(I:Inv X pI Y H s)(hN:X.N.Nodup)(hi:X.N[i]?=Aa x)(hx:Loc X.env.scope x)(r:Bu v u)(h:∀ s',Inv X pI (Y.set i (Aa v)) H s'->Q () s')(hf:X.fn x=Ab\/X.env.scope.names.lookup x=Aa .local:=by first|exact .inl rfl|exact .inr rfl|assumption):Av M A (storeName X.env x u) Q E s:=
 Q9 I hN hi hx r (λs' I' _=>h s' I') hf
theorem Inv.call'{s':Ap}(I:Inv X pI Y H s)(ho:s'.os=s.os)(u:Un (frs X.stack) ch H H' s.heap s'.heap)(hok:HOk X.prog X.w H' s'.heap)(hg:FA s'.gens)(hch:∀ b∈ch,(b∈X.ex\/X.s₀.heap.objs.size<=b)/\b≠X.env.locals/\(∀ x c,X.env.cells.lookup x=Aa c->c≠b)/\∀ p∈X.pn++pI,p.1≠b):Inv X pI Y H' s':=by
 obtain⟨h',g',d',t',o'⟩:=s';have e:o'=s.os:=ho;subst e;exact I.call (g':=g') (t':=t') (d':=d') u hok hg hch
end
abbrev XK:=Aj->Ao Ak->Hp->Prop
abbrev St:=Ac (Ao V)
variable{Y:St}
abbrev VK:=V->Hp->Prop
abbrev TE:=St->Hp->VK->Prop
abbrev TT:=St->Hp->(Am->Hp->Prop)->Prop
variable{tc:TT}
abbrev TA:=St->Hp->(Ac V->Hp->Prop)->Prop
variable{ta:TA}
structure Ends where
 nx:St->Hp->Prop
 rt:VK
 bk:St->Hp->Prop:=λ_ _=>AW
 ct:St->Hp->Prop:=λ_ _=>AW
abbrev TS:=Ends->St->Hp->Prop
variable{tb:TS}
def EP(X:Cx)(pI:Pn)(Y:St)(Q:VK)(u:Aj)(s':Ap):Prop:=∃ v H',Inv X pI Y H' s'/\Bu v u/\Q v H'
def TP(X:Cx)(pI:Pn)(Y:St)(Q:Am->Hp->Prop)(b:Am)(s':Ap):Prop:=∃ H',Inv X pI Y H' s'/\Q b H'
def AP(X:Cx)(pI:Pn)(Y:St)(Q:Ac V->Hp->Prop)(us:Ac Aj)(s':Ap):Prop:=∃ vs H',Inv X pI Y H' s'/\A2 vs us/\Q vs H'
noncomputable def SP(X:Cx)(pI:Pn)(D:Ends)(f:Flow)(s':Ap):Prop:=
  match f with
  |.next=>∃ Y' H',Inv X pI Y' H' s'/\D.nx Y' H'
  |.brk=>∃ Y' H',Inv X pI Y' H' s'/\D.bk Y' H'
  |.cont=>∃ Y' H',Inv X pI Y' H' s'/\D.ct Y' H'
  |.ret u=>∃ v Y' H',Inv X pI Y' H' s'/\Bu v u/\D.rt v H'
noncomputable def PE(X:Cx)(e:An)(t:TE):Prop:=
 ∀(pI:Pn)(s:Ap)(Y:St)(H:Hp)(Q:VK),Inv X pI Y H s->t Y H Q->Av (model X.prog X.w) X.A (eval e X.env) (EP X pI Y Q) X.xe s
noncomputable def PT(X:Cx)(e:An)(t:TT):Prop:=
 ∀(pI:Pn)(s:Ap)(Y:St)(H:Hp)(Q:Am->Hp->Prop),Inv X pI Y H s->t Y H Q->Av (model X.prog X.w) X.A (Ik e X.env (eval e X.env)) (TP X pI Y Q) X.xe s
noncomputable def PW(X:Cx)(e:An)(t:TT):Prop:=
 ∀(whole:FJ Aj)(pI:Pn)(s:Ap)(Y:St)(H:Hp)(Q:Am->Hp->Prop),Inv X pI Y H s->t Y H Q->Av (model X.prog X.w) X.A (Ik e X.env whole) (TP X pI Y Q) X.xe s
theorem PW.pt{t:TT}(h:PW X e t):PT X e t:=h _
noncomputable def PA(X:Cx)(es:Ac An)(t:TA):Prop:=
 ∀(pos:AD)(pI:Pn)(s:Ap)(Y:St)(H:Hp)(Q:Ac V->Hp->Prop),Inv X pI Y H s->t Y H Q->Av (model X.prog X.w) X.A (spliced (BA pos (As es X.env))) (AP X pI Y Q) X.xe s
noncomputable def PS(X:Cx)(st:AJ)(t:TS):Prop:=
 ∀(pI:Pn)(s:Ap)(Y:St)(H:Hp)(D:Ends),Inv X pI Y H s->t D Y H->Av (model X.prog X.w) X.A (exec st X.env) (SP X pI D) X.xe s
noncomputable def PSs(X:Cx)(st:Ac AJ)(t:TS):Prop:=
 ∀(pI:Pn)(s:Ap)(Y:St)(H:Hp)(D:Ends),Inv X pI Y H s->t D Y H->Av (model X.prog X.w) X.A (execs st X.env) (SP X pI D) X.xe s
theorem thn{α:Type}{t:FJ α}{Q Q':α->Ap->Prop}{A:AU}{E:Vq}(h:Av M A t Q E s)(hQ:∀ a s,Q a s->Q' a s):Av M A t Q' E s:=A9 h hQ λ_ _ x=>x
section
variable{X:Cx}
def EX(i:Af):TE:=λY H Q=>∃ v,Y[i]?=Aa (Aa v)/\Q v H
def tC(v:V):TE:=λ_ H Q=>Q v H
theorem Kz(hN:X.N[i]?=Aa x)(hv:Vis X.env.scope x)(hd:(x==("__debug__" : Ag))=Ad:=by decide)(hcd:(x==("__classdict__" : Ag))=Ad:=by decide):PE X (.Name x pos) (EX i):=by
 intro pI s Y H Q I h;obtain⟨v,e,h⟩:=h;obtain⟨m,hn,hl⟩:=I.loc;obtain⟨u,r,l⟩:=hl i x v hN e hv;have fin:EP X pI Y Q u s:=⟨v,H,I,r,h⟩;rcases l with ⟨hk,hm⟩|⟨hk,c,hc,hcell⟩
 .exact Kj (wpAny_loadName_local I.ok.kind hk hn hm fin) hd
 .rcases hk with hk|hk
  .exact Kj (wpAny_loadName_cell I.ok.kind hk hc hcell fin) hd
  .exact Kj (wpAny_loadName_free I.ok.kind hk hc hcell fin hcd) hd
theorem lP{i j pos}:PE X (.Constant (.int i) j pos) (tC (.int i)):=λ_ _ _ H _ I h=>wpAny_Constant_int ⟨.int i,H,I.tok _,⟨_,rfl⟩,h⟩
theorem sU{b j pos}:PE X (.Constant (.bool b) j pos) (tC (.bl b)):=λ_ _ _ H _ I h=>Constant_bool ⟨.bl b,H,I,rfl,h⟩
theorem lN{j pos}:PE X (.Constant .none j pos) (tC .non):=λ_ _ _ H _ I h=>Constant_none ⟨.non,H,I,rfl,h⟩
theorem MM{x j pos}:PE X (.Constant (.str x) j pos) (tC (.str x)):=λ_ _ _ H _ I h=>Calls.Constant_str ⟨.str x,H,I.tok _,⟨_,rfl⟩,h⟩
def Gl(X:Cx)(x:Ag):Prop:=X.env.kindOf x=Aa .globalImplicit
theorem HW{E:Vq}{Q:Vq}(I:Inv X pI Y H s)(hg:Gl X x)(hm:X.mg x=Aa u)(h:Q u s)(hd:(x==("__debug__" : Ag))=Ad:=by decide):Av (model X.prog X.w) X.A (eval (.Name x pos) X.env) Q E s:=
 WA I.ok.kind hg (Calls.loadGlobal_global (by rw[I.ok.glob];exact I.mod.glob.keeps I.bk) hm h) hd
theorem KD{E:Vq}{Q:Vq}(I:Inv X pI Y H s)(hg:Gl X x)(hm:X.mg x=Ae)(hv:CY x=Aa u)(h:Q u s)(hn:x≠"__name__" := by decide)(hd:(x==("__debug__" : Ag))=Ad:=by decide):Av (model X.prog X.w) X.A (eval (.Name x pos) X.env) Q E s:=by
 obtain⟨mb,h1,h2⟩:=I.mod.blt;exact WA I.ok.kind hg (Calls.loadGlobal_builtin (by rw[I.ok.glob];exact I.mod.glob.keeps I.bk) hm (by rw[I.ok.blt];exact h1.keeps I.bk) ((h2 x hn).trans hv) h) hd
theorem OM(hg:Gl X x)(hm:X.mg x=Aa u)(r:Bu v u)(hd:(x==("__debug__" : Ag))=Ad:=by decide):PE X (.Name x pos) (tC v):=
 λ_ _ _ H _ I h=>HW I hg hm ⟨v,H,I,r,h⟩ hd
theorem SU(hg:Gl X x)(hm:X.mg x=Ae)(hv:CY x=Aa u)(r:Bu v u)(hn:x≠"__name__" := by decide)(hd:(x==("__debug__" : Ag))=Ad:=by decide):PE X (.Name x pos) (tC v):=
 λ_ _ _ H _ I h=>KD I hg hm hv ⟨v,H,I,r,h⟩ hn hd
variable{a b:An}{ta tb:TE}{pos:AD}
variable{tA tB':TT}{rest:Ac An}
def tU(t u:TT):TT:=λY H Q=>t Y H λc H1=>if c=Ab then u Y H1 Q else Q Ad H1
def tOr(t u:TT):TT:=λY H Q=>t Y H λc H1=>if c=Ab then Q Ab H1 else u Y H1 Q
def uG(t:TT):TT:=λY H Q=>t Y H λc H1=>Q (!c) H1
theorem gF(ha:PT X a tA):PW X (.BoolOp .And [a] pos) tA:=by
 intro wh pI s Y H Q I h;refine isTrue_and (thn (ha pI s Y H Q I h) λc s1 e=>?_)
 cases c with
 |true=>exact isTrue_and_nil e
 |false=>exact e
theorem lE(ha:PT X a tA):PW X (.BoolOp .Or [a] pos) tA:=by
 intro wh pI s Y H Q I h;refine isTrue_or (thn (ha pI s Y H Q I h) λc s1 e=>?_)
 cases c with
 |false=>exact isTrue_or_nil e
 |true=>exact e
theorem lF(ha:PT X a tA)(hb:PW X (.BoolOp .And (b::rest) pos) tB'):PW X (.BoolOp .And (a::b::rest) pos) (tU tA tB'):=by
 intro wh pI s Y H Q I h;refine isTrue_and (thn (ha pI s Y H _ I h) λc s1 ⟨H1,I1,q1⟩=>?_)
 cases c with
 |true=>exact hb wh pI s1 Y H1 Q I1 q1
 |false=>exact⟨H1,I1,q1⟩
theorem sO(ha:PT X a tA)(hb:PW X (.BoolOp .Or (b::rest) pos) tB'):PW X (.BoolOp .Or (a::b::rest) pos) (tOr tA tB'):=by
 intro wh pI s Y H Q I h;refine isTrue_or (thn (ha pI s Y H _ I h) λc s1 ⟨H1,I1,q1⟩=>?_)
 cases c with
 |true=>exact⟨H1,I1,q1⟩
 |false=>exact hb wh pI s1 Y H1 Q I1 q1
theorem lG(ha:PT X a tA):PT X (.UnaryOp .Not a pos) (uG tA):=by
 intro pI s Y H Q I h;exact isTrue_not (ha pI s Y H (λc H1=>Q (!c) H1) I h)
def pU(ta tb:TE):TE:=λY H Q=>ta Y H λx H1=>∃ c,x=.bl c/\if c=Ab then tb Y H1 Q else Q (.bl Ad) H1
def uF(ta tb:TE):TE:=λY H Q=>ta Y H λx H1=>∃ c,x=.bl c/\if c=Ab then Q (.bl Ab) H1 else tb Y H1 Q
def pQ(ta:TE):TE:=λY H Q=>ta Y H λx H1=>∃ c,x=.bl c/\Q (.bl (!c)) H1
theorem lK{op}{t:TE}(h:PE X a t):PE X (.BoolOp op [a] pos) t:=λpI s Y H Q I hw=>BoolOp_one (h pI s Y H Q I hw)
theorem lQ(ha:PE X a ta)(hb:PE X (.BoolOp .And (b::rest) pos) tb):PE X (.BoolOp .And (a::b::rest) pos) (pU ta tb):=by
 intro pI s Y H Q I h;refine BoolOp_and (thn (ha pI s Y H _ I h) λv s1 ⟨x,H1,I1,r1,q1⟩=>?_)
 obtain⟨c,rfl,q1⟩:=q1;cases r1;refine Cy ?_;cases c with
 |true=>exact hb pI s1 Y H1 Q I1 q1
 |false=>exact⟨.bl Ad,H1,I1,rfl,q1⟩
theorem sS(ha:PE X a ta)(hb:PE X (.BoolOp .Or (b::rest) pos) tb):PE X (.BoolOp .Or (a::b::rest) pos) (uF ta tb):=by
 intro pI s Y H Q I h;refine BoolOp_or (thn (ha pI s Y H _ I h) λv s1 ⟨x,H1,I1,r1,q1⟩=>?_)
 obtain⟨c,rfl,q1⟩:=q1;cases r1;refine Cy ?_;cases c with
 |false=>exact hb pI s1 Y H1 Q I1 q1
 |true=>exact⟨.bl Ab,H1,I1,rfl,q1⟩
theorem lM(ha:PE X a ta):PE X (.UnaryOp .Not a pos) (pQ ta):=by
 intro pI s Y H Q I h;refine UnaryOp_ (thn (ha pI s Y H _ I h) λv s1 ⟨x,H1,I1,r1,q1⟩=>?_)
 obtain⟨c,rfl,q1⟩:=q1;cases r1;exact not_of (Cy ⟨.bl (!c),H1,I1,rfl,q1⟩)
end
noncomputable def SqL(K:Fg)(H:Hp)(a:Ak)(xs:Ac V):Prop:=
 Rd H a (.lst xs) \/
  ∃(o:C9)(its:Bg Aj)(n:Af),K.lookup a=Aa o/\o.cls=.type "list"/\o.dict=Ae/\o.data=.seq its n/\its.size<=sizeLine/\A2 xs its.toList
noncomputable def SqT(K:Fg)(H:Hp)(a:Ak)(xs:Ac V):Prop:=
 Rd H a (.tup xs) \/
  ∃(o:C9)(its:Bg Aj)(n:Af),K.lookup a=Aa o/\o.cls=.type "tuple"/\o.data=.seq its n/\its.size<=sizeLine/\A2 xs its.toList
noncomputable def Yr:Aj->Ao V
 |.none=>Aa .non
 |.bool b=>Aa (.bl b)
 |.int i _=>Aa (.int i)
 |.str x _=>Aa (.str x)
 |.bytes b _=>Aa (.byt b)
 |.float b _=>Aa (.flt b)
 |.ref a=>Aa (.ref a)
 |.type n=>Aa (.ty n)
 |_=>Ae
theorem Bu.abs{x:V}(r:Bu x u):Yr u=Aa x:=by
 cases x with
 |non=>cases r;rfl
 |bl _=>cases r;rfl
 |int _=>obtain⟨t,rfl⟩:=r;rfl
 |str _=>obtain⟨t,rfl⟩:=r;rfl
 |byt _=>obtain⟨t,rfl⟩:=r;rfl
 |flt _=>obtain⟨t,rfl⟩:=r;rfl
 |ref _=>cases r;rfl
 |ty _=>cases r;rfl
theorem Bu.inj{x:V}(r:Bu x u)(q:Bu y u):x=y:=Bl (r.abs.symm.trans q.abs)
theorem A2.inj:∀{xs ys:Ac V}{us:Ac Aj},A2 xs us->A2 ys us->xs=ys
 |_,_,_,.nil,.nil=>rfl
 |_,_,_,.cons r t,.cons r' t'=>by rw[r.inj r',A2.inj t t']
section
variable{X:Cx}{pI:Pn}{Y:St}{H:Hp}{s:Ap}{a:Ak}{xs ys:Ac V}
theorem SqL.of{K:Fg}(h:H a=Aa (.lst xs)):SqL K H a xs:=.inl (.inl h)
theorem SqT.of{K:Fg}(h:H a=Aa (.tup xs)):SqT K H a xs:=.inl (.inl h)
theorem Inv.list(I:Inv X pI Y H s)(h:SqL X.K H a xs):∃ its:Ac Aj,A2 xs its/\PlainL s.heap a its.toArray/\xs.length<=sizeLine:=by
 rcases h with h|⟨o,its,n,hk,hc,hd,hs,hz,r⟩
 .obtain⟨z,its,n,r,e⟩:=h.ok I.hok;exact⟨its,r,⟨_,n,e,rfl,rfl,rfl⟩,z⟩
 .refine⟨its.toList,r,⟨o,n,I.kIn a o hk,hc,hd,by simpa using hs⟩,?_⟩
  have e:=r.length;simp only[E6]at e;omega
theorem Inv.tuple(I:Inv X pI Y H s)(h:SqT X.K H a xs):∃ its:Ac Aj,A2 xs its/\Kb s.heap a its.toArray/\xs.length<=sizeLine:=by
 rcases h with h|⟨o,its,n,hk,hc,hs,hz,r⟩
 .obtain⟨z,its,r,p⟩:=h.ok I.hok;exact⟨its,r,p,z⟩
 .refine⟨its.toList,r,⟨o,I.kIn a o hk,hc,n,by simpa using hs⟩,?_⟩
  have e:=r.length;simp only[E6]at e;omega
theorem Inv.list_inj(I:Inv X pI Y H s)(h:SqL X.K H a xs)(h':SqL X.K H a ys):xs=ys:=by
 obtain⟨its,r,⟨o,n,e,_,_,d⟩,_⟩:=I.list h;obtain⟨its',r',⟨o',n',e',_,_,d'⟩,_⟩:=I.list h';rw[e]at e';cases e';rw[d]at d'
 injection d' with d1 _
 have:its=its':=by simpa using congrArg Ja d1
 subst this;exact r.inj r'
theorem Inv.tuple_inj(I:Inv X pI Y H s)(h:SqT X.K H a xs)(h':SqT X.K H a ys):xs=ys:=by
 obtain⟨its,r,⟨o,e,_,n,d⟩,_⟩:=I.tuple h;obtain⟨its',r',⟨o',e',_,n',d'⟩,_⟩:=I.tuple h';rw[e]at e';cases e';rw[d]at d'
 injection d' with d1 _
 have:its=its':=by simpa using congrArg Ja d1
 subst this;exact r.inj r'
end
noncomputable abbrev Cx.wish(X:Cx)(E:Vq):Cx:={X with xe:=E}
noncomputable abbrev Cx.nox(X:Cx):Cx:=X.wish λ_ _=>AW
theorem Cx.Ok.wish(ok:X.Ok)(E:Vq):(X.wish E).Ok:=
 ⟨ok.mod,ok.kind,ok.glob,ok.blt,ok.above,ok.inj,ok.has,ok.cab,ok.hd,ok.frames,ok.stk,ok.exf,ok.bs,ok.bsz,ok.noex,ok.exfs,ok.funs,ok.frf⟩
theorem Cx.Ok.unwish{E:Vq}(ok:(X.wish E).Ok):X.Ok:=
 ⟨ok.mod,ok.kind,ok.glob,ok.blt,ok.above,ok.inj,ok.has,ok.cab,ok.hd,ok.frames,ok.stk,ok.exf,ok.bs,ok.bsz,ok.noex,ok.exfs,ok.funs,ok.frf⟩
section
variable{X:Cx}{pI:Pn}{Y:St}{H:Hp}{s:Ap}{E:Vq}
theorem Inv.wish(I:Inv X pI Y H s)(E:Vq):Inv (X.wish E) pI Y H s:=⟨I.ok.wish E,I.os,I.bare,I.base,I.loc,I.cell,I.free,I.freeC,I.pin,I.hok,I.len⟩
theorem Inv.unwish(I:Inv (X.wish E) pI Y H s):Inv X pI Y H s:=⟨I.ok.unwish,I.os,I.bare,I.base,I.loc,I.cell,I.free,I.freeC,I.pin,I.hok,I.len⟩
theorem SP.unwish{D:Ends}{f:Flow}{s':Ap}(h:SP (X.wish E) pI D f s'):SP X pI D f s':=by
 cases f with
 |next=>obtain⟨Y',H',I,q⟩:=h;exact⟨Y',H',I.unwish,q⟩
 |brk=>obtain⟨Y',H',I,q⟩:=h;exact⟨Y',H',I.unwish,q⟩
 |cont=>obtain⟨Y',H',I,q⟩:=h;exact⟨Y',H',I.unwish,q⟩
 |ret u=>obtain⟨v,Y',H',I,r,q⟩:=h;exact⟨v,Y',H',I.unwish,r,q⟩
theorem PSs.nox{st:Ac AJ}{t:TS}(h:PSs X.nox st t):PSs X st t:=λpI s Y H D I hw=>
 A9 (h pI s Y H D (I.wish _) hw) (λ_ _ q=>q.unwish) λ_ _ z=>A8 z
end
section
variable{X:Cx}{st:AJ}{rest:Ac AJ}{t u:TS}{e:An}{te:TE}{pos:AD}
def Ud:TS:=λD Y H=>D.nx Y H
def uD(t u:TS):TS:=λD Y H=>t {D with nx:=u D} Y H
theorem gK:PSs X [] Ud:=λ_ _ Y H _ I h=>Eo ⟨Y,H,I,h⟩
theorem Ot(h1:PS X st t)(h2:PSs X rest u):PSs X (st::rest) (uD t u):=by
 intro pI s Y H D I h;refine Hr (thn (h1 pI s Y H {D with nx:=u D} I h) λf s1 q=>?_)
 cases f with
 |next=>
  obtain⟨Y',H',I',q⟩:=q;exact h2 pI s1 Y' H' D I' q
 |ret v=>exact q
 |brk=>exact q
 |cont=>exact q
theorem Kv(h1:PS X st t):PSs X [st] t:=by
 intro pI s Y H D I h;refine Hr (thn (h1 pI s Y H D I h) λf s1 q=>?_)
 cases f with
 |next=>exact Eo q
 |ret v=>exact q
 |brk=>exact q
 |cont=>exact q
theorem gN:PS X (.Pass pos) Ud:=λ_ _ Y H _ I h=>wpAny_Pass ⟨Y,H,I,h⟩
theorem Inv.quiet(I:Inv X pI Y H s):interactive X.env=Ad:=by simp[interactive,I.ok.kind]
def pR(te:TE):TS:=λD Y H=>te Y H λ_ H1=>D.nx Y H1
theorem LC(he:PE X e te)(hs:CS e Ae pos.line X.env=pure Ad:=by rfl):PS X (.Expr e pos) (pR te):=by
 intro pI s Y H D I h;exact wpAny_Expr_any (thn (he pI s Y H _ I h) λv s1 ⟨x,H1,I1,r1,q1⟩=>⟨Y,H1,I1,q1⟩) I.quiet hs
def uE(te:TE):TS:=λD Y H=>te Y H D.rt
theorem Pe(he:PE X e te):PS X (.Return (Aa e) pos) (uE te):=by
 intro pI s Y H D I h;exact wpAny_Return_some (thn (he pI s Y H _ I h) λv s1 ⟨x,H1,I1,r1,q1⟩=>⟨x,Y,H1,I1,r1,q1⟩)
def uJ(c:TT)(t u:TS):TS:=λD Y H=>c Y H λb H1=>if b=Ab then t D Y H1 else u D Y H1
theorem sQ{a b:Ac AJ}(hc:PT X c tc)(ha:PSs X a t)(hb:PSs X b u):PS X (.If c a b pos) (uJ tc t u):=by
 intro pI s Y H D I h;refine wpAny_If (thn (hc pI s Y H _ I h) λd s1 ⟨H1,I1,q1⟩=>?_)
 cases d with
 |true=>exact ha pI s1 Y H1 D I1 q1
 |false=>exact hb pI s1 Y H1 D I1 q1
end
abbrev TG:=V->St->Hp->(St->Hp->Prop)->Prop
abbrev TGs:=Ac V->St->Hp->(St->Hp->Prop)->Prop
noncomputable def PG(X:Cx)(target:An)(t:TG):Prop:=
 ∀(pI:Pn)(s:Ap)(Y:St)(H:Hp)(v:V)(u:Aj)(Q:St->Hp->Prop),Inv X pI Y H s->Bu v u->t v Y H Q ->
  Av (model X.prog X.w) X.A (assign target X.env u) (λ_ s'=>∃ Y' H',Inv X pI Y' H' s'/\Q Y' H') X.xe s
noncomputable def PGs(X:Cx)(ts:Ac An)(t:TGs):Prop:=
 ∀(pI:Pn)(s:Ap)(Y:St)(H:Hp)(vs:Ac V)(us:Ac Aj)(Q:St->Hp->Prop),Inv X pI Y H s->A2 vs us->t vs Y H Q ->
  Av (model X.prog X.w) X.A (assignInOrder ((DQ ts X.env).map (·.2)) us) (λ_ s'=>∃ Y' H',Inv X pI Y' H' s'/\Q Y' H') X.xe s
section
variable{X:Cx}{pos:AD}
def FQ(i:Af):TG:=λv Y H Q=>Q (Y.set i (Aa v)) H
theorem LD(hN:X.N.Nodup)(hi:X.N[i]?=Aa x)(hx:Loc X.env.scope x)(hf:X.fn x=Ab\/X.env.scope.names.lookup x=Aa .local:=by first|exact .inl rfl|exact .inr rfl|assumption):PG X (.Name x pos) (FQ i):=by
 intro pI s Y H v u Q I r h;exact Yj (OH I hN hi hx r (λs' I'=>⟨_,H,I',h⟩) hf)
def IR:TGs:=λvs Y H Q=>vs=[]/\Q Y H
def IN(t:TG)(u:TGs):TGs:=λvs Y H Q=>∃ v r,vs=v::r/\t v Y H λY' H'=>u r Y' H' Q
theorem SQ:PGs X [] IR:=by
 intro pI s Y H vs us Q I r h;obtain⟨e,h⟩:=h;subst e;cases r;exact assignInOrder_nil ⟨Y,H,I,h⟩
theorem Rt{t:TG}{u:TGs}(h1:PG X e t)(h2:PGs X es u)(hs:(DQ (e::es) X.env).map (·.2)=assign e X.env::(DQ es X.env).map (·.2):=by rfl):PGs X (e::es) (IN t u):=by
 intro pI s Y H vs us Q I r h;obtain⟨v,vr,e1,h⟩:=h;subst e1;cases r with
 |cons r rr=>
  rw[hs];refine assignInOrder_cons (thn (h1 pI s Y H _ _ _ I r h) λ_ s1 ⟨Y1,H1,I1,q1⟩=>?_)
  exact h2 pI s1 Y1 H1 _ _ Q I1 rr q1
def LZ(K:Fg)(n:Af)(t:TGs):TG:=λv Y H Q=>∃ a xs,v=.ref a/\SqT K H a xs/\xs.length=n/\t xs Y H Q
theorem Tv{t:TGs}(hc:X.calm=Ab)(h:PGs X es t)(hn:(DQ es X.env).length=n:=by rfl)(hst:(DQ es X.env).findIdx? (·.1)=Ae:=by rfl):PG X (.Tuple es k pos) (LZ X.K n t):=by
 intro pI s Y H v u Q I r hw;obtain⟨a,xs,e1,hq,hl,hw⟩:=hw;subst e1;cases r;obtain⟨its,rv,ht,hz⟩:=I.tuple hq;refine assign_Tuple_tuple (I.ok.hd hc) ht (by simp[hn,<-hl,rv.length]) hst λh' hx=>?_
 have I1:Inv X pI Y H {s with heap:=h'}:=I.kept (t':=s.toks) λb o e=>hx b o (Bm (AK e)) e
 exact h pI _ Y H xs _ Q I1 (by simpa using rv) hw
def Qa(te:TE)(g:TG):TS:=λD Y H=>te Y H λx H1=>g x Y H1 D.nx
theorem MY{te:TE}{pos':AD}(hN:X.N.Nodup)(hi:X.N[i]?=Aa x)(hx:Loc X.env.scope x)(he:PE X e te)(hs:CS e (Aa (.Name x pos')) pos.line X.env=pure Ad:=by rfl)(hf:X.fn x=Ab\/X.env.scope.names.lookup x=Aa .local:=by first|exact .inl rfl|exact .inr rfl|assumption):PS X (.Assign [.Name x pos'] e pos) (Qa te (FQ i)):=by
 intro pI s Y H D I h;refine wpAny_Assign_Name (thn (he pI s Y H _ I h) λv s1 ⟨y,H1,I1,r1,q1⟩=>?_) hs
 exact OH I1 hN hi hx r1 (λs2 I2=>⟨_,H1,I2,q1⟩) hf
end
section
variable{X:Cx}{pos:AD}
def jS(c:TT)(tb:TS):TS:=λD Y H=>∃ W:Af->St->Hp->Prop,(∃ m,W m Y H)/\∀ m Y H,W m Y H ->
 c Y H λb H1=>if b=Ab then ∃ N:St->Hp->Prop,(∀ Y' H',N Y' H'->∃ m',m'<m/\W m' Y' H')/\tb {D with nx:=N,ct:=N,bk:=D.nx} Y H1 else D.nx Y H1
theorem bS(hp:DX (model X.prog X.w) X.A X.env X.xe)(hc:PT X c tc)(hb:PSs X body tb):PS X (.While c body [] pos) (jS tc tb):=by
 intro pI s Y H D I h;obtain⟨W,⟨m0,w0⟩,turn⟩:=h;refine wpAny_While (codeAny_whileLoop (λn s'=>∃ Y' H',Inv X pI Y' H' s'/\W n Y' H') ?_ m0 ⟨Y,H,I,w0⟩)
 rintro n s1 ⟨Y1,H1,I1,w1⟩;refine DF hp (thn (hc pI s1 Y1 H1 _ I1 (turn n Y1 H1 w1)) λb s2 ⟨H2,I2,q2⟩=>?_)
 cases b with
 |true=>
  obtain⟨N,hN,q2⟩:=q2;rw[At rfl];refine DF hp (thn (hb pI s2 Y1 H2 _ I2 q2) λf s3 q3=>?_)
  cases f with
  |next=>
   obtain⟨Y3,H3,I3,n3⟩:=q3;obtain⟨m',hm,w3⟩:=hN Y3 H3 n3;exact⟨m',hm,Y3,H3,I3,w3⟩
  |cont=>
   obtain⟨Y3,H3,I3,n3⟩:=q3;obtain⟨m',hm,w3⟩:=hN Y3 H3 n3;exact⟨m',hm,Y3,H3,I3,w3⟩
  |brk=>exact q3
  |ret v=>exact q3
 |false=>
  rw[AC Ay];exact Eo ⟨Y1,H2,I2,q2⟩
end
structure It where
 go:Af->Hp->Prop
 yld:Af->Hp->V->Hp->Prop
 stop:Af->Hp->Prop
noncomputable def GJ(X:Cx)(pI:Pn)(H:Hp)(b:Ak):Prop:=
 H b=Ae/\b≠X.env.locals/\b∉X.fs/\(b∈X.ex\/X.s₀.heap.objs.size<=b)/\(∀ x c,X.env.cells.lookup x=Aa c->c≠b)/\∀ p∈X.pn++pI,p.1≠b
theorem Inv.fpOk{H':Hp}(I:Inv X pI Y H s)(hb:s.heap.objs.size<=b)(hn:H' b=Ae):GJ X pI H' b:=by
 refine⟨hn,Hj (AQ I.lt hb),I.nofs hb,.inr (By I.sz hb),λx c e z=>?_,λp hp z=>?_⟩
 .obtain⟨v,q⟩:=I.cell x c e;exact absurd (AQ q.lt (by rw[z];exact hb)) (Bw _)
 .exact absurd (AQ (AK (I.pin p hp).1) (by rw[z];exact hb)) (Bw _)
structure Turn (P:AM) (w:AA) (K:Fg) (tg:An) (J:It) (fp:Ac Ak) (it:Ak) (tn:Af->AG->Prop):Prop where
 mem:it∈fp
 obj:∀ i h,tn i h->∀ b∈fp,∃ o,h.get? b=Aa o/\∀ v,o.data≠.cell v
 keep:∀ i h h',tn i h->(∀ b∈fp,∀ o,h.get? b=Aa o->h'.get? b=Aa o)->tn i h'
 item:∀(X:Cx),X.prog=P->X.w=w->X.K=K->X.calm=Ab->∀(i:Af)(pI:Pn)(s:Ap)(Y:St)(H:Hp)(E:Vq),Inv X pI Y H s->(∀ b∈fp,GJ X pI H b)->tn i s.heap->J.go i H ->
  Av (model P w) X.A (pyNext (.ref it)) (λr s1=>∃ u,r=Aa u /\
   Av (model P w) X.A (Gk tg (.ref it) u) (λ_ s2=>∃ x H',Inv X pI Y H' s2/\Bu x u/\J.yld i H x H'/\tn (i+1) s2.heap/\∀ b∈fp,H' b=Ae) E s1) E s
 done:∀(X:Cx),X.prog=P->X.w=w->X.K=K->X.calm=Ab->∀(i:Af)(pI:Pn)(s:Ap)(Y:St)(H:Hp)(E:Vq),Inv X pI Y H s->(∀ b∈fp,GJ X pI H b)->tn i s.heap->J.stop i H ->
  Av (model P w) X.A (pyNext (.ref it)) (λr s1=>r=Ae/\Inv X pI Y H s1) E s
 self:∀(A:AU)(i:Af)(s:Ap)(Q:Vq)(E:Vq),tn i s.heap->Q (.ref it) s->Av (model P w) A (Lf (.ref it)) Q E s
abbrev TI:=St->Hp->(It->Hp->Prop)->Prop
noncomputable def PIE(X:Cx)(pI:Pn)(Y:St)(tg:An)(R:It->Hp->Prop)(itv:Aj)(s2:Ap):Prop:=
 ∃(it:Ak)(fp:Ac Ak)(tn:Af->AG->Prop)(J:It)(H':Hp),itv=.ref it/\Inv X pI Y H' s2/\Turn X.prog X.w X.K tg J fp it tn/\tn 0 s2.heap/\(∀ b∈fp,GJ X pI H' b)/\R J H'
noncomputable def PI(X:Cx)(tg iter:An)(wi:TI):Prop:=
 ∀(pI:Pn)(s:Ap)(Y:St)(H:Hp)(R:It->Hp->Prop),Inv X pI Y H s->wi Y H R ->
  Av (model X.prog X.w) X.A (eval iter X.env) (λv s1=>Av (model X.prog X.w) X.A (Lf v) (PIE X pI Y tg R) X.xe s1) X.xe s
theorem PY{A:AU}{E:Vq}{n:CZ}{vs:Bg Aj}(ho:s.heap.get? it=Aa o)(hc:o.cls=.type n)(hd:o.data=.fields vs)(hn:["enumerate", "zip", "dict_itemiterator", "dict_reverseitemiterator", "odict_iterator", "itertools.zip_longest", "itertools.pairwise"].contains n=Ad)(hQ:Q () s):Av M A (Gk tg (.ref it) u) Q E s:=by
  unfold Gk;cases tg<;>first
    |exact AT hQ
    | (cases u<;>first
        |exact AT hQ
        | (refine Aq (wpAny_load ho ?_)
           rw[hc,hd];show Av M A (if (["enumerate", "zip", "dict_itemiterator", "dict_reverseitemiterator", "odict_iterator", "itertools.zip_longest", "itertools.pairwise"].contains n&&vs[0]? == Aa (D8 _))=Ab then _ else _) Q E s
           rw[AC (by intro h;rw[hn,Bool.false_and]at h;cases h)]
           exact AT hQ))
noncomputable def Itl(K:Fg)(a:Ak):It:=
 ⟨λi H=>∃ xs x,SqL K H a xs/\xs[i]?=Aa x,λi H x H'=>H'=H/\∀ xs,SqL K H a xs->xs[i]?=Aa x,λi H=>∃ xs,SqL K H a xs/\xs.length<=i⟩
noncomputable def Itt(K:Fg)(a:Ak):It:=
 ⟨λi H=>∃ xs x,SqT K H a xs/\xs[i]?=Aa x,λi H x H'=>H'=H/\∀ xs,SqT K H a xs->xs[i]?=Aa x,λi H=>∃ xs,SqT K H a xs/\xs.length<=i⟩
noncomputable def Itr(lo:Ah)(n:Af):It:=⟨λi _=>i<n,λi H x H'=>H'=H/\x=.int (lo+i),λi _=>n<=i⟩
theorem Zf{w:AA}{K:Fg}(a it:Ak):Turn P w K tg (Itl K a) [it] it (λi h=>h.IsListIter it a i) where
  mem:=by simp
  obj:=λi h st b hb=>by
    have e:b=it:=by simpa using hb
    subst e;obtain⟨o,e,c,d⟩:=st;exact⟨o,e,λv z=>by rw[d]at z;cases z⟩
  keep:=λi h h' st k=>st.at λo e=>k it (by simp) o e
  item:=by
    intro X hP hw hK hc i pI s Y H E I hf st hg;subst hP hw hK;obtain⟨xs,x,hq,hx⟩:=hg;obtain⟨its,rv,p,hz⟩:=I.list hq;obtain⟨u,hu,ru⟩:=rv.get hx;obtain⟨f0,f1,f2,f3,f4,f5⟩:=hf it (by simp)
    refine wpAny_pyNext_list_item st p.isList (x:=u) (by simpa using hu) λh' st' sb=>?_
    have I1:Inv X pI Y H {s with heap:=h'}:=I.turned (t':=s.toks) (λb o hb e=>(sb.2 b hb).trans e) f0 f1 f3 f4 f5
    obtain⟨o,e,c,d⟩:=id st';exact⟨u,rfl,PY (s:={s with heap:=h'}) e c d (by decide) ⟨x,H,I1,ru,⟨rfl,λys hy=>by rw[I.list_inj hy hq];exact hx⟩,st',λb hb=>(hf b hb).1⟩⟩
  done:=by
    intro X hP hw hK hc i pI s Y H E I hf st hg;subst hP hw hK;obtain⟨xs,hq,hx⟩:=hg;obtain⟨its,rv,p,hz⟩:=I.list hq;obtain⟨f0,f1,f2,f3,f4,f5⟩:=hf it (by simp)
    have hl:=rv.length;exact wpAny_pyNext_list_end (I.ok.hd hc) st p.isList (by simp;omega) λh' eb=>⟨rfl,I.turned (t':=s.toks) (λb o hb e=>eb b o hb e) f0 f1 f3 f4 f5⟩
  self:=λ_ _ _ _ _ st h=>wpAny_pyIter_listiter st h
theorem Y_1{w:AA}{K:Fg}(a it:Ak):Turn P w K tg (Itt K a) [it] it (λi h=>h.IsTupleIter it a i) where
  mem:=by simp
  obj:=λi h st b hb=>by
    have e:b=it:=by simpa using hb
    subst e;obtain⟨o,e,c,d⟩:=st;exact⟨o,e,λv z=>by rw[d]at z;cases z⟩
  keep:=λi h h' st k=>st.at λo e=>k it (by simp) o e
  item:=by
    intro X hP hw hK hc i pI s Y H E I hf st hg;subst hP hw hK;obtain⟨xs,x,hq,hx⟩:=hg;obtain⟨its,rv,p,hz⟩:=I.tuple hq;obtain⟨u,hu,ru⟩:=rv.get hx;obtain⟨f0,f1,f2,f3,f4,f5⟩:=hf it (by simp)
    refine wpAny_pyNext_tuple_item st (show s.heap.IsTuple a its.toArray from p) (x:=u) (by simpa using hu) λh' st' sb=>?_
    have I1:Inv X pI Y H {s with heap:=h'}:=I.turned (t':=s.toks) (λb o hb e=>(sb.2 b hb).trans e) f0 f1 f3 f4 f5
    obtain⟨o,e,c,d⟩:=id st';exact⟨u,rfl,PY (s:={s with heap:=h'}) e c d (by decide) ⟨x,H,I1,ru,⟨rfl,λys hy=>by rw[I.tuple_inj hy hq];exact hx⟩,st',λb hb=>(hf b hb).1⟩⟩
  done:=by
    intro X hP hw hK hc i pI s Y H E I hf st hg;subst hP hw hK;obtain⟨xs,hq,hx⟩:=hg;obtain⟨its,rv,p,hz⟩:=I.tuple hq;obtain⟨f0,f1,f2,f3,f4,f5⟩:=hf it (by simp)
    have hl:=rv.length;exact wpAny_pyNext_tuple_end (I.ok.hd hc) st (show s.heap.IsTuple a its.toArray from p) (by simp;omega) λh' eb=>⟨rfl,I.turned (t':=s.toks) (λb o hb e=>eb b o hb e) f0 f1 f3 f4 f5⟩
  self:=λ_ _ _ _ _ st h=>wpAny_pyIter_tupleiter st h
theorem Y_2{w:AA}{K:Fg}(it:Ak)(lo:Ah)(n:Af):Turn P w K tg (Itr lo n) [it] it (λi h=>IsRangeIter h it (lo+(i:Af)*1) ((n:Ah)-(i:Af)) 1) where
  mem:=by simp
  obj:=λi h st b hb=>by
    have e:b=it:=by simpa using hb
    subst e;exact⟨_,st,λv z=>by
      have z':Data.fields _=K8 v:=z;cases z'⟩
  keep:=λi h h' st k=>k it (by simp) _ st
  item:=by
    intro X hP hw hK hc i pI s Y H E I hf st hg;subst hP hw hK;obtain⟨f0,f1,f2,f3,f4,f5⟩:=hf it (by simp)
    have W:=Walks.range (prog:=X.prog) (w:=X.w) (I.ok.hd hc) it lo 1 n;refine W.item i s _ _ hg st λv h' tk hv st' kk=>?_
    obtain⟨t,rfl⟩:=hv;have I1:Inv X pI Y H {s with heap:=h',toks:=tk}:=I.turned (λb o hb e=>kk b o (by simpa using hb) e) f0 f1 f3 f4 f5
    refine⟨_,rfl,PY (s:={s with heap:=h',toks:=tk}) (n := "range_iterator") st' rfl rfl (by decide) ⟨.int (lo+i),H,I1,⟨t,?_⟩,⟨rfl,rfl⟩,st',λb hb=>(hf b hb).1⟩⟩
    rw[VS]
  done:=by
    intro X hP hw hK hc i pI s Y H E I hf st hg;subst hP hw hK;obtain⟨f0,f1,f2,f3,f4,f5⟩:=hf it (by simp)
    exact wpAny_pyNext_range_end (I.ok.hd hc) st (by have:n<=i:=hg;omega) λh' eb=>⟨rfl,I.turned (t':=s.toks) (λb o hb e=>eb b o hb e) f0 f1 f3 f4 f5⟩
  self:=λ_ _ _ _ _ st h=>wpAny_pyIter_rangeiter st h
section
variable{X:Cx}{tg:An}
theorem RV{R:It->Hp->Prop}{E:Vq}{lo hi:Ah}{t u v:Cz}{tk:Af}(I:Inv X pI Y H s)(h1:-(2 ^ 62)<=lo)(h2:lo<2 ^ 62)(h3:-(2 ^ 62)<=hi)(h4:hi<2 ^ 62)(q:R (Itr lo (hi-lo).toNat) H):Av (model X.prog X.w) X.A (Lf (.ref s.heap.objs.size)) (PIE X pI Y tg R) E { s with heap:=s.heap.push { cls:=.type "range",data:=.fields #[.int lo t,.int hi u,.int 1 v] },toks:=tk }:=by
 refine wpAny_pyIter_range (IsRange.new ..) (small_one h1 h2 h3 h4) ?_;have I1:Inv X pI Y H { s with heap:=s.heap.push { cls:=.type "range",data:=.fields #[.int lo t,.int hi u,.int 1 v] },toks:=tk }:=I.kept λb o e=>Au _ e
 refine⟨(s.heap.push { cls:=.type "range",data:=.fields #[.int lo t,.int hi u,.int 1 v] }).objs.size,[(s.heap.push { cls:=.type "range",data:=.fields #[.int lo t,.int hi u,.int 1 v] }).objs.size],_,_,H,rfl,
  I1.kept (t':=tk) λb o e=>Au _ e,Y_2 _ lo (hi-lo).toNat,?_,λb hb=>?_,q⟩
 .have e1:lo+((0:Af):Ah)*1=lo:=by simp
  have e2:(((hi-lo).toNat:Af):Ah)-((0:Af):Ah)=Builtin.Range.rangeSize lo hi 1:=by rw[rangeSize_one];split<;>omega
  show IsRangeIter _ _ (lo+((0:Af):Ah)*1) ((((hi-lo).toNat:Af):Ah)-((0:Af):Ah)) 1;rw[e1,e2];exact A3 _ rfl
 .have e:b=(s.heap.push { cls:=.type "range",data:=.fields #[.int lo t,.int hi u,.int 1 v] }).objs.size:=by simpa using hb
  subst e;exact I1.fpOk (AL _) (I1.hok.fresh (AL _))
def tM(ta:TA):TI:=λY H R=>ta Y H λvs H1=>∃ j:Ah,vs=[.int j]/\-(2 ^ 62)<=j/\j<2 ^ 62/\R (Itr 0 j.toNat) H1
def tL(ta:TA):TI:=λY H R=>ta Y H λvs H1=>∃ i j:Ah,vs=[.int i,.int j]/\(-(2 ^ 62)<=i/\i<2 ^ 62/\-(2 ^ 62)<=j/\j<2 ^ 62)/\R (Itr i (j-i).toNat) H1
theorem ZP{a:An}(hg:Gl X "range")(hm:X.mg "range" = Ae)(ha:PA X [a] ta)(hs:As [a] X.env=[(Ad,eval a X.env)]:=by rfl):PI X tg (.Call (.Name "range" p) [a] [] pos) (tM ta):=by
 intro pI s Y H R I h;refine Call_ (KD I hg hm boot_range (Dv (thn (ha pos pI s Y H _ I h) λus s1 ⟨vs,H1,I1,r1,q1⟩=>?_) hs rfl))
 obtain⟨j,e,q1,q2,q⟩:=q1;subst e;cases r1 with
 |cons r rr=>
  cases rr;obtain⟨t,rfl⟩:=r;exact call_range_1 (RV I1 (by omega) (by omega) q1 q2 (by simpa using q))
theorem ZO{a b:An}(hg:Gl X "range")(hm:X.mg "range" = Ae)(ha:PA X [a,b] ta)(hs:As [a,b] X.env=[(Ad,eval a X.env),(Ad,eval b X.env)]:=by rfl)(hs2:As [b] X.env=[(Ad,eval b X.env)]:=by rfl):
  PI X tg (.Call (.Name "range" p) [a,b] [] pos) (tL ta):=by
 intro pI s Y H R I h;refine Call_ (KD I hg hm boot_range (Dv (thn (ha pos pI s Y H _ I h) λus s1 ⟨vs,H1,I1,r1,q1⟩=>?_) (by rw[hs,hs2]) (by rw[hs2];rfl)))
 obtain⟨i,j,e,⟨q1,q2,q3,q4⟩,q⟩:=q1;subst e;cases r1 with
 |cons r rr=>
  cases rr with
  |cons r' rr=>
   cases rr;obtain⟨t,rfl⟩:=r;obtain⟨t',rfl⟩:=r';exact call_range_2 (RV I1 q1 q2 q3 q4 q)
def uK(wi:TI)(g:TG)(tb:TS):TS:=λD Y H=>wi Y H λJ H1=>∃ W:Af->Af->St->Hp->Prop,(∃ m,W 0 m Y H1)/\∀ i m Y H,W i m Y H ->
 (J.stop i H/\D.nx Y H)\/(J.go i H/\∃ N:St->Hp->Prop,(∀ Y' H',N Y' H'->∃ m',m'<m/\W (i+1) m' Y' H')/\∀ x H',J.yld i H x H'->g x Y H' λY2 H2=>tb {D with nx:=N,ct:=N,bk:=D.nx} Y2 H2)
noncomputable def JY(fp:Ac Ak)(h:AG):Pn:=fp.filterMap λb=>(h.get? b).map λo=>(b,o)
theorem Lm(hb:b∈fp)(e:h.get? b=Aa o):(b,o)∈JY fp h:=List.mem_filterMap.mpr ⟨b,hb,by rw[e];rfl⟩
theorem Rh{p:Ak×C9}(hp:p∈JY fp h):p.1∈fp/\h.get? p.1=Aa p.2:=by
 obtain⟨b,hb,e⟩:=List.mem_filterMap.mp hp;cases q:h.get? b with
 |none=>rw[q]at e;cases e
 |some o=>
  rw[q]at e;have e':(b,o)=p:=Bl e;subst e';exact⟨hb,q⟩
theorem Inv.pinned(I:Inv X pI Y H s)(hf:∀ b∈fp,GJ X pI H b)(ho:∀ b∈fp,∃ o,s.heap.get? b=Aa o/\∀ v,o.data≠.cell v):Inv X (pI++JY fp s.heap) Y H s:=
 I.pins_of λp hp=>(DC.mp hp).elim (λz=>I.pin p (Bh _ z)) λz=>by
  obtain⟨hb,e⟩:=Rh z;obtain⟨f0,f1,f2,_⟩:=hf p.1 hb;obtain⟨o,e',d⟩:=ho p.1 hb;rw[e]at e';cases e';exact⟨e,f0,f1,f2,d⟩
theorem Inv.unpinned{pl:Pn}(I:Inv X (pI++pl) Y H s):Inv X pI Y H s:=I.pins_of λp hp=>I.pin p (Bh _ (EO _ hp))
theorem Tt{iter:An}{wi:TI}{g:TG}(hp:DX (model X.prog X.w) X.A X.env X.xe)(hc:X.calm=Ab)(hi:PI X tg iter wi)(hg:PG X tg g)(hb:PSs X body tb)(hs:∀ x,B4 iter X.env x=pure x:=by intro _;rfl):PS X (.For tg iter body [] pos) (uK wi g tb):=by
 intro pI s Y H D I h;refine wpAny_For (thn (hi pI s Y H _ I h) λv s1 h1=>thn h1 λitv s2 h2=>?_) hs
 obtain⟨it,fp,tn,J,H2,e,I2,T,st2,f2,W,⟨m0,w0⟩,turn⟩:=h2;subst e
 -- what stays Ab of the iterator's objects through the loop
 have stat:∀{H':Hp},(∀ b∈fp,H' b=Ae)->∀ b∈fp,GJ X pI H' b:=λhn b hb=>⟨hn b hb,(f2 b hb).2⟩
 refine codeAny_forLoop_any (λn s'=>∃ i Y' H',Inv X pI Y' H' s'/\tn i s'.heap/\(∀ b∈fp,H' b=Ae)/\W i n Y' H') ?_ m0 ⟨0,Y,H2,I2,st2,λb hb=>(f2 b hb).1,w0⟩
 rintro n s3 ⟨i,Y3,H3,I3,st3,fr3,w3⟩;rcases turn i n Y3 H3 w3 with ⟨stop,qn⟩|⟨go,N,hN,step⟩
 .refine DF hp (thn (T.done X rfl rfl rfl hc i pI s3 Y3 H3 X.xe I3 (stat fr3) st3 stop) λr s4 ⟨hr,I4⟩=>?_)
  subst hr;exact Eo ⟨Y3,H3,I4,qn⟩
 .refine DF hp (thn (T.item X rfl rfl rfl hc i pI s3 Y3 H3 X.xe I3 (stat fr3) st3 go) λr s4 ⟨u,hr,h4⟩=>?_)
  subst hr;refine DF hp (thn h4 λ_ s5 ⟨x,H5,I5,r5,y5,st5,fr5⟩=>?_)
  have I5':=I5.pinned (stat fr5) (T.obj _ _ st5);refine DF hp (thn (hg _ s5 Y3 H5 x u _ I5' r5 (step x H5 y5)) λ_ s6 ⟨Y6,H6,I6,q6⟩=>?_)
  refine DF hp (thn (hb _ s6 Y6 H6 _ I6 q6) λf s7 q7=>?_)
  have again:∀{Y7:St}{H7:Hp},Inv X (pI++JY fp s5.heap) Y7 H7 s7->N Y7 H7->∃ m,m<n/\∃ i Y' H',Inv X pI Y' H' s7/\tn i s7.heap/\(∀ b∈fp,H' b=Ae)/\W i m Y' H':=λ{Y7 H7} I7 n7=>by
   obtain⟨m',hm,w7⟩:=hN Y7 H7 n7;refine⟨m',hm,i+1,Y7,H7,I7.unpinned,T.keep _ _ _ st5 λb hb o e=>(I7.pin (b,o) (Bh _ (Bh _ (Lm hb e)))).1,λb hb=>?_,w7⟩
   obtain⟨o,e,d⟩:=T.obj _ _ st5 b hb;exact(I7.pin (b,o) (Bh _ (Bh _ (Lm hb e)))).2.1
  cases f with
  |next=>obtain⟨Y7,H7,I7,n7⟩:=q7;exact again I7 n7
  |cont=>obtain⟨Y7,H7,I7,n7⟩:=q7;exact again I7 n7
  |brk=>obtain⟨Y7,H7,I7,q7⟩:=q7;exact⟨Y7,H7,I7.unpinned,q7⟩
  |ret v=>obtain⟨x7,Y7,H7,I7,r7,q7⟩:=q7;exact⟨x7,Y7,H7,I7.unpinned,r7,q7⟩
end
abbrev R2:=V->V->Hp->VK->Prop
variable{r:R2}
noncomputable def OpR(X:Cx)(f:Aj->Aj->FJ Aj)(r:R2):Prop:=
 ∀(pI:Pn)(s:Ap)(Y:St)(H:Hp)(x y:V)(v u:Aj)(Q:VK),Inv X pI Y H s->Bu x v->Bu y u->r x y H Q ->
  Av (model X.prog X.w) X.A (f v u) (EP X pI Y Q) X.xe s
noncomputable def UnR(X:Cx)(f:Aj->FJ Aj)(r:V->Hp->VK->Prop):Prop:=
 ∀(pI:Pn)(s:Ap)(Y:St)(H:Hp)(x:V)(v:Aj)(Q:VK),Inv X pI Y H s->Bu x v->r x H Q ->
  Av (model X.prog X.w) X.A (f v) (EP X pI Y Q) X.xe s
noncomputable def Hw(X:Cx)(f:Aj)(r:Ac V->Hp->VK->Prop):Prop:=
 ∀(pI:Pn)(s:Ap)(Y:St)(H:Hp)(xs:Ac V)(us:Ac Aj)(Q:VK),Inv X pI Y H s->A2 xs us->r xs H Q ->
  Av (model X.prog X.w) X.A (call f us) (EP X pI Y Q) X.xe s
noncomputable def Yt(X:Cx)(r:V->Hp->(Am->Hp->Prop)->Prop):Prop:=
 ∀(pI:Pn)(s:Ap)(Y:St)(H:Hp)(x:V)(v:Aj)(Q:Am->Hp->Prop),Inv X pI Y H s->Bu x v->r x H Q ->
  Av (model X.prog X.w) X.A (truthy v) (TP X pI Y Q) X.xe s
def tOp(r:R2)(ta tb:TE):TE:=λY H Q=>ta Y H λx H1=>tb Y H1 λy H2=>r x y H2 Q
def tUn(r:V->Hp->VK->Prop)(ta:TE):TE:=λY H Q=>ta Y H λx H1=>r x H1 Q
def rI(C:Ah->Ah->Prop)(g:Ah->Ah->V):R2:=λx y H Q=>∃ i j,x=.int i/\y=.int j/\C i j/\Q (g i j) H
def rI0(g:Ah->Ah->V):R2:=λx y H Q=>∃ i j,x=.int i/\y=.int j/\Q (g i j) H
def rU(g:Ah->V):V->Hp->VK->Prop:=λx H Q=>∃ i,x=.int i/\Q (g i) H
section
variable{X:Cx}{a b c:An}{ta tb tc:TE}{pos:AD}
theorem Qr(ha:PE X a ta)(hb:PE X b tb){R:V->V->Hp->Prop}(I:Inv X pI Y H s)(h:ta Y H λx H1=>tb Y H1 λy H2=>R x y H2){Q:Vq}(hf:∀ v u s2 x y H2,Inv X pI Y H2 s2->Bu x v->Bu y u->R x y H2->Av (model X.prog X.w) X.A (f v u) Q X.xe s2):Av (model X.prog X.w) X.A (eval a X.env) (λv s₁=>Av (model X.prog X.w) X.A (eval b X.env) (λu s₂=>Av (model X.prog X.w) X.A (f v u) Q X.xe s₂) X.xe s₁) X.xe s:=by
 refine thn (ha pI s Y H _ I h) λv s1 ⟨x,H1,I1,r1,q1⟩=>?_
 refine thn (hb pI s1 Y H1 _ I1 q1) λu s2 ⟨y,H2,I2,r2,q2⟩=>?_
 exact hf v u s2 x y H2 I2 r1 r2 q2
theorem Um{op:Fq}(ho:OpR X (B6 op) r)(ha:PE X a ta)(hb:PE X b tb):PE X (.BinOp a op b pos) (tOp r ta tb):=by
 intro pI s Y H Q I h;exact wpAny_BinOp (Qr ha hb I h λv u s2 x y H2 I2 rx ry q=>ho pI s2 Y H2 x y v u Q I2 rx ry q)
theorem sR{op:JG}{r:V->Hp->VK->Prop}(ho:UnR X (unaryOp op) r)(ha:PE X a ta):PE X (.UnaryOp op a pos) (tUn r ta):=by
 intro pI s Y H Q I h;exact UnaryOp_ (thn (ha pI s Y H _ I h) λv s1 ⟨x,H1,I1,r1,q1⟩=>ho pI s1 Y H1 x v Q I1 r1 q1)
theorem opI{C:Ah->Ah->Prop}(rule:∀(i j:Ah)(t u:Cz)(s:Ap)(Q:Vq)(E:Vq),C i j->Q (.int (g i j) s.toks) {s with toks:=s.toks+1}->Av (model X.prog X.w) X.A (f (.int i t) (.int j u)) Q E s):OpR X f (rI C λi j=>.int (g i j)):=by
 intro pI s Y H x y v u Q I rx ry h;obtain⟨i,j,rfl,rfl,hc,q⟩:=h;obtain⟨t,rfl⟩:=rx;obtain⟨t',rfl⟩:=ry;exact rule i j t t' s _ _ hc ⟨.int (g i j),H,I.tok _,⟨_,rfl⟩,q⟩
theorem UZ(rule:∀(i j:Ah)(t u:Cz)(s:Ap)(Q:Vq)(E:Vq),Q (.int (g i j) s.toks) {s with toks:=s.toks+1}->Av (model X.prog X.w) X.A (f (.int i t) (.int j u)) Q E s):OpR X f (rI0 λi j=>.int (g i j)):=by
 intro pI s Y H x y v u Q I rx ry h;obtain⟨i,j,rfl,rfl,q⟩:=h;obtain⟨t,rfl⟩:=rx;obtain⟨t',rfl⟩:=ry;exact rule i j t t' s _ _ ⟨.int (g i j),H,I.tok _,⟨_,rfl⟩,q⟩
theorem Nq{g:Ah->Ah->Am}(rule:∀(i j:Ah)(t u:Cz)(s:Ap)(Q:Vq)(E:Vq),Q (.bool (g i j)) s->Av (model X.prog X.w) X.A (f (.int i t) (.int j u)) Q E s):OpR X f (rI0 λi j=>.bl (g i j)):=by
 intro pI s Y H x y v u Q I rx ry h;obtain⟨i,j,rfl,rfl,q⟩:=h;obtain⟨t,rfl⟩:=rx;obtain⟨t',rfl⟩:=ry;exact rule i j t t' s _ _ ⟨.bl (g i j),H,I,rfl,q⟩
def Yx(i j:Ah):Prop:=0<j/\j<1073741824
def Yw(i j:Ah):Prop:=0<=j/\j<=1000000/\i.natAbs<2 ^ 64
def NC(i j:Ah):Prop:=(-(2 ^ 64)<i/\i<2 ^ 64)\/(-(2 ^ 64)<j/\j<2 ^ 64)
theorem NC.ok{i j:Ah}(h:NC i j):Lc i j:=by
 rcases h with ⟨h1,h2⟩|⟨h1,h2⟩
 .exact .of_left (intBits_le_64 h1 h2)
 .exact .of_right (intBits_le_64 h1 h2)
theorem lV:OpR X (B6 .Add) (rI0 λi j=>.int (i+j)):=UZ λ_ _ _ _ _ _ _ q=>add_int q
theorem lR:OpR X (B6 .Sub) (rI0 λi j=>.int (i-j)):=UZ λ_ _ _ _ _ _ _ q=>sub_int q
theorem hV:OpR X (B6 .FloorDiv) (rI Yx λi j=>.int (i/j)):=opI λi j _ _ _ _ _ hc q=>by
 have h1:(0:Ah)<j:=hc.1;have h2:j<1073741824:=hc.2;exact floordiv_int (by omega) (by rw[Int.fdiv_eq_ediv_of_nonneg i (by omega)];exact q) (.inl (PyProof.noPylong_small (by omega)))
theorem lT:OpR X (B6 .Mod) (rI (λ_ j=>0<j) λi j=>.int (i%j)):=opI λi j _ _ _ _ _ hc q=>by
 have h1:(0:Ah)<j:=hc;exact mod_int' (by omega) (by rw[Int.fmod_eq_emod_of_nonneg i (by omega)];exact q)
theorem lS:OpR X (B6 .Pow) (rI Yw λi j=>.int (i ^ j.toNat)):=opI λ_ _ _ _ _ _ _ hc q=>pow_int_small hc.1 hc.2.1 hc.2.2 q
theorem unI{f:Aj->FJ Aj}{g:Ah->Ah}(rule:∀(i:Ah)(t:Cz)(s:Ap)(Q:Vq)(E:Vq),Q (.int (g i) s.toks) {s with toks:=s.toks+1}->Av (model X.prog X.w) X.A (f (.int i t)) Q E s):UnR X f (rU λi=>.int (g i)):=by
 intro pI s Y H x v Q I rx h;obtain⟨i,rfl,q⟩:=h;obtain⟨t,rfl⟩:=rx;exact rule i t s _ _ ⟨.int (g i),H,I.tok _,⟨_,rfl⟩,q⟩
theorem kR:UnR X (unaryOp .USub) (rU λi=>.int (-i)):=unI λ_ _ _ _ _ q=>neg_int q
end
section
variable{X:Cx}{a b c:An}{ta tb tc:TE}{pos:AD}
theorem TN{Q:VK}{k k':Am}(I:Inv X pI Y H s)(q:Q (.bl k) H)(e:k=k'):EP X pI Y Q (.bool k') s:=by
 subst e;exact⟨.bl k,H,I,rfl,q⟩
theorem sY:OpR X (Cw .Lt) (rI0 λi j=>.bl (decide (i<j))):=Nq λ_ _ _ _ _ _ _ q=>lt_int q
theorem rK:OpR X (Cw .LtE) (rI0 λi j=>.bl (decide (i<=j))):=Nq λ_ _ _ _ _ _ _ q=>le_int q
theorem rL:OpR X (Cw .Gt) (rI0 λi j=>.bl (decide (j<i))):=Nq λ_ _ _ _ _ _ _ q=>gt_int q
theorem rM:OpR X (Cw .GtE) (rI0 λi j=>.bl (decide (j<=i))):=Nq λ_ _ _ _ _ _ _ q=>ge_int q
theorem lU:OpR X (Cw .Is) (λx y H Q=>y=.non/\Q (.bl (decide (x=.non))) H):=by
 intro pI s Y H x y v u Q I rx ry h;obtain⟨rfl,q⟩:=h;cases ry;refine is_none_gen (TN I q ?_);cases x<;>first
  |(cases rx;rfl)
  |(obtain⟨t,rfl⟩:=rx;rfl)
theorem hJ:OpR X (Cw .IsNot) (λx y H Q=>y=.non/\Q (.bl (!decide (x=.non))) H):=by
 intro pI s Y H x y v u Q I rx ry h;obtain⟨rfl,q⟩:=h;cases ry;refine isnot_none_gen (TN I q ?_);cases x<;>first
  |(cases rx;rfl)
  |(obtain⟨t,rfl⟩:=rx;rfl)
theorem gS(ho:OpR X (Cw op) r)(ha:PE X a ta)(hb:PE X b tb)(hm:GY op b=Ad):PE X (.Compare a [op] [b] pos) (tOp r ta tb):=by
 intro pI s Y H Q I h;exact wpAny_Compare1 (Qr ha hb I h λv u s2 x y H2 I2 rx ry q=>ho pI s2 Y H2 x y v u Q I2 rx ry q) hm
def Uc(t:TE):TT:=λY H Q=>t Y H λx H'=>∃ k,x=.bl k/\Q k H'
theorem gJ(ho:OpR X (Cw op) r)(ha:PE X a ta)(hb:PE X b tb)(hm:GY op b=Ad):PT X (.Compare a [op] [b] pos) (Uc (tOp r ta tb)):=by
 intro pI s Y H Q I h;refine wpAny_isTrue_Compare1 (thn (ha pI s Y H _ I h) λv s1 ⟨x,H1,I1,r1,q1⟩=>thn (hb pI s1 Y H1 _ I1 q1) λu s2 ⟨y,H2,I2,r2,q2⟩=>
  thn (ho pI s2 Y H2 x y v u _ I2 r1 r2 q2) λc s3 ⟨z,H3,I3,r3,k,e,q3⟩=>?_) hm
 subst e;cases r3;exact Cy ⟨H3,I3,q3⟩
def TV(r r':R2)(ta tb tc:TE):TE:=λY H Q=>ta Y H λx H1=>tb Y H1 λy H2=>r x y H2 λz H3=>∃ k,z=.bl k /\
 (if k=Ab then tc Y H3 λw' H4=>r' y w' H4 Q else Q (.bl Ad) H3)
theorem bZ{op':C5}{r':R2}(ho:OpR X (Cw op) r)(ho':OpR X (Cw op') r')(ha:PE X a ta)(hb:PE X b tb)(hc:PE X c tc)(hm:Jm [op,op'] [b,c]=Ad:=by with_unfolding_all rfl):PE X (.Compare a [op,op'] [b,c] pos) (TV r r' ta tb tc):=by
 intro pI s Y H Q I h;refine Compare_chain (thn (ha pI s Y H _ I h) λv s1 ⟨x,H1,I1,r1,q1⟩=>chain_link (thn (hb pI s1 Y H1 _ I1 q1) λu s2 ⟨y,H2,I2,r2,q2⟩=>
  thn (ho pI s2 Y H2 x y v u _ I2 r1 r2 q2) λd s3 ⟨z,H3,I3,r3,k,e,q3⟩=>?_)) hm
 subst e;cases r3;refine Cy ?_;cases k with
 |false=>exact ite_ff ⟨.bl Ad,H3,I3,rfl,q3⟩
 |true=>exact ite_tt (chain_last (thn (hc pI s3 Y H3 _ I3 q3) λw' s4 ⟨z',H4,I4,r4,q4⟩=>ho' pI s4 Y H4 y z' u w' Q I4 r2 r4 q4))
theorem bR{op':C5}{r':R2}(ho:OpR X (Cw op) r)(ho':OpR X (Cw op') r')(ha:PE X a ta)(hb:PE X b tb)(hc:PE X c tc)(hm:Jm [op,op'] [b,c]=Ad:=by with_unfolding_all rfl):PT X (.Compare a [op,op'] [b,c] pos) (Uc (TV r r' ta tb tc)):=by
 intro pI s Y H Q I h;refine isTrue_chain (thn (ha pI s Y H _ I h) λv s1 ⟨x,H1,I1,r1,q1⟩=>test_link (thn (hb pI s1 Y H1 _ I1 q1) λu s2 ⟨y,H2,I2,r2,q2⟩=>
  thn (ho pI s2 Y H2 x y v u _ I2 r1 r2 q2) λd s3 ⟨z,H3,I3,r3,k,e,q3⟩=>?_)) hm
 subst e;cases r3;refine Cy ?_;cases k with
 |false=>
  obtain⟨k',e',q'⟩:=q3;cases e';exact ite_ff ⟨H3,I3,q'⟩
 |true=>
  refine ite_tt (test_last (thn (hc pI s3 Y H3 _ I3 q3) λw' s4 ⟨z',H4,I4,r4,q4⟩=>thn (ho' pI s4 Y H4 y z' u w' _ I4 r2 r4 q4) λd' s5 ⟨z2,H5,I5,r5,k2,e2,q5⟩=>?_))
  subst e2;cases r5;exact Cy ⟨H5,I5,q5⟩
noncomputable def Vx(K:Fg)(x:V)(H:Hp)(k:Am):Prop:=
  match x with
  |.non=>k=Ad
  |.bl b=>k=b
  |.int i=>k=(i != 0)
  |.str y=>y.length<=sizeLine/\k=((y.length:Ah) != 0)
  |.byt y=>y.size<=sizeLine/\k=((y.size:Ah) != 0)
  |.ref p=>(∃ xs,SqL K H p xs/\k=!xs.isEmpty)\/(∃ xs,SqT K H p xs/\k=!xs.isEmpty)\/∃ kvs,H p=Aa (.dK kvs)/\k=!kvs.isEmpty
  |_=>AW
theorem Zl{κ:Type}{kvs:Ac (κ×V)}{vs:Ac (κ×Aj)}(r:KV kvs vs):(!vs.isEmpty)=!kvs.isEmpty:=by
 cases r<;>rfl
theorem QP{its:Ac Aj}(r:A2 xs its):(!its.toArray.isEmpty)=!xs.isEmpty:=by
 cases r<;>simp
theorem KB:(sizeLine:Af)<2 ^ 63:=by rw[Cj];decide
theorem kT:Yt X (λx H Q=>∃ k,Vx X.K x H k/\Q k H):=by
 intro pI s Y H x v Q I rx h;obtain⟨k,e,q⟩:=h;have hl:=KB;have hs:sizeLine=16777216:=Cj;cases x with
 |non=>
  cases rx;have e':k=Ad:=e;subst e';exact truthy_none ⟨H,I,q⟩
 |bl b=>
  cases rx;have e':k=b:=e;subst e';exact Cy ⟨H,I,q⟩
 |int i=>
  obtain⟨t,rfl⟩:=rx;have e':k=(i != 0):=e;subst e';exact PySem.P.truthy_int ⟨H,I,q⟩
 |str y=>
  obtain⟨t,rfl⟩:=rx;obtain⟨hy,e'⟩:y.length<=sizeLine/\k=((y.length:Ah) != 0):=e;subst e';exact PySem.P.truthy_str (by omega) ⟨H,I.tok _,q⟩
 |byt y=>
  obtain⟨t,rfl⟩:=rx;obtain⟨hy,e'⟩:y.size<=sizeLine/\k=((y.size:Ah) != 0):=e;subst e';exact PySem.W.truthy_bytes (by omega) ⟨H,I.tok _,q⟩
 |ref p=>
  cases rx;have e':(∃ xs,SqL X.K H p xs/\k=!xs.isEmpty)\/(∃ xs,SqT X.K H p xs/\k=!xs.isEmpty)\/∃ kvs,H p=Aa (.dK kvs)/\k=!kvs.isEmpty:=e;rcases e' with ⟨xs,hx,e'⟩|⟨xs,hx,e'⟩|⟨kvs,hx,e'⟩
  .subst e';obtain⟨its,r,pl,hz⟩:=I.list hx;have hlen:=r.length;exact wpAny_truthy_list pl.isList (by simp only[AN];omega) ⟨H,I.tok _,by rw[QP r];exact q⟩
  .subst e';obtain⟨its,r,pl,hz⟩:=I.tuple hx;have hlen:=r.length;exact truthy_tuple pl (by simp only[AN];omega) ⟨H,I.tok _,by rw[QP r];exact q⟩
  .subst e';obtain⟨hz,hS,vs,r,m⟩:kvs.length<=sizeLine/\(p==Kh)=Ad/\∃ vs,KV kvs vs/\s.heap.DictOf (OO X.prog X.w) p vs:=I.hok p _ hx;have hlen:kvs.length=vs.length:=Xo r;exact wpAny_truthy_dict hS m (by omega) ⟨H,I.tok _,by rw[Zl r];exact q⟩
 |_=>exact(show AW from e).elim
theorem ZW(ha:PE X a ta)(he:∀ whole,Ik a X.env whole=(do let v <-whole;standAt a.pos;holding [v] (truthy v))):PT X a (λY H Q=>ta Y H λx H'=>∃ k,Vx X.K x H' k/\Q k H'):=by
 intro pI s Y H Q I h;exact isTrue_plain (thn (ha pI s Y H _ I h) λv s1 ⟨x,H1,I1,r1,q1⟩=>kT pI s1 Y H1 x v Q I1 r1 q1) (he _)
theorem Zi:OpR X (B6 .Add) (λx y H Q=>∃ i j,x=.str i/\y=.str j/\i.length+j.length<=sizeLine/\Q (.str (i++j)) H):=by
 intro pI s Y H x y v u Q I rx ry h;obtain⟨i,j,rfl,rfl,hz,q⟩:=h;obtain⟨t,rfl⟩:=rx;obtain⟨t',rfl⟩:=ry;exact add_str (λt' tk=>⟨.str (i++j),H,I.tok _,⟨_,rfl⟩,q⟩) hz
theorem Hy{x:V}(r:A2 [x] us):∃ u,us=[u]/\Bu x u:=by
 cases r with
 |cons r1 r2=>cases r2;exact⟨_,rfl,r1⟩
theorem J3{x:V}(r:A2 [x,y] us):∃ u w',us=[u,w']/\Bu x u/\Bu y w':=by
 cases r with
 |cons r1 r2=>
  cases r2 with
  |cons r3 r4=>cases r4;exact⟨_,_,rfl,r1,r3⟩
theorem aN(hc:X.calm=Ab):Hw X (.builtin "min") (λxs H Q=>∃ i j,xs=[.int i,.int j]/\Q (.int (if j<i then j else i)) H):=by
 intro pI s Y H xs us Q I r h;obtain⟨i,j,rfl,q⟩:=h;obtain⟨u,w',rfl,⟨t,rfl⟩,⟨t',rfl⟩⟩:=J3 r;refine min_two_ints (I.ok.hd hc) λh' tk k=>⟨_,H,I.kept k,?_,q⟩
 by_cases hj:j<i
 .rw[At hj,At hj];exact⟨_,rfl⟩
 .rw[AC hj,AC hj];exact⟨_,rfl⟩
theorem YW:Hw X (.type "str") (λxs H Q=>∃ i,xs=[.int i]/\i.natAbs.log2<1920/\Q (.str (toString i)) H):=by
 intro pI s Y H xs us Q I r h;obtain⟨i,rfl,hz,q⟩:=h;obtain⟨u,rfl,t,rfl⟩:=Hy r;exact PySem.P.str_of_int hz ⟨.str _,H,I.tok _,⟨_,rfl⟩,q⟩
end
structure ObjM (h:AG) (x dx C:Ak) (mA:Ag->Ao Aj):Prop where
 obj:h.get? x=Aa (Dj C dx)
 ns:h.Ns1 dx mA
 ne:dx≠x
theorem ZF(n:h.Ns1 dx mA):∃ od,h.get? dx=Aa od/\∀ name,GC name od=Aa (mA name):=by
 obtain⟨o,es,ep,ho,hd,hk,_,hm⟩:=n;refine⟨o,ho,λname=>?_⟩
 have e:=hm name;unfold nsFind findBy at e;rw[<-VJ]at e;unfold GC;rw[hd];dsimp only;split
 .rename_i y q;rw[q]at e;exact congrArg Aa e
 .rename_i q;rw[q]at e;have a:es.toList.any (·.refKey)=Ad:=by
   rw[List.any_eq_false];intro y hy;obtain⟨z,t,hkey⟩:=hk y (VL.mp hy);simp[DictEntry.refKey,hkey]
  have a':¬ es.toList.any (·.refKey)=Ab:=by rw[a];exact Ay
  rw[AC a'];exact congrArg Aa e
theorem ObjM.look{x:Ak}(I:ObjM h x dx C mA):∃ od,PySem.W.InstAt h x (Dj C dx) C (Aa od)/\∀ name,GC name od=Aa (mA name):=
 let ⟨od,ho,hl⟩:=ZF I.ns
 ⟨od,⟨I.obj,rfl,rfl,ho⟩,hl⟩
section
variable{prog:AM}{w:AA}{A:AU}{E:Vq}{s:Ap}{K:Fg}{x dx C f:Ak}{mA:Ag->Ao Aj}{name:Ag}{v:Aj}
theorem iX{expr:Am}{Q:Vq}(X:K.In s.heap)(I:ObjM s.heap x dx C mA)(hg:ER K C name=Ab)(hh:FK K C=Ab)(ha:Ar K (.ref C) name=Aa Ae)(hv:mA name=Aa v)(hv':XX v=Ab)(h:Q v {s with toks:=s.toks+1}):Av (model prog w) A (JH (.ref x) name expr) Q E s:=by
 obtain⟨od,J,hl⟩:=I.look;exact PySem.W.get_value X J (Gy hg).1 (PySem.W.findObj_own hh ha rfl (by rw[hl,hv])) hv' h
theorem bO{Q:Aj×Ac Aj->Ap->Prop}(X:K.In s.heap)(I:ObjM s.heap x dx C mA)(hg:ER K C name=Ab)(hf:Ar K (.ref C) name=Aa (Aa (.ref f)))(ht:Dx K (.ref f)=Ab)(hv:mA name=Ae)(h:Q (.ref f,[.ref x]) s):Av (model prog w) A (getMethod (.ref x) name pl) Q E s:=by
 obtain⟨od,J,hl⟩:=I.look;exact PySem.W.method_fn X J (Gy hg).1 (Gy hg).2 hf (AH.mp ht) (by show (GC name od).map (·.isSome)=Aa Ad;rw[hl,hv];rfl) h
theorem eC{ns:Ac Ag}(X:K.In s.heap)(I:ObjM s.heap x dx C mA)(hs:Ar K (.ref C) "__setattr__" = Aa (Aa (.builtin "object.__setattr__")))(hp:G9 K C=Ab)(ht:HL K C name=Aa Ae)(hh:FK K C=Ab)(hw:Jj mA ns)(hsz:ns.length<=sizeLine)(h:∀ h',ObjM h' x dx C (λy=>if y=name then Aa v else mA y)->EF dx s.heap h'->Q () {s with heap:=h',toks:=s.toks+2}):Av (model prog w) A (Kk (.ref x) name v) Q E s:=by
  obtain⟨od,J,hl⟩:=I.look;refine PySem.W.set_plain X J hs (PySem.W.osa_open (s:={s with toks:=s.toks+1}) (r:=Ae) X J hp ht λb=>?_)
  obtain⟨cd,hc,hd'⟩:=PySem.W.any_some hh;have hx:s.heap.get? x=Aa ⟨.ref C,Aa dx,.plain,#[]⟩:=I.obj;refine Aq (AT (Aq (Aq (Yk hx (Aq (PySem.W.Looks.here (s:={s with toks:=s.toks+1}) (PySem.W.looks_clsIn X hc) ?_))))))
  rw[hd'];refine AT (a:=Aa dx) (Aq (AT (Aq ?_)));refine wpAny_nsSet1 (s:={s with toks:=s.toks+1}) I.ns λh' hn2 hs2=>?_
  obtain⟨oD,esD,epD,hoD,hdD,hcD⟩:=hn2.count (PySem.Within.cons name v hw);refine Aq (Yl hoD (by rw[hdD];exact Yd (By hcD (by rw[A7];omega))) ?_)
  exact AT (h _ ⟨(hs2.2 _ (CI I.ne)).trans I.obj,hn2,I.ne⟩ hs2)
theorem bC{R:Hn->Ap->Prop}{vs:Ac Aj}(X:K.In s.heap)(hm:HK K C=Ab)(hi:Ar K (.ref C) "__init__" = Aa (Aa (.ref f)))(hf:Dh K (.ref f)=Aa (.type "function"))(h:EG (model prog w) (A.under (.builtin "type.__call__" ⟨.ref C::vs,kw⟩)) (.call (.ref f) ⟨.ref (s.heap.objs.size+1)::vs,kw⟩) (PySem.W.InitBack (s.heap.objs.size+1) R)
      {s with heap:=(s.heap.push Cv).push (Dj C s.heap.objs.size)}):EG (model prog w) A (.call (.ref C) ⟨vs,kw⟩) R s:=by
  obtain⟨hh,g,d,t,os⟩:=s;exact PySem.W.make_core (PySem.W.makes_of X hm) (Cc X hi) (λself=>PySem.W.bind_fn X self hf) (.inl rfl) h
end
noncomputable def Ff(f:Ag)(v:V):Ac (Ag×V)->Ac (Ag×V)
 |[]=>[(f,v)]
 |(g,x)::r=>if g=f then (g,v)::r else (g,x)::Ff f v r
theorem QB(f g:Ag)(v:V):∀ fs:Ac (Ag×V),(Ff f v fs).lookup g=if g=f then Aa v else fs.lookup g
 |[]=>by
  show BZ g [(f,v)]=_;by_cases h:g=f
  .have hb:(g==f)=Ab:=AH.mpr h;simp only[BZ,hb,At h]
  .have hb:(g==f)=Ad:=CV.mpr h;simp only[BZ,hb,AC h]
 |(k,x)::r=>by
  have ih:=QB f g v r;rw[show Ff f v ((k,x)::r)=(if k=f then (k,v)::r else (k,x)::Ff f v r) from rfl]
  by_cases hk:k=f
  .rw[At hk];by_cases h:g=k
   .have hb:(g==k)=Ab:=AH.mpr h;simp only[BZ,hb,At (h.trans hk)]
   .have hb:(g==k)=Ad:=CV.mpr h;simp only[BZ,hb,AC (λe:g=f=>h (e.trans hk.symm))]
  .rw[AC hk];by_cases h:g=k
   .have hb:(g==k)=Ab:=AH.mpr h;simp only[BZ,hb,AC (λe:g=f=>hk (h.symm.trans e))]
   .have hb:(g==k)=Ad:=CV.mpr h;simp only[BZ,hb];exact ih
theorem Oa(f:Ag)(v:V):∀ fs:Ac (Ag×V),f∈(Ff f v fs).map (·.1)/\∀ g,g∈fs.map (·.1)->g∈(Ff f v fs).map (·.1)
 |[]=>⟨by simp[Ff],λg h=>by simp at h⟩
 |(k,x)::r=>by
  obtain⟨i1,i2⟩:=Oa f v r;rw[show Ff f v ((k,x)::r)=(if k=f then (k,v)::r else (k,x)::Ff f v r) from rfl]
  by_cases hk:k=f
  .rw[At hk];subst hk;exact⟨by simp,λg h=>by simpa using h⟩
  .rw[AC hk];refine⟨?_,λg h=>?_⟩
   .rw[A4];exact Aw _ i1
   .rw[A4]at h ⊢;rcases AI.mp h with e|e
    .exact List.mem_cons.mpr (.inl e)
    .exact Aw _ (i2 g e)
theorem QC(f:Ag)(v:V):∀ fs:Ac (Ag×V),(Ff f v fs).length<=fs.length+1
 |[]=>by simp[Ff]
 |(k,x)::r=>by
  have ih:=QC f v r;rw[show Ff f v ((k,x)::r)=(if k=f then (k,v)::r else (k,x)::Ff f v r) from rfl]
  by_cases hk:k=f
  .rw[At hk,A7,A7];omega
  .rw[AC hk,A7,A7];omega
theorem HE.some_of{o:Ao Aj}(r:HE (Aa v) o):∃ u,o=Aa u/\Bu v u:=by
 cases o with
 |none=>exact(show AW from r).elim
 |some u=>exact⟨u,rfl,r⟩
theorem HE.none_of{o:Ao Aj}(r:HE Ae o):o=Ae:=by
 cases o with
 |none=>rfl
 |some u=>exact(show AW from r).elim
theorem Rr(r:Bu v u):XX u=Ab:=by
 cases v with
 |non=>cases (show u=CD from r);rfl
 |bl b=>cases (show u=Ip b from r);rfl
 |int i=>obtain⟨t,e⟩:=(show ∃ t,u=Jh i t from r);cases e;rfl
 |str x=>obtain⟨t,e⟩:=(show ∃ t,u=Ji x t from r);cases e;rfl
 |byt b=>obtain⟨t,e⟩:=(show ∃ t,u=XM b t from r);cases e;rfl
 |flt b=>obtain⟨t,e⟩:=(show ∃ t,u=JK b t from r);cases e;rfl
 |ref a=>cases (show u=Bk a from r);rfl
 |ty n=>cases (show u=Kf n from r);rfl
section
variable{P:AM}{w:AA}{H H':Hp}{h h':AG}{a C dx:Ak}{fs fs':Ac (Ag×V)}
theorem MI(hok:HOk P w H h)(e:H a=Aa (.ins C dx fs)):∃ mA,ObjM h a dx C mA/\(∀ f,HE (fs.lookup f) (mA f))/\Jj mA (fs.map (·.1))/\fs.length<=1000/\H dx=Aa (.own a):=by
 obtain⟨d,z,ne,ob,mA,n,r,q⟩:=(show ObjOk P w H h a (.ins C dx fs) from hok a _ e)
 exact⟨mA,⟨ob,n,ne⟩,r,q,z,d⟩
end
structure Cls (K:Fg) (C:Ak):Prop where
 pg:ER K C Do=Ab
 hd:FK K C=Ab
 po:G9 K C=Ab
 sa:Ar K (.ref C) "__setattr__" = Aa (Aa (.builtin "object.__setattr__"))
theorem Cls.get{K:Fg}(c:Cls K C)(f:Ag):ER K C f=Ab:=c.pg
def G1(K:Fg)(C:Ak)(f:Ag):Prop:=Ar K (.ref C) f=Aa Ae
theorem G1.taker{K:Fg}{f:Ag}(n:G1 K C f):HL K C f=Aa Ae:=by
 unfold HL;rw[show Ar K (.ref C) f=Aa Ae from n]
 rfl
structure Meth (K:Fg) (C:Ak) (m:Ag) (f:Ak):Prop where
 at_:Ar K (.ref C) m=Aa (Aa (.ref f))
 fn:Dx K (.ref f)=Ab
 kp:Bi K (.ref f)=Ab
section
variable{X:Cx}{pI:Pn}{Y:St}{H:Hp}{s:Ap}{a C dx:Ak}{fs:Ac (Ag×V)}{f:Ag}{v:V}{A:AU}{E:Vq}
theorem Zo{b:Am}{Q:Vq}(I:Inv X pI Y H s)(e:H a=Aa (.ins C dx fs))(c:Cls X.K C)(n:G1 X.K C f)(l:fs.lookup f=Aa v)(h:∀ u s',Inv X pI Y H s'->Bu v u->Q u s'):Av (model X.prog X.w) A (JH (.ref a) f b) Q E s:=by
 obtain⟨mA,O,r,_,_,_⟩:=MI I.hok e;obtain⟨u,hu,ru⟩:=HE.some_of (v:=v) (o:=mA f) (by rw[<-l];exact r f)
 exact iX I.kIn O (c.get f) c.hd n hu (Rr ru) (h u _ (I.tok _) ru)
theorem Zn{m:Ag}{g:Ak}{Q:Aj×Ac Aj->Ap->Prop}(I:Inv X pI Y H s)(e:H a=Aa (.ins C dx fs))(c:Cls X.K C)(k:Meth X.K C m g)(l:fs.lookup m=Ae)(h:Q (.ref g,[.ref a]) s):Av (model X.prog X.w) A (getMethod (.ref a) m pl) Q E s:=by
 obtain⟨mA,O,r,_,_,_⟩:=MI I.hok e;have hn:mA m=Ae:=HE.none_of (by rw[<-l];exact r m)
 exact bO I.kIn O (c.get m) k.at_ k.fn hn h
theorem Y_3(I:Inv X pI Y H s)(e:H a=Aa (.ins C dx fs))(c:Cls X.K C)(n:G1 X.K C f)(hl:fs.length<1000)(ry:Bu y u)(h:∀ s',Inv X pI Y (upd H a (.ins C dx (Ff f y fs))) s'->Q () s'):Av (model X.prog X.w) A (Kk (.ref a) f u) Q E s:=by
 obtain⟨mA,O,r,wi,_,ho⟩:=MI I.hok e;have hz:(fs.map (·.1)).length<=sizeLine:=by rw[Bo,Cj];omega
 refine eC I.kIn O c.sa c.po n.taker c.hd wi hz λh' O' sb=>h _ ?_
 have hd:∃ o,h'.get? dx=Aa o:=let ⟨o,_,_,e',_⟩:=O'.ns;⟨o,e'⟩
 refine I.write (x:=a) (e:=dx) (by rw[e];exact FD) (.inr ho) (λb q hb z=>(sb.2 b hb).trans z) hd ?_
 refine⟨by rw[Bj O.ne];exact ho,?_,O.ne,O'.obj,_,O'.ns,λg=>?_,λg hg=>?_⟩
 .have:=QC f y fs;omega
 .show HE ((Ff f y fs).lookup g) (if g=f then Aa u else mA g)
  rw[QB];by_cases q:g=f
  .rw[At q,At q];exact ry
  .rw[AC q,AC q];exact r g
 .by_cases q:g=f
  .rw[q];exact(Oa f y fs).1
  .refine(Oa f y fs).2 g (wi g λz=>hg ?_)
   show (if g=f then Aa u else mA g)=Ae
   rw[AC q];exact z
theorem Inv.made(I:Inv X pI Y H s):Inv X pI Y (upd (upd H s.heap.objs.size (.own (s.heap.objs.size+1))) (s.heap.objs.size+1) (.ins C s.heap.objs.size [])) {s with heap:=(s.heap.push Cv).push (Dj C s.heap.objs.size)}:=by
  have e1:(s.heap.push Cv).get? s.heap.objs.size=Aa Cv:=A3 s.heap rfl;have e2:((s.heap.push Cv).push (Dj C s.heap.objs.size)).get? (s.heap.objs.size+1)=Aa (Dj C s.heap.objs.size):=by
    have:=A3 (s.heap.push Cv) (o:=Dj C s.heap.objs.size) rfl
    rwa [Dt]at this
  have e3:(s.heap.push Cv).Ns s.heap.objs.size (λ_=>Ae):=⟨Cv,#[],_,e1,rfl,(λe he=>absurd he (by simp)),λ_=>rfl⟩
  have I1:=I.laid (a:=s.heap.objs.size) (o:=.own (s.heap.objs.size+1)) (h':=s.heap.push Cv) (t':=s.toks) (λb u q=>Au _ q) (AL _) ⟨_,e1⟩
  refine I1.laid (a:=s.heap.objs.size+1) (o:=.ins C s.heap.objs.size []) (t':=s.toks) (λb u q=>Au _ q) (Wj (Dt _ _)) ?_
  have ne:s.heap.objs.size≠s.heap.objs.size+1:=Bm (F0 _);refine⟨by rw[Bj ne,DJ],DW _,ne,e2,λ_=>Ae,(Xi e3).at λo q=>Au _ q,λ_=>FD,λy hy=>absurd rfl hy⟩
theorem S9{prog:AM}{w:AA}{env:Ci}{f:Ag}{Q:Vq}(hb:C8 e f env (eval e env)=eval e env)(h:Av (model prog w) A (eval e env) (λo s₁=>Av (model prog w) A (JH o f Ab) Q E s₁) E s):Av (model prog w) A (eval (.Attribute e f pos) env) Q E s:=
 Attribute_any_ h (by rw[arm_eval_Attribute,hb])
end
def tZ(K:Fg)(ta tv:TE)(f:Ag):TS:=λD Y H=>tv Y H λy H1=>ta Y H1 λx H2=>∃ a C dx fs,x=.ref a/\H2 a=Aa (.ins C dx fs)/\Cls K C/\G1 K C f/\fs.length<1000 /\
 D.nx Y (upd H2 a (.ins C dx (Ff f y fs)))
section
variable{X:Cx}{o e value:An}{f:Ag}{pos pos' tpos:AD}{ta tv:TE}
theorem Tu(ha:PE X o ta)(hv:PE X value tv)(hs:CS value (Aa (.Attribute o f pos')) pos.line X.env=pure Ad):PS X (.Assign [.Attribute o f pos'] value pos) (tZ X.K ta tv f):=by
 intro pI s Y H D I h;refine Ye (thn (hv pI s Y H _ I h) λu s1 ⟨y,H1,I1,ry,q⟩=>thn (ha pI s1 Y H1 _ I1 q) λov s2 ⟨x,H2,I2,rx,a,C,dx,fs,ex,ea,c,n,l,q2⟩=>?_) hs
 subst ex;obtain rfl:ov=Bk a:=rx;exact Y_3 I2 ea c n l ry λs3 I3=>⟨Y,_,I3,q2⟩
end
section
variable{X:Cx}{pI:Pn}{Y:St}{H:Hp}{s:Ap}{A:AU}{E:Vq}{Q:Vq}{c:Aj}{b:Am}
inductive TyOf (K:Fg) (H:Hp):V->Aj->Prop where
  |non:TyOf K H .non (.type "NoneType")
  |bl (x:Am):TyOf K H (.bl x) (.type "bool")
  |int (i:Ah):TyOf K H (.int i) (.type "int")
  |str (x:Ag):TyOf K H (.str x) (.type "str")
  |flt (x:UInt64):TyOf K H (.flt x) (.type "float")
  |lst {a:Ak} {xs:Ac V} (e:H a=Aa (.lst xs)):TyOf K H (.ref a) (.type "list")
  |frz {a:Ak} {o:C9} {xs:Ac V} (e:H a=Aa (.frz o (.lst xs))):TyOf K H (.ref a) (.type "list")
  |tup {a:Ak} {xs:Ac V} (e:H a=Aa (.tup xs)):TyOf K H (.ref a) (.type "tuple")
  |dK {a:Ak} {kvs:Ac (Key×V)} (e:H a=Aa (.dK kvs)):TyOf K H (.ref a) (.type "dict")
  |dT {a:Ak} {kvs:Ac (Ac Key×V)} (e:H a=Aa (.dT kvs)):TyOf K H (.ref a) (.type "dict")
  |ins {a C dx:Ak} {fs:Ac (Ag×V)} (e:H a=Aa (.ins C dx fs)) (cl:Cls K C) (ha:Ar K (.ref C) "__class__" = Aa (Aa (.builtin "object.__class__")))
      (hn:B2 K (.builtin "object.__class__") "__get__" = Aa (Aa (.builtin "getset_descriptor.__get__"))) (htk:HM K (.builtin "object.__class__")=Aa Ab)
      (hm:B7 K C (.type "object")=Aa Ab):TyOf K H (.ref a) (.ref C)
theorem ZG{x:V}{t:Aj}(I:Inv X pI Y H s)(rx:Bu x u)(ty:TyOf X.K H x t)(e:BW X.K t c=Aa b)(h:∀ tk,Q (.bool b) {s with toks:=tk}):
  Av (model X.prog X.w) A (call (.builtin "isinstance") [u,c]) Q E s:=by
 cases ty with
 |non=>cases (show u=CD from rx);exact Cb PySem.W.kitx_none I.kIn FD e (λz=>nomatch z) h
 |bl y=>cases (show u=Ip y from rx);exact Cb PySem.W.kitx_bool I.kIn FD e (λz=>nomatch z) h
 |int i=>obtain⟨t,q⟩:=(show ∃ t,u=Jh i t from rx);cases q;exact Cb PySem.W.kitx_int I.kIn FD e (λz=>nomatch z) h
 |str y=>obtain⟨t,q⟩:=(show ∃ t,u=Ji y t from rx);cases q;exact Cb PySem.W.kitx_str I.kIn FD e (λz=>nomatch z) h
 |flt y=>obtain⟨t,q⟩:=(show ∃ t,u=JK y t from rx);cases q;exact Cb PySem.W.kitx_float I.kIn FD e (λz=>nomatch z) h
 | @lst a xs ea=>
  cases (show u=Bk a from rx)
  obtain⟨_,_,n,_,h1⟩:=(show ObjOk X.prog X.w H s.heap a (.lst xs) from I.hok a _ ea)
  exact Cb X3 I.kIn ⟨_,h1,rfl⟩ e (λz=>nomatch z) h
 | @frz a ob xs ea=>
  cases (show u=Bk a from rx)
  obtain⟨_,_,_,n,_,h1⟩:=(show ObjOk X.prog X.w H s.heap a (.frz ob (.lst xs)) from I.hok a _ ea)
  exact Cb X3 I.kIn ⟨_,h1,rfl⟩ e (λz=>nomatch z) h
 | @tup a xs ea=>
  cases (show u=Bk a from rx)
  obtain⟨_,_,_,p⟩:=(show ObjOk X.prog X.w H s.heap a (.tup xs) from I.hok a _ ea)
  obtain⟨o,h1,h2,_⟩:=p;exact Cb PySem.W.kitx_tuple I.kIn ⟨o,h1,h2⟩ e (λz=>nomatch z) h
 | @dK a kvs ea=>
  cases (show u=Bk a from rx)
  obtain⟨_,_,vs,_,p⟩:=(show ObjOk X.prog X.w H s.heap a (.dK kvs) from I.hok a _ ea)
  obtain⟨o,es,ep,h1,h2,_⟩:=p;exact Cb X2 I.kIn ⟨o,h1,h2.1⟩ e (λz=>nomatch z) h
 | @dT a kvs ea=>
  cases (show u=Bk a from rx)
  obtain⟨_,_,xs,_,o,es,ep,h1,h2,_⟩:=(show ObjOk X.prog X.w H s.heap a (.dT kvs) from I.hok a _ ea)
  exact Cb X2 I.kIn ⟨o,h1,h2.1⟩ e (λz=>nomatch z) h
 | @ins a C dx fs ea cl ha hn htk hm=>
  cases (show u=Bk a from rx)
  obtain⟨mA,O,_⟩:=MI I.hok ea;obtain⟨od,J,_⟩:=O.look;exact Cb (PySem.W.kitx_own (cl.get _) cl.hd ha hn htk hm) I.kIn J e (λz=>nomatch z) h
end
structure Room (k:Af) (A:AU):Prop where
 hd:A.handled=Ae
 dp:A.depth+3*k+5<Im
 un:A.units+16*k+200<BG
 gd:A.guards=Aa []
theorem Room.mono{j:Af}{A:AU}(r:Room k A)(h:j<=k):Room j A:=⟨r.hd,by have:=r.dp;omega,by have:=r.un;omega,r.gd⟩
theorem Room.deeper{A:AU}(r:Room (k+1) A)(env:Ci):Room k (A.deeper env):=
 ⟨r.hd,by have:=r.dp;show A.depth+1+3*k+5<_;omega,by have:=r.un;show A.units+3+16*k+200<_;omega,r.gd⟩
theorem N3{A:AU}:(A.under (.builtin "type.__call__" ⟨.ref C::us,kw⟩)).depth=A.depth+1:=by
 first|rfl|simp[Jd,Code.weight,Code.isCreation,Code.isGuard,Code.isCaller,WC,Je,guardIds]
theorem N2{A:AU}:(A.under (.builtin "type.__call__" ⟨.ref C::us,kw⟩)).units=A.units+1:=by
 first|rfl|simp[Jd,Code.cUnits,WC,Je]
theorem Room.make{A:AU}(r:Room (k+1) A)(C:Ak)(us:Ac Aj)(kw:Ac (Ag×Aj)):Room k (A.under (.builtin "type.__call__" ⟨.ref C::us,kw⟩)):=
 ⟨r.hd,by have:=r.dp;rw[N3];omega,by have:=r.un;rw[N2];omega,r.gd⟩
theorem Room.depth{A:AU}(r:Room k A):A.depth<Im:=by have:=r.dp;omega
theorem Room.units{A:AU}(r:Room k A):A.units+64<BG:=by have:=r.un;omega
def uH:TA:=λ_ H Q=>Q [] H
def pS(ta:TE)(tr:TA):TA:=λY H Q=>ta Y H λx H1=>tr Y H1 λxs H2=>Q (x::xs) H2
section
variable{X:Cx}{e:An}{es:Ac An}{te:TE}{t:TA}{pos:AD}
theorem Ft:PA X [] uH:=λ_ _ _ _ H Q I h=>Calls.spliced_nil ⟨[],H,I,.nil,h⟩
theorem DT(ha:PE X e te)(hr:PA X es t)(hs:As (e::es) X.env=(Ad,eval e X.env)::As es X.env:=by rfl):PA X (e::es) (pS te t):=by
 intro pos pI s Y H Q I h;rw[hs];show Av _ _ (spliced ((Ad,eval e X.env)::BA pos (As es X.env))) _ _ s;refine Calls.spliced_cons (thn (ha pI s Y H _ I h) λu s1 ⟨x,H1,I1,r1,q1⟩=>?_)
 exact thn (hr pos pI s1 Y H1 _ I1 q1) λus s2 ⟨xs,H2,I2,r2,q2⟩=>⟨x::xs,H2,I2,.cons r1 r2,q2⟩
def uC(t:TA):TE:=λY H Q=>t Y H λxs H1=>xs.length<=sizeLine/\∀ p,H1 p=Ae->Q (.ref p) (upd H1 p (.tup xs))
def uI(t:TA):TE:=λY H Q=>t Y H λxs H1=>xs.length<=sizeLine/\∀ p,H1 p=Ae->Q (.ref p) (upd H1 p (.lst xs))
theorem Tw{x1}(h:PA X es t):PE X (.Tuple es x1 pos) (uC t):=by
 intro pI s Y H Q I hq;refine wpAny_Tuple_spliced (thn (h pos pI s Y H _ I hq) λus s1 ⟨xs,H1,I1,r,z,q⟩=>⟨by rw[<-r.length];exact z,?_⟩)
 have hf:H1 s1.heap.objs.size=Ae:=I1.hok.fresh (AL _);refine⟨.ref s1.heap.objs.size,upd H1 s1.heap.objs.size (.tup xs),I1.laid (t':=s1.toks) (λb u e=>Au _ e) (AL _) ?_,rfl,q _ hf⟩
 exact⟨z,us,r,⟨_,A3 _ rfl,rfl,_,rfl⟩⟩
theorem lO(h:PA X es t):PE X (.List es pos) (uI t):=by
 intro pI s Y H Q I hq;refine wpAny_List_spliced (thn (h pos pI s Y H _ I hq) λus s1 ⟨xs,H1,I1,r,z,q⟩=>⟨by rw[<-r.length];exact z,?_⟩)
 have hf:H1 s1.heap.objs.size=Ae:=I1.hok.fresh (AL _);refine⟨.ref s1.heap.objs.size,upd H1 s1.heap.objs.size (.lst xs),I1.laid (t':=s1.toks) (λb u e=>Au _ e) (AL _) ?_,rfl,q _ hf⟩
 exact⟨z,us,0,r,A3 _ rfl⟩
end
abbrev Sp:=Ac V->Hp->VK->XK->Prop
variable{sp:Sp}
abbrev CXT:=Ac Ci->Hp->Ap->XK->Aj->Ap->Prop
variable{CX:CXT}
structure Env0 (P:AM) (w:AA) (K:Fg) (mg:Ag->Ao Aj) (base:AG) (A:AU) (outer:Ac Ci) (s:Ap) (H:Hp):Prop where
 frames:A.frames=Aa outer
 mod:Mod K mg base
 bs:∀ b o,base.get? b=Aa o->s.heap.get? b=Aa o/\H b=Ae
 bsz:base.objs.size<=s.heap.objs.size
 funs:s.heap.FunFrames base outer
 frf:∀ b∈frs outer,H b=Ae
 hok:HOk P w H s.heap
 bare:FA s.gens
noncomputable def CE(outer:Ac Ci)(P:AM)(w:AA)(H:Hp)(s:Ap)(Q:VK)(u:Aj)(s':Ap):Prop:=
 ∃ v H',s'.os=s.os/\FA s'.gens/\Un (frs outer) [] H H' s.heap s'.heap/\HOk P w H' s'.heap/\Bu v u/\Q v H'
noncomputable def CR(CX:CXT)(outer:Ac Ci)(P:AM)(w:AA)(H:Hp)(s:Ap)(Q:VK)(E:XK)(r:Hn)(s':Ap):Prop:=
  match r with
  |.ok (.ret u)=>CE outer P w H s Q u s'
  |.ok _=>AW
  |.error e=>CX outer H s E e s'
structure FnOk (P:AM) (w:AA) (K:Fg) (mg:Ag->Ao Aj) (base:AG) (CX:CXT) (k:Af) (f:Ak) (fd:BE) (ps:Ac Ag) (sp:Sp):Prop where
 len:∀ vs H Q E,sp vs H Q E->vs.length=ps.length
 run:∀(A:AU)(outer:Ac Ci)(s:Ap)(H:Hp)(args:Args)(us:Ac Aj)(vs:Ac V)(Q:VK)(E:XK),Room k A->Env0 P w K mg base A outer s H->GB s fd args (ps.zip us)->A2 vs us->sp vs H Q E ->
  EG (model P w) A (.call (.ref f) args) (CR CX outer P w H s Q E) s
theorem FnOk.imp{w:AA}{K:Fg}{mg:Ag->Ao Aj}{base:AG}{f:Ak}{sp':Sp}(F:FnOk P w K mg base CX k f fd ps sp)(h:∀ vs H Q E,sp' vs H Q E->sp vs H Q E):FnOk P w K mg base CX k f fd ps sp':=
 ⟨λvs H Q E q=>F.len vs H Q E (h _ _ _ _ q),λA outer s H args us vs Q E hr he hb hv hs=>F.run A outer s H args us vs Q E hr he hb hv (h _ _ _ _ hs)⟩
theorem Env0.make{w:AA}{K:Fg}{mg:Ag->Ao Aj}{base:AG}{A:AU}{outer:Ac Ci}(e:Env0 P w K mg base A outer s H)(C:Ak)(us:Ac Aj)(kw:Ac (Ag×Aj)):
    Env0 P w K mg base (A.under (.builtin "type.__call__" ⟨.ref C::us,kw⟩)) outer s H:=⟨by first|exact e.frames|(simpa [Jd,Code.envs,Je,pushEnvs] using e.frames),e.mod,e.bs,e.bsz,e.funs,e.frf,e.hok,e.bare⟩
section
variable{X:Cx}{pI:Pn}{Y:St}{H:Hp}{s s':Ap}
theorem Inv.env0(I:Inv X pI Y H s):Env0 X.prog X.w X.K X.mg X.base X.A X.stack s H:=
 ⟨I.ok.frames,I.ok.mod,I.bs,By I.ok.bsz I.sz,I.stack,I.stkFree,I.hok,I.bare⟩
theorem Inv.after{Q:VK}(I:Inv X pI Y H s)(h:CE X.stack X.prog X.w H s Q u s'):EP X pI Y Q u s':=by
 obtain⟨v,H',os,bare,un,hok,r,q⟩:=h;obtain⟨hh,g,d,t,os'⟩:=s';obtain rfl:os'=s.os:=os;exact⟨v,H',I.call (h':=hh) (g':=g) (d':=d) (t':=t) (ch:=[]) un hok bare (λb z=>absurd z (by simp)),r,q⟩
end
def pT(sp:Sp)(dvs:Ac V)(E:XK)(t:TA):TE:=λY H Q=>t Y H λvs H1=>sp (vs++dvs) H1 Q E
noncomputable def EK(K:Fg)(fd:BE)(ps:Ac Ag)(ds:Ac Aj):Prop:=
 ∀(s:Ap)(us:Ac Aj),K.In s.heap->(us++ds).length=ps.length->GB s fd ⟨us,[]⟩ (ps.zip (us++ds))
theorem EK.all{K:Fg}(h:∀ us:Ac Aj,us.length=ps.length->F2 fd ⟨us,[]⟩=pure (ps.zip us)):EK K fd ps []:=λs us _ hl=>by
 rw[CC]at hl ⊢;exact .of_eq (h us hl)
def IH(CX:CXT)(X:Cx)(E:XK):Prop:=∀(pI:Pn)(Y:St)(H:Hp)(s:Ap)(e:Aj)(s':Ap),Inv X pI Y H s->CX X.stack H s E e s'->X.xe e s'
section
variable{X:Cx}{CX:CXT}{k:Af}{f C:Ak}{fd:BE}{ps:Ac Ag}{sp:Sp}{dvs:Ac V}{ds:Ac Aj}{E:XK}{x m:Ag}{p pos apos:AD}{e o:An}{es:Ac An}{ta:TE}{t:TA}
theorem Ts{Q:VK}(F:FnOk X.prog X.w X.K X.mg X.base CX k f fd ps sp)(hr:Room k X.A)(hb:EK X.K fd ps ds)(hd:A2 dvs ds)(hx:IH CX X E)(I:Inv X pI Y H s)(r:A2 vs us)(h:sp (vs++dvs) H Q E):Av (model X.prog X.w) X.A (call (.ref f) us) (EP X pI Y Q) X.xe s:=by
 have r2:A2 (vs++dvs) (us++ds):=r.append hd;have hl:(us++ds).length=ps.length:=by rw[<-r2.length];exact F.len _ _ _ _ h
 refine FC (EH (F.run X.A X.stack s H ⟨us,[]⟩ (us++ds) (vs++dvs) Q E hr I.env0 (hb s us I.kIn hl) r2 h) λr s' hq=>?_)
 cases r with
 |error e=>exact hx pI Y H s e s' I hq
 |ok fl=>
  cases fl with
  |ret u=>exact I.after hq
  |next=>exact A8 hq
  |brk=>exact A8 hq
  |cont=>exact A8 hq
theorem SR(F:FnOk X.prog X.w X.K X.mg X.base CX k f fd ps sp)(hr:Room k X.A)(hg:Gl X x)(hm:X.mg x=Aa (.ref f))(hk:Bi X.K (.ref f)=Ab)(hb:EK X.K fd ps ds)(hd:A2 dvs ds)(hx:IH CX X E)(ha:PA X (e::es) t)(hdb:(x==("__debug__" : Ag))=Ad:=by decide)(he:As (e::es) X.env=(Ad,eval e X.env)::As es X.env:=by rfl)(hpl:(BA pos (As es X.env)).any (·.1)=Ad:=by rfl):PE X (.Call (.Name x p) (e::es) [] pos) (pT sp dvs E t):=by
 intro pI s Y H Q I h;refine Di (HW I hg hm ?_ hdb);refine En (h₀:=X.base) I.ok.mod.kin hk (thn (ha pos pI s Y H _ I h) λus s1 ⟨vs,H1,I1,r,q⟩=>⟨I1.kIn,?_⟩) he hpl
 exact Ts F hr hb hd hx I1 r q
structure Mk (K:Fg) (C f:Ak):Prop where
 makes:HK K C=Ab
 init:Ar K (.ref C) "__init__" = Aa (Aa (.ref f))
 fn:Dx K (.ref f)=Ab
 kp:Bi K (.ref C)=Ab
theorem ZV{Q:VK}(M:Mk X.K C f)(F:FnOk X.prog X.w X.K X.mg X.base CX k f fd ps sp)(hr:Room (k+1) X.A)(hb:EK X.K fd ps ds)(hd:A2 dvs ds)(hx:IH CX X E)(I:Inv X pI Y H s)(r:A2 vs us)(h:∀ x dx,H x=Ae->H dx=Ae->dx≠x->sp (.ref x::(vs++dvs)) (upd (upd H dx (.own x)) x (.ins C dx [])) (λv H2=>v=.non/\Q (.ref x) H2) E):Av (model X.prog X.w) X.A (call (.ref C) us) (EP X pI Y Q) X.xe s:=by
 have hq:=h (s.heap.objs.size+1) s.heap.objs.size (I.hok.fresh (JJ _)) (I.hok.fresh (AL _)) (Bm (F0 _));have I2:=Inv.made (C:=C) I;have r2:A2 (V.ref (s.heap.objs.size+1)::(vs++dvs)) (Bk (s.heap.objs.size+1)::(us++ds)):=.cons rfl (r.append hd);have hl:(Bk (s.heap.objs.size+1)::us++ds).length=ps.length:=by
  have e:=r2.length;rw[F.len _ _ _ _ hq]at e;exact e.symm
 refine FC (bC (f:=f) I.kIn M.makes M.init (AH.mp M.fn) (EH (F.run _ X.stack _ _ ⟨Bk (s.heap.objs.size+1)::us,[]⟩ (Bk (s.heap.objs.size+1)::(us++ds)) _ _ E (hr.make C us [])
  (I2.env0.make C us []) (hb _ (Bk (s.heap.objs.size+1)::us) I2.kIn hl) r2 hq) λr s' hq'=>?_))
 cases r with
 |error e=>exact hx pI Y _ _ e s' I2 hq'
 |ok fl=>
  cases fl with
  |ret u=>
   obtain⟨v,H',I3,rv,ev,q3⟩:=I2.after hq';subst ev;exact⟨rv,⟨V.ref (s.heap.objs.size+1),H',I3,rfl,q3⟩⟩
  |next=>exact A8 hq'
  |brk=>exact A8 hq'
  |cont=>exact A8 hq'
end
section
variable{X:Cx}{CX:CXT}{k:Af}{f C:Ak}{fd:BE}{ps ks:Ac Ag}{sp:Sp}{E:XK}{x m:Ag}{p pos apos kpos:AD}{e o:An}{es:Ac An}{kws:Ac DZ}{te ta:TE}{t tk:TA}{nm:Ao Ag}
variable{g:Ac Aj->Ac Aj->Ac Aj}{gV:Ac V->Ac V->Ac V}
end
structure FnScope (N P:Ac Ag) (sc:BN):Prop where
 kind:sc.kind=.function
 co:sc.isCoroutine=Ad
 gen:sc.isGenerator=Ad
 nd:N.Nodup
 pre:N.take P.length=P
 par:∀ x∈P,sc.names.lookup x=Aa .local\/sc.names.lookup x=Aa .cell
 nofree:∀ y∈sc.names,y.2≠.free
theorem Q2{kindOf:Ag->Ao D7}{x:Ag}:∀{binds:Ac (Ag×Aj)}{m:Ag->Ao Aj},(∀ v,(x,v)∉binds)->Ir kindOf binds m x=m x
 |[],_,_=>rfl
 |(n,v)::r,m,h=>by
  unfold Ir;rw[Q2 λw hw=>h w (Aw _ hw)]
  split
  .have:x≠n:=by rintro rfl;exact h v AF
   simp[this]
  .rfl
theorem Q4{kindOf:Ag->Ao D7}{x:Ag}:∀{binds:Ac (Ag×Aj)}{m:Ag->Ao Aj},(∀ v,(x,v)∉binds)->Iq kindOf binds m x=m x
 |[],_,_=>rfl
 |(n,v)::r,m,h=>by
  unfold Iq;rw[Q4 λw hw=>h w (Aw _ hw)]
  split
  .rfl
  .have:x≠n:=by rintro rfl;exact h v AF
   simp[this]
theorem Q3{kindOf:Ag->Ao D7}{x:Ag}{v:Aj}:∀{P:Ac Ag}{vs:Ac Aj}{i:Af}{m:Ag->Ao Aj},P.Nodup->P[i]?=Aa x->vs[i]?=Aa v->kindOf x=Aa .local->Ir kindOf (P.zip vs) m x=Aa v
 |[],_,_,_,_,h,_,_=>by simp at h
 |_::_,[],_,_,_,_,h,_=>by simp at h
 |p::P,w::vs,0,m,nd,h1,h2,hk=>by
  simp at h1 h2;subst h1;subst h2;show Ir kindOf ((p,w)::P.zip vs) m p=_;unfold Ir;rw[Q2 λv hv=>(Gg.mp nd).1 (HH hv).1,At hk]
  simp
 |p::P,w::vs,i+1,m,nd,h1,h2,hk=>by
  show Ir kindOf ((p,w)::P.zip vs) m x=_;unfold Ir;exact Q3 (i:=i) (Gg.mp nd).2 (by simpa using h1) (by simpa using h2) hk
theorem Q5{kindOf:Ag->Ao D7}{x:Ag}{v:Aj}:∀{P:Ac Ag}{vs:Ac Aj}{i:Af}{m:Ag->Ao Aj},P.Nodup->P[i]?=Aa x->vs[i]?=Aa v->kindOf x≠Aa .local->Iq kindOf (P.zip vs) m x=Aa v
 |[],_,_,_,_,h,_,_=>by simp at h
 |_::_,[],_,_,_,_,h,_=>by simp at h
 |p::P,w::vs,0,m,nd,h1,h2,hk=>by
  simp at h1 h2;subst h1;subst h2;show Iq kindOf ((p,w)::P.zip vs) m p=_;unfold Iq;rw[Q4 λv hv=>(Gg.mp nd).1 (HH hv).1,AC hk]
  simp
 |p::P,w::vs,i+1,m,nd,h1,h2,hk=>by
  show Iq kindOf ((p,w)::P.zip vs) m x=_;unfold Iq;exact Q5 (i:=i) (Gg.mp nd).2 (by simpa using h1) (by simpa using h2) hk
noncomputable def start(N:Ac Ag)(vs:Ac V):St:=vs.map Aa++GA (N.length-vs.length) Ae
noncomputable def Fh(CX:CXT)(P:AM)(w:AA)(K:Fg)(mg:Ag->Ao Aj)(base:AG)(N:Ac Ag)(qual:Ag)(scope:BN)(f:Ak)(cd:Aj)(A:AU)(outer:Ac Ci)(s:Ap)(H:Hp)(E:XK):Cx where
 prog:=P
 w:=w
 K:=K
 mg:=mg
 base:=base
 A:=A.deeper (Ek qual scope s.heap.objs.size f cd)
 N:=N
 s₀:=s
 H₀:=H
 env:=Ek qual scope s.heap.objs.size f cd
 outer:=outer
 stack:=Ek qual scope s.heap.objs.size f cd::outer
 ex:=[]
 calm:=Ab
 fn:=λ_=>Ab
 pn:=[]
 xe:=λe s'=>Av (model P w) (A.deeper (Ek qual scope s.heap.objs.size f cd)) (leaving (Ek qual scope s.heap.objs.size f cd) e) (λ_ s''=>CX outer H s E e s'') (λe' s''=>CX outer H s E e' s'') s'
theorem RN{sc:BN}(h:sc.names.lookup x=Aa .cell):∃ c,(CQ n sc.names []).lookup x=Aa c:=by
 have q:=XU sc.names n [] (.inl h);exact Co.mp q
theorem Rk{w:AA}{K:Fg}{mg:Ag->Ao Aj}{base:AG}{N ps:Ac Ag}{f:Ak}{cd:Aj}{A:AU}{outer:Ac Ci}{s1:Ap}{E:XK}(S:FnScope N ps scope)(hd:A.handled=Ae)(e0:Env0 P w K mg base A outer s H)(hl:vs.length=ps.length)(r:A2 vs us)(x:InCallC s s.heap.objs.size (Ir (Ek qual scope s.heap.objs.size f cd).kindOf (ps.zip us) λ_=>Ae) (CQ (s.heap.objs.size+1) scope.names []) (Iq (Ek qual scope s.heap.objs.size f cd).kindOf (ps.zip us) λ_=>Ae) s1):Inv (Fh CX P w K mg base N qual scope f cd A outer s H E) [] (start N vs) H s1:=by
 have hpl:ps.length<=N.length:=by have:=congrArg V8 S.pre;rw[FZ]at this;omega
 obtain⟨h1,tk,rfl,hk⟩:=x.done;have noA:∀ b:Ak,b∉(Fh CX P w K mg base N qual scope f cd A outer s H E).ex:=λb z=>absurd (show b∈([]:Ac Ak) from z) (by simp)
 refine⟨⟨e0.mod,S.kind,rfl,rfl,AL _,λy z c h1 h2=>?_,λy hy=>?_,λy c _ h=>?_,λ_=>hd,Around.frames_deeper e0.frames,.inr ⟨rfl,rfl⟩,λb z=>absurd z (noA b),e0.bs,e0.bsz,λb _ _=>noA b,λb z=>absurd z (noA b),e0.funs,e0.frf⟩,
  rfl,e0.bare,Un.kept hk,⟨_,x.toInCall.ns,λi y v h1 h2 h3=>?_⟩,λy c h=>⟨_,x.cell y c h⟩,e0.hok.fresh (AL _),λy c h=>?_,λp hp=>absurd (show p∈([]:Pn) from hp) (by simp),e0.hok.kept hk,?_⟩
 .exact name_of_addr x.apart (CA h1) (CA h2)
 .have hy:scope.names.lookup y=Aa .cell\/scope.names.lookup y=Aa .free:=hy;rcases hy with hy|hy
  .exact RN hy
  .exact absurd rfl (S.nofree _ (CA hy))
 .exact Gh (x.above y c (CA h))
 .have hi:i<vs.length:=by
   unfold start at h2;by_cases hi:i<vs.length
   .exact hi
   .rw[V6 (by simpa using hi)]at h2
    rw[V7]at h2;split at h2<;>cases h2
  have ha:vs[i]?=Aa v:=by
   unfold start at h2;rw[Fj (by simpa using hi),Cn]at h2
   cases e:vs[i]? with
   |none=>rw[e]at h2;cases h2
   |some a=>rw[e]at h2;cases h2;rfl
  obtain⟨u,hu,rv⟩:=r.get ha;have hp:ps[i]?=Aa y:=by
   rw[<-S.pre,List.getElem?_take_of_lt (by omega)];exact h1
  have ndP:ps.Nodup:=by rw[<-S.pre];exact S.nd.sublist (List.take_sublist _ _)
  refine⟨u,rv,?_⟩;rcases S.par y (Wd hp) with k|k
  .exact .inl ⟨k,Q3 ndP hp hu k⟩
  .obtain⟨c,e⟩:=RN (n:=s.heap.objs.size+1) k;refine .inr ⟨.inl k,c,e,?_⟩;have q:=x.cell y c e;rw[Q5 ndP hp hu (by show scope.names.lookup y≠_;rw[k];decide)]at q
   exact q
 .exact e0.hok.fresh (Gh (x.above y c (CA h)))
 .unfold start;show _=N.length;rw[BS,Bo,V9];omega
theorem P0{w:AA}{K:Fg}{mg:Ag->Ao Aj}{base:AG}{f:Ak}{name:Ag}{params:Arguments}{dV kV doc pm cdv ct oc:Aj}{an od:Ao Ak}{osl:Bg (Ao Aj)}{N ps:Ac Ag}(lk:K.lookup f=Aa ⟨oc,od,.func (BX name qual params body scope dV kV doc pm an cdv ct),osl⟩)(hcd:D0 K cdv qual=Ab)(S:FnScope N ps scope)(len:∀ vs H Q E,sp vs H Q E->vs.length=ps.length)(hbody:∀(A:AU)(outer:Ac Ci)(s:Ap)(H:Hp)(vs:Ac V)(Q:VK)(E:XK),Room k (A.deeper (Ek qual scope s.heap.objs.size f cdv))->sp vs H Q E ->
   ∃ t,PSs (Fh CX P w K mg base N qual scope f cdv A outer s H E) body t/\t {nx:=λ_ H'=>Q .non H',rt:=Q} (start N vs) H):FnOk P w K mg base CX (k+1) f (BX name qual params body scope dV kV doc pm an cdv ct) ps sp:=by
 refine⟨len,λA outer s H args us vs Q E hr e0 hb r hsp=>?_⟩
 have hl:=len _ _ _ _ hsp;have KX:K.In s.heap:=e0.mod.kin.keeps λb o e=>(e0.bs b o e).1
 have lim:s.heap.NoLimit:=e0.mod.nolimit.keeps λb o e=>(e0.bs b o e).1
 have hkind:∀ y∈ps.zip us,scope.names.lookup y.1=Aa .local\/(scope.names.lookup y.1=Aa .cell/\((CQ (s.heap.objs.size+1) scope.names []).lookup y.1).isSome=Ab):=λ⟨n,v⟩ hy=>by
  rcases S.par n (HH hy).1 with q|q
  .exact .inl q
  .exact .inr ⟨q,XU _ _ _ (.inl q)⟩
 refine X8 hr.depth (KX _ _ lk) rfl S.co S.gen rfl (XV KX hcd) (hb _ _ _ _ ?_);refine Ym S.kind hkind λenv he s1 x=>?_
 subst he;refine⟨lim.keeps x.toInCall.keep,codeAny_func ?_⟩;obtain⟨t,ht,hq⟩:=hbody A outer s H vs Q E (hr.deeper _) hsp;have I:Inv (Fh CX P w K mg base N qual scope f cdv A outer s H E) [] (start N vs) H s1:=Rk S hr.hd e0 hl r x;refine A9 (ht [] s1 (start N vs) H _ I hq) (λfl s' hs=>?_) λe s' hs=>hs
 have fin:∀{Y':St}{H':Hp}{v:V}{u:Aj},Inv (Fh CX P w K mg base N qual scope f cdv A outer s H E) [] Y' H' s'->Bu v u->Q v H'->CE outer P w H s Q u s':=
  λ{Y' H' v u} J rv q=>⟨v,H',J.os,J.bare,J.base,J.hok,rv,q⟩
 cases fl with
 |ret u=>
  obtain⟨v,Y',H',J,rv,q⟩:=hs;exact fin J rv q
 |next=>
  obtain⟨Y',H',J,q⟩:=hs;exact fin (v:=V.non) (u:=CD) J rfl q
 |brk=>
  obtain⟨_,_,_,q⟩:=hs;exact A8 q
 |cont=>
  obtain⟨_,_,_,q⟩:=hs;exact A8 q
section
variable{X:Cx}{x:Ag}{p pos:AD}{e:An}{es:Ac An}{t:TA}{id T:CZ}{r:Ac V->Hp->VK->Prop}
def tCB(r:Ac V->Hp->VK->Prop)(t:TA):TE:=λY H Q=>t Y H λvs H1=>r vs H1 Q
theorem Kn(hc:Hw X (.builtin id) r)(hg:Gl X x)(hm:X.mg x=Ae)(hv:CY x=Aa (.builtin id))(ha:PA X (e::es) t)(hn:x≠"__name__" := by decide)(hdb:(x==("__debug__" : Ag))=Ad:=by decide)(he:As (e::es) X.env=(Ad,eval e X.env)::As es X.env:=by rfl)(hpl:(BA pos (As es X.env)).any (·.1)=Ad:=by rfl):PE X (.Call (.Name x p) (e::es) [] pos) (tCB r t):=by
 intro pI s Y H Q I h;refine Di (KD I hg hm hv ?_ hn hdb);exact PyProof.Rows.callWith_builtin1 (thn (ha pos pI s Y H _ I h) λus s1 ⟨vs,H1,I1,r1,q1⟩=>hc pI s1 Y H1 vs us Q I1 r1 q1) he hpl
theorem Rg(hc:Hw X (.type T) r)(hg:Gl X x)(hm:X.mg x=Ae)(hv:CY x=Aa (.type T))(ha:PA X (e::es) t)(hn:x≠"__name__" := by decide)(hdb:(x==("__debug__" : Ag))=Ad:=by decide)(he:As (e::es) X.env=(Ad,eval e X.env)::As es X.env:=by rfl)(hpl:(BA pos (As es X.env)).any (·.1)=Ad:=by rfl):PE X (.Call (.Name x p) (e::es) [] pos) (tCB r t):=by
 intro pI s Y H Q I h;refine Di (KD I hg hm hv ?_ hn hdb);exact Dv (thn (ha pos pI s Y H _ I h) λus s1 ⟨vs,H1,I1,r1,q1⟩=>hc pI s1 Y H1 vs us Q I1 r1 q1) he hpl
end
end L2
namespace HT
open PySem PyProof.Rows
variable{sl:Ak}
section
open PySem.SeqAt
open PySem.AutoSeq1 (wpAny_loadPart')
open PySem.MeetsSeq PySem.MeetsSeq2 PySem.MeetsSeq3
end
section
variable{prog:AM}{w:AA}{A:AU}{E:Vq}{s:Ap}
theorem cat_tup{t b:Ak}{vs ws:Ac Aj}{Q:Vq}(ht:Kb s.heap t vs.toArray)(hb:Kb s.heap b ws.toArray)(hv:vs≠[])(h1:ws=[]->Q (.ref t) s)(h2:ws≠[]->Q (.ref s.heap.objs.size) { s with heap:=s.heap.push { cls:=.type "tuple",data:=.seq (vs++ws).toArray } })(hsz:vs.length+ws.length<=sizeLine):Av (model prog w) A (B6 .Add (.ref t) (.ref b)) Q E s:=by
 obtain⟨⟨cls,dd,data,sl⟩,ho,hc,n,hd⟩:=id ht;obtain⟨⟨cls2,dd2,data2,sl2⟩,ho2,hc2,n2,hd2⟩:=id hb;simp only at hc hd hc2 hd2;subst hc hd hc2 hd2;have e:vs.toArray++ws.toArray=(vs++ws).toArray:=by simp
 by_cases hw:ws=[]
 .exact Jl ⟨_,ho,rfl⟩ ⟨_,ho2,rfl⟩ Yc seq_tuple_add Xf W9 (W6 _ _)
   (tuple_addW1 t b vs.toArray ws.toArray n n2 dd dd2 sl sl2 (by simpa using hv) (by simp[hw])) ⟨ho,ho2,h1 hw⟩
 .refine Jl ⟨_,ho,rfl⟩ ⟨_,ho2,rfl⟩ Yc seq_tuple_add Xf W9 (W6 _ _)
   (tuple_addW2 t b vs.toArray ws.toArray n n2 dd dd2 sl sl2 (by simpa using hv) (by simpa using hw) (by rw[AN,AN];exact hsz)) ⟨ho,ho2,?_⟩
  rw[e];exact h2 hw
noncomputable def sIx(n d:Af):Ao Ah->Af
 |none=>d
 |some v=>if v<0 then (v+(n:Ah)).toNat else min v.toNat n
theorem mG(n d:Af)(hd:d<=n)(o:Ao Ah):sIx n d o<=n:=by
 cases o with
 |none=>exact hd
 |some v=>
  show (if v<0 then (v+(n:Ah)).toNat else min v.toNat n)<=n
  by_cases hv:v<0
  .rw[At hv];omega
  .rw[AC hv];exact Nat.min_le_right _ _
theorem S6(v:Ah)(n d:Af):(if v<0 then max (v+(n:Ah)) 0 else min v (n:Ah))=((sIx n d (Aa v):Af):Ah):=by
 show (if v<0 then max (v+(n:Ah)) 0 else min v (n:Ah))=(((if v<0 then (v+(n:Ah)).toNat else min v.toNat n):Af):Ah)
 by_cases hv:v<0
 .simp only[At hv];omega
 .simp only[AC hv];omega
theorem Zw(lo hi:Ao Ah)(n:Af):Fl lo hi 1 (n:Ah)=(((sIx n 0 lo:Af):Ah),((sIx n n hi:Af):Ah)):=by
 have h1:¬ ((1:Ah)<0):=by omega
 unfold Fl;simp only[h1,Mb];refine La ?_ ?_
 .cases lo with
  |none=>rfl
  |some v=>exact S6 v n 0
 .cases hi with
  |none=>rfl
  |some v=>exact S6 v n n
theorem Zh(i j:Af):DO (i:Ah) (j:Ah) 1=j-i:=by
 unfold DO;have h1:(1:Ah)>0:=by omega
 simp only[h1,EM,Int.ediv_one];split<;>omega
theorem QN{v:Aj}{o:Ao Ah}{Q:Ao Ah->Ap->Prop}(p:GR v o)(h:Q o s):Av (model prog w) A (Builtin.Slice.slicePartIndex v) Q E s:=by
 cases p with
 |none=>exact Wt h
 |int i t=>exact slicePart_int h
theorem YQ{vl vu:Aj}{lo hi:Ao Ah}{n:Af}{Q:Ah×Ah×Af->Ap->Prop}(hs:s.heap.IsSliceOf sl vl vu .none)(pl:GR vl lo)(pu:GR vu hi)(h:Q (((sIx n 0 lo:Af):Ah),1,sIx n n hi-sIx n 0 lo) s):Av (model prog w) A (Wy (.ref sl) (pure (n:Ah))) Q E s:=by
 obtain⟨os,hos,hcs,hds⟩:=id hs;unfold Wy Builtin.Slice.sliceFields;refine Aq (Aq (Cq hos hds (x:=vl) rfl (Aq (Cq hos hds (x:=vu) rfl (Aq (Cq hos hds (x:=.none) rfl (AT ?_)))))));refine Aq (Wt ?_);show Av _ _ (if ((1:Ah)==0)=Ab then _ else _) _ _ s
 rw[AC (by decide)]
 refine Aq (QN pl (Aq (QN pu (Aq (AT ?_)))));show Av _ _ (match Fl lo hi 1 (n:Ah) with|(lo,hi)=>pure (lo,(1:Ah),DO lo hi 1)) _ _ s
 rw[Zw lo hi n];show Av _ _ (pure (((sIx n 0 lo:Af):Ah),(1:Ah),DO ((sIx n 0 lo:Af):Ah) ((sIx n n hi:Af):Ah) 1)) _ _ s;rw[Zh];exact AT h
theorem bU(xs:Bg Aj)(i k:Af):((Ba k).filterMap fun(m:Af)=>xs[((i:Ah)+(m:Ah)*1).toNat]?).toArray=((xs.toList.drop i).take k).toArray:=by
 have e:(fun(m:Af)=>xs[((i:Ah)+(m:Ah)*1).toNat]?)=λm=>xs[i+m]?:=by
  funext m
  have:((i:Ah)+(m:Ah)*1).toNat=i+m:=by omega
  rw[this]
 rw[e];have:=pick_run xs i k;rw[List.filterMap_map]at this;have e2:((λx=>xs[x]?) ∘ λx=>i+x)=λm=>xs[i+m]?:=rfl
 rw[e2]at this;rw[this]
theorem getItem_tuple_cut{t:Ak}{items:Bg Aj}{vl vu:Aj}{lo hi:Ao Ah}{Q:Vq}(ht:Kb s.heap t items)(hs:s.heap.IsSliceOf sl vl vu .none)(pl:GR vl lo)(pu:GR vu hi)(hw:¬ (sIx items.size 0 lo=0/\sIx items.size items.size hi=items.size))(h:Q (.ref s.heap.objs.size) { s with heap:=s.heap.push { cls:=.type "tuple",data:=.seq ((items.toList.drop (sIx items.size 0 lo)).take (sIx items.size items.size hi-sIx items.size 0 lo)).toArray } })(hsz:items.size<=sizeLine):Av (model prog w) A (JI (.ref t) (.ref sl)) Q E s:=by
 have htake:sizeOk (.seq ((items.toList.drop (sIx items.size 0 lo)).take (sIx items.size items.size hi-sIx items.size 0 lo)).toArray):=by
  show ((items.toList.drop (sIx items.size 0 lo)).take (sIx items.size items.size hi-sIx items.size 0 lo)).toArray.size<=sizeLine;rw[AN,FZ,Hh,E6];omega
 have hj:sIx items.size items.size hi<=items.size:=mG _ _ (AL _) hi;obtain⟨os,hos,hcs,hds⟩:=id hs;have hTs:s.TypeIs (.ref sl) "slice" := ⟨os,hos,hcs⟩;unfold JI
 try with_reducible refine E3 ?_
 first|refine Aq (AT ?_)|skip
 refine Aq (wpAny_sequenceKey ht.typeIs (by decide) ?_)
 refine Aq (FG (name:=Ai "__getitem__") ht.typeIs Wu
  (Hq Wu ht.typeIs entry_tuple_getitem ?_ (args_tuple_getitem _ _)))
 show Av _ _ (Builtin.Tuple.tupleItemsOf (.ref t) >>= _) _ _ s;refine Aq (tupleItemsOf_ ht ?_);refine Aq (wpAny_typeOf hTs ?_);rw[At (by decide)]
 refine Aq (YQ hs pl pu ?_);have hno:¬ ((((sIx items.size 0 lo:Af):Ah)==0&&(1:Ah)==1&&(sIx items.size items.size hi-sIx items.size 0 lo)==items.size)=Ab):=by
  intro q;rw[Al,Al]at q;have q1:((sIx items.size 0 lo:Af):Ah)=0:=eq_of_beq q.1.1;have q2:sIx items.size items.size hi-sIx items.size 0 lo=items.size:=eq_of_beq q.2;exact hw ⟨by omega,by omega⟩
 show Av _ _ (if (((sIx items.size 0 lo:Af):Ah)==0&&(1:Ah)==1&&(sIx items.size items.size hi-sIx items.size 0 lo)==items.size)=Ab then _ else _) _ _ s
 rw[AC hno,bU]
 first
  |exact Aq (m:=D6 _) (CN (AT ⟨_,rfl,AT h⟩) htake)
  |exact Aq (m:=D6 _) (CN (Aq (AT (AT ⟨_,rfl,AT h⟩))) htake)
  |exact Aq (Aq (m:=D6 _) (CN (AT (AT ⟨_,rfl,AT h⟩)) htake))
  |exact Aq (Aq (m:=D6 _) (CN (AT ⟨_,rfl,AT h⟩) htake))
end
end HT
namespace L2
open PySem PySem.Spec PyProof.Rows
variable{r:V->Ao Ah->Ao Ah->Hp->VK->Prop}{xs:Ac V}{us its:Ac Aj}{n t':Af}{i:Ah}
abbrev TO:=St->Hp->(Ao Ah->Hp->Prop)->Prop
noncomputable def PO(X:Cx)(e:Ao An)(t:TO):Prop:=
 ∀(pI:Pn)(s:Ap)(Y:St)(H:Hp)(Q:Ao Ah->Hp->Prop),Inv X pI Y H s->t Y H Q ->
  Av (model X.prog X.w) X.A (evalPart e X.env) (λu s'=>∃ o H',Inv X pI Y H' s'/\GR u o/\Q o H') X.xe s
def dH:TO:=λ_ H Q=>Q Ae H
def pP(t:TE):TO:=λY H Q=>t Y H λx H1=>∃ i,x=.int i/\Q (Aa i) H1
section
variable{X:Cx}{e:An}{te:TE}{lo hi:Ao An}{tl th:TO}{pos p2:AD}
theorem gP:PO X Ae dH:=by
 intro pI s Y H Q I h;rw[evalPart_none];exact AT ⟨Ae,H,I,.none,h⟩
theorem gO(h:PE X e te):PO X (Aa e) (pP te):=by
 intro pI s Y H Q I hw;rw[evalPart_some];refine thn (h pI s Y H _ I hw) λu s1 ⟨x,H1,I1,r1,q1⟩=>?_
 obtain⟨i,rfl,q⟩:=q1;obtain⟨t,rfl⟩:=r1;exact⟨Aa i,H1,I1,.int i t,q⟩
noncomputable def SlR(X:Cx)(r:V->Ao Ah->Ao Ah->Hp->VK->Prop):Prop:=
 ∀(pI:Pn)(s:Ap)(Y:St)(H:Hp)(x:V)(v vl vu:Aj)(lo hi:Ao Ah)(sl:Ak)(Q:VK),Inv X pI Y H s->Bu x v->s.heap.IsSliceOf sl vl vu .none->GR vl lo->GR vu hi->r x lo hi H Q ->
  ∃ T id,typeLookup (.type T) "__getitem__" = pure (Aa (.builtin id))/\s.TypeIs v T/\Av (model X.prog X.w) X.A (JI v (.ref sl)) (EP X pI Y Q) X.xe s
theorem SlR.or{r':V->Ao Ah->Ao Ah->Hp->VK->Prop}(h:SlR X r)(h':SlR X r'):SlR X (λx lo hi H Q=>r x lo hi H Q\/r' x lo hi H Q):=by
 intro pI s Y H x v vl vu lo hi sl Q I rx hs pl pu q;rcases q with q|q
 .exact h pI s Y H x v vl vu lo hi sl Q I rx hs pl pu q
 .exact h' pI s Y H x v vl vu lo hi sl Q I rx hs pl pu q
def tSl(r:V->Ao Ah->Ao Ah->Hp->VK->Prop)(te:TE)(tl th:TO):TE:=λY H Q=>te Y H λx H1=>tl Y H1 λl H2=>th Y H2 λu H3=>r x l u H3 Q
theorem bV(hr:SlR X r)(he:PE X e te)(hl:PO X lo tl)(hu:PO X hi th):PE X (.Subscript e (.Slice lo hi Ae p2) pos) (tSl r te tl th):=by
 intro pI s Y H Q I h;refine Subscript_ (thn (he pI s Y H _ I h) λv s1 ⟨x,H1,I1,r1,q1⟩=>?_)
 refine wpAny_Slice (thn (hl pI s1 Y H1 _ I1 q1) λvl s2 ⟨l,H2,I2,pl,q2⟩=>thn (hu pI s2 Y H2 _ I2 q2) λvu s3 ⟨u,H3,I3,pu,q3⟩=>?_)
 rw[evalPart_none];refine AT ?_;have I4:Inv X pI Y H3 { s3 with heap:=s3.heap.push { cls:=.type "slice",data:=.fields #[vl,vu,.none] } }:=I3.kept (t':=s3.toks) λb ob q=>Au _ q
 obtain⟨T,id,hT,ht,hg⟩:=hr pI { s3 with heap:=s3.heap.push { cls:=.type "slice",data:=.fields #[vl,vu,.none] } } Y H3 x v vl vu l u s3.heap.objs.size Q I4 r1 (Heap.IsSliceOf.new ..) pl pu q3
 show Av (model X.prog X.w) X.A (subscriptTail e (.Slice lo hi Ae p2) v (.ref s3.heap.objs.size)) (EP X pI Y Q) X.xe { s3 with heap:=s3.heap.push { cls:=.type "slice",data:=.fields #[vl,vu,.none] } }
 exact tail_any (ops:=[.ref s3.heap.objs.size,v]) ht hT hg (by with_unfolding_all rfl)
noncomputable def JC(xs:Ac V)(lo hi:Ao Ah):Ac V:=(xs.drop (HT.sIx xs.length 0 lo)).take (HT.sIx xs.length xs.length hi-HT.sIx xs.length 0 lo)
theorem QE(xs:Ac V)(lo hi:Ao Ah):(JC xs lo hi).length<=xs.length:=by
 unfold JC;rw[FZ,Hh];omega
def Vf(K:Fg):V->Ao Ah->Ao Ah->Hp->VK->Prop:=λx lo hi H Q=>∃ a xs,x=.ref a/\SqT K H a xs /\
 ¬ (HT.sIx xs.length 0 lo=0/\HT.sIx xs.length xs.length hi=xs.length)/\∀ p,H p=Ae->Q (.ref p) (upd H p (.tup (JC xs lo hi)))
theorem kH:SlR X (Vf X.K):=by
 intro pI s Y H x v vl vu lo hi sl Q I rx hs pl pu h;obtain⟨a,xs,rfl,hx,hw,q⟩:=h;cases rx;obtain⟨its,r,ht,hz⟩:=I.tuple hx;have hlen:its.toArray.size=xs.length:=by rw[AN];exact r.length.symm
 refine⟨"tuple",_,PyProof.Rows.slot_tuple_getitem.lookup,ht.typeIs,?_⟩;refine HT.getItem_tuple_cut ht hs pl pu (by rw[hlen];exact hw) ?_ (by rw[hlen];exact hz)
 rw[hlen];refine⟨.ref s.heap.objs.size,_,I.laid (t':=s.toks) (o:=.tup (JC xs lo hi)) (λb ob q=>Au _ q) (AL _) ?_,rfl,q _ (I.hok.fresh (AL _))⟩
 exact⟨By (QE xs lo hi) hz,_,(r.drop (HT.sIx xs.length 0 lo)).take (HT.sIx xs.length xs.length hi-HT.sIx xs.length 0 lo),K7 _ _⟩
def sL(K:Fg):R2:=λx y H Q=>∃ a b xs ys,x=.ref a/\y=.ref b/\SqT K H a xs/\SqT K H b ys/\xs≠[]/\xs.length+ys.length<=sizeLine /\
 (ys=[]->Q (.ref a) H)/\(ys≠[]->∀ p,H p=Ae->Q (.ref p) (upd H p (.tup (xs++ys))))
theorem A2.nil_iff(r:A2 xs us):us=[]↔xs=[]:=by
 cases r with
 |nil=>simp
 |cons _ _=>simp
theorem fL:OpR X (B6 .Add) (sL X.K):=by
 intro pI s Y H x y v u Q I rx ry h;obtain⟨a,b,xs,ys,rfl,rfl,ha,hb,hx,hz,q1,q2⟩:=h;cases rx;cases ry;obtain⟨its,r1,p1,_⟩:=I.tuple ha;obtain⟨its2,r2,p2,_⟩:=I.tuple hb;refine HT.cat_tup p1 p2 (λz=>hx (r1.nil_iff.mp z)) (λz=>⟨.ref a,H,I,rfl,q1 (r2.nil_iff.mp z)⟩) (λz=>?_) (by rw[<-r1.length,<-r2.length];exact hz)
 refine⟨.ref s.heap.objs.size,_,I.laid (t':=s.toks) (o:=.tup (xs++ys)) (λb ob q=>Au _ q) (AL _) ?_,rfl,q2 (λw=>z (r2.nil_iff.mpr w)) _ (I.hok.fresh (AL _))⟩
 exact⟨by rw[BS];exact hz,_,r1.append r2,K7 _ _⟩
end
noncomputable def ixN(n:Af)(i:Ah):Ao Af:=if 0<=i then (if i<n then Aa i.toNat else Ae) else if -(n:Ah)<=i then Aa (i+n).toNat else Ae
noncomputable def atI{α:Type}(xs:Ac α)(i:Ah):Ao α:=(ixN xs.length i).bind λj=>xs[j]?
theorem fF{j:Af}(h:ixN n i=Aa j):seqIndex? i n=Aa j/\j<n/\-(n:Ah)<=i/\i<n:=by
 unfold ixN at h;by_cases h0:0<=i
 .rw[At h0]at h;by_cases h1:i<n
  .rw[At h1]at h;have e:i.toNat=j:=Bl h;exact⟨by rw[seqIndex_of h0 h1,e],by omega,by omega,h1⟩
  .rw[AC h1]at h;cases h
 .rw[AC h0]at h;by_cases h1:-(n:Ah)<=i
  .rw[At h1]at h;have e:(i+n).toNat=j:=Bl h;exact⟨by rw[seqIndex_neg (by omega) h1,e],by omega,h1,by omega⟩
  .rw[AC h1]at h;cases h
theorem OX{α:Type}{xs:Ac α}{v:α}(h:atI xs i=Aa v):∃ j,seqIndex? i xs.length=Aa j/\xs[j]?=Aa v/\j<xs.length/\-(xs.length:Ah)<=i/\i<xs.length:=by
 unfold atI at h;cases e:ixN xs.length i with
 |none=>rw[e]at h;cases h
 |some j=>
  rw[e]at h;obtain⟨h1,h2,h3,h4⟩:=fF e;exact⟨j,h1,h,h2,h3,h4⟩
def O1(b:An):Prop:=∀ o i,subscripted b Ad o i=operate [o,i] (JI o i)
noncomputable def IxR(X:Cx)(r:R2):Prop:=
 ∀(value slice:An)(pI:Pn)(s:Ap)(Y:St)(H:Hp)(x y:V)(v u:Aj)(Q:VK),Inv X pI Y H s->Bu x v->Bu y u->r x y H Q ->
  subscripted slice Ad v u=operate [v,u] (JI v u)->Av (model X.prog X.w) X.A (subscriptTail value slice v u) (EP X pI Y Q) X.xe s
noncomputable def MtR(X:Cx)(id:CZ)(r:V->Ac V->Hp->VK->Prop):Prop:=
 ∀(pI:Pn)(s:Ap)(Y:St)(H:Hp)(x:V)(xs:Ac V)(v:Aj)(us:Ac Aj)(Q:VK),Inv X pI Y H s->Bu x v->A2 xs us->r x xs H Q ->
  Av (model X.prog X.w) X.A (call (.builtin id) (v::us)) (EP X pI Y Q) X.xe s
section
variable{X:Cx}{a b:An}{ta tb:TE}{pos:AD}
theorem IxR.or{r r':R2}(h:IxR X r)(h':IxR X r'):IxR X (λx y H Q=>r x y H Q\/r' x y H Q):=by
 intro value slice pI s Y H x y v u Q I rx ry q hs;rcases q with q|q
 .exact h value slice pI s Y H x y v u Q I rx ry q hs
 .exact h' value slice pI s Y H x y v u Q I rx ry q hs
theorem sT{r:R2}(hr:IxR X r)(ha:PE X a ta)(hb:PE X b tb)(hs:O1 b):PE X (.Subscript a b pos) (tOp r ta tb):=by
 intro pI s Y H Q I h;exact Subscript_ (Qr ha hb I h λv u s2 x y H2 I2 rx ry q=>hr a b pI s2 Y H2 x y v u Q I2 rx ry q (hs _ _))
def Vk(K:Fg):R2:=λx y H Q=>∃ p xs i v,x=.ref p/\y=.int i/\SqL K H p xs/\atI xs i=Aa v/\Q v H
def Vi(K:Fg):R2:=λx y H Q=>∃ p xs i v,x=.ref p/\y=.int i/\SqT K H p xs/\atI xs i=Aa v/\Q v H
def Vj:R2:=λx y H Q=>∃ z i c,x=.str z/\y=.int i/\z.length<=sizeLine/\atI z.cps.toList i=Aa c/\Q (.str ⟨#[c]⟩) H
theorem fE:IxR X (Vk X.K):=by
 intro value slice pI s Y H x y v u Q I rx ry h hs;obtain⟨p,xs,i,z,rfl,rfl,hq,he,q⟩:=h;cases rx;obtain⟨t,rfl⟩:=ry;obtain⟨its,r,pl,hz⟩:=I.list hq;obtain⟨j,h1,h2,h3,h4,h5⟩:=OX he;obtain⟨w,ew,rw'⟩:=r.get h2;have hl:=r.length;have hn:=KB;have fin:EP X pI Y Q w s:=⟨z,H,I,rw',q⟩;by_cases h0:0<=i
 .have hj:i.toNat=j:=by
   rw[seqIndex_of h0 h5]at h1;exact Bl h1
  exact item_listR pl.isList h0 (by omega) (by rw[hj];simpa using ew) fin hs
 .have hj:(i+(its.toArray.size:Ah)).toNat=j:=by
   rw[seqIndex_neg (by omega) h4]at h1
   rw[AN,<-hl];exact Bl h1
  exact Wv (x:=w) pl.isList.typeIs Yh.lookup
   (wpAny_getItem_list_neg (Q:=λr s'=>r=w/\EP X pI Y Q r s') pl.isList (by omega) (by rw[AN]<;>omega) (by omega) (by rw[hj];simpa using ew) ⟨rfl,fin⟩) hs
theorem nU:IxR X (Vi X.K):=by
 intro value slice pI s Y H x y v u Q I rx ry h hs;obtain⟨p,xs,i,z,rfl,rfl,hq,he,q⟩:=h;cases rx;obtain⟨t,rfl⟩:=ry;obtain⟨its,r,pl,hz⟩:=I.tuple hq;obtain⟨j,h1,h2,h3,h4,h5⟩:=OX he;obtain⟨w,ew,rw'⟩:=r.get h2;have hl:=r.length;have hn:=KB;have fin:EP X pI Y Q w s:=⟨z,H,I,rw',q⟩;exact Wv (x:=w) pl.typeIs slot_tuple_getitem.lookup
  (getItem_tuple (j:=j) (Q:=λr s'=>r=w/\EP X pI Y Q r s') pl (by omega) (by omega) (by rw[AN,<-hl];exact h1) (by simpa using ew) ⟨rfl,fin⟩) hs
theorem nV:IxR X Vj:=by
 intro value slice pI s Y H x y v u Q I rx ry h hs;obtain⟨z,i,c,rfl,rfl,hz,he,q⟩:=h;obtain⟨t,rfl⟩:=rx;obtain⟨t',rfl⟩:=ry;obtain⟨j,h1,h2,h3,h4,h5⟩:=OX he;have hl:z.cps.toList.length=z.length:=by simp[Str.length]
 rw[hl]at h1 h4 h5;have hn:=KB;exact tail_any (FB s z t) slot_str_getitem.lookup (getItem_str (c:=c) (by
  have e1:decide (i < -(2 ^ 63:Ah))=Ad:=CU (by omega)
  have e2:decide (i ≥ 2 ^ 63)=Ad:=CU (by omega)
  rw[e1,e2,Ef]) (by rw[h1];simpa using h2) ⟨.str ⟨#[c]⟩,H,I.tok _,⟨_,rfl⟩,q⟩) hs
def rIx(K:Fg):R2:=λx y H Q=>Vk K x y H Q\/Vi K x y H Q\/Vj x y H Q
theorem nW:IxR X (rIx X.K):=fE.or (nU.or nV)
theorem Inv.lst{pI:Pn}{Y:St}{H:Hp}{s:Ap}{p:Ak}{xs:Ac V}(I:Inv X pI Y H s)(h:H p=Aa (.lst xs)):
  ∃(its:Ac Aj)(n:Af),A2 xs its/\s.heap.get? p=Aa { cls:=.type "list",data:=.seq its.toArray n }/\xs.length<=sizeLine:=by
 obtain⟨z,its,n,r,e⟩:=I.hok p _ h;exact⟨its,n,r,e,z⟩
theorem YY(lo hi:Ao Ah)(n:Af):(E5 lo hi Ae n).1=((HT.sIx n 0 lo:Af):Ah)/\(E5 lo hi Ae n).2.1=((HT.sIx n n hi:Af):Ah)/\(E5 lo hi Ae n).2.2=1:=by
 refine⟨?_,?_,rfl⟩
 .cases lo with
  |none=>simp[E5,HT.sIx]
  |some i=>
   simp only[E5,HT.sIx,Wo,show (1:Ah)>0 by decide,EM]
   by_cases h:i<0
   .simp only[h,EM]<;>omega
   .simp only[h,Mb]<;>omega
 .cases hi with
  |none=>simp[E5,HT.sIx]
  |some i=>
   simp only[E5,HT.sIx,Wo,show (1:Ah)>0 by decide,EM]
   by_cases h:i<0
   .simp only[h,EM]<;>omega
   .simp only[h,Mb]<;>omega
theorem YT(its:Ac Aj)(lo hi:Ao Ah):slicePick its.toArray lo hi Ae=((its.drop (HT.sIx its.length 0 lo)).take (HT.sIx its.length its.length hi-HT.sIx its.length 0 lo)).toArray:=by
 obtain⟨h1,h2,h3⟩:=YY lo hi its.toArray.size;unfold slicePick;rw[h1,h2,h3];simp only[sliceRange_one,pick_run,AN]<;>rfl
def Vh(K:Fg):V->Ao Ah->Ao Ah->Hp->VK->Prop:=λx lo hi H Q=>∃ a xs,x=.ref a/\SqL K H a xs/\∀ p,H p=Ae->Q (.ref p) (upd H p (.lst (JC xs lo hi)))
theorem dX:SlR X (Vh X.K):=by
 intro pI s Y H x v vl vu lo hi sl Q I rx hs pl pu h;obtain⟨a,xs,rfl,hx,q⟩:=h;cases rx;obtain⟨its,r,ht,hz⟩:=I.list hx;have hlen:=r.length;refine⟨"list",_,Yh.lookup,ht.isList.typeIs,?_⟩;refine wpAny_getItem_list_slice ht.isList hs pl pu .none (by simp) ?_ (by rw[AN]<;>omega)
 rw[YT,<-hlen];refine⟨.ref s.heap.objs.size,_,I.laid (t':=s.toks) (o:=.lst (JC xs lo hi)) (λb ob q=>Au _ q) (AL _) ?_,rfl,q _ (I.hok.fresh (AL _))⟩
 exact⟨By (QE xs lo hi) hz,_,0,(r.drop (HT.sIx xs.length 0 lo)).take (HT.sIx xs.length xs.length hi-HT.sIx xs.length 0 lo),A3 _ rfl⟩
theorem QI:Hw X (.builtin "len") (λxs H Q=>∃ p ys,xs=[.ref p]/\(SqL X.K H p ys\/SqT X.K H p ys)/\Q (.int ys.length) H):=by
 intro pI s Y H xs us Q I r h;obtain⟨p,ys,rfl,hq,q⟩:=h;obtain⟨u,rfl,rx⟩:=Hy r;cases rx;have hn:=KB;rcases hq with hq|hq
 .obtain⟨its,r',pl,hz⟩:=I.list hq;have hlen:=r'.length;exact Calls.call_len_list pl.isList (by simp only[AN]<;>omega) ⟨.int ys.length,H,I.tok _,⟨s.toks+1,by rw[AN,hlen]⟩,q⟩
 .obtain⟨its,r',pl,hz⟩:=I.tuple hq;have hlen:=r'.length;exact len_tuple pl (by simp only[AN]<;>omega) ⟨.int ys.length,H,I.tok _,⟨s.toks+1,by rw[AN,hlen]⟩,q⟩
theorem YX:Hw X (.builtin "len") (λxs H Q=>∃ z,xs=[.str z]/\z.length<=sizeLine/\Q (.int z.length) H):=by
 intro pI s Y H xs us Q I r h;obtain⟨z,rfl,hz,q⟩:=h;obtain⟨u,rfl,t,rfl⟩:=Hy r;have hn:=KB;exact len_str (by omega) ⟨.int z.length,H,I.tok _,⟨_,rfl⟩,q⟩
theorem QH:Hw X (.type "list") (λxs H Q=>∃ p ys,xs=[.ref p]/\(SqL X.K H p ys\/SqT X.K H p ys)/\∀ l,H l=Ae->Q (.ref l) (upd H l (.lst ys))):=by
 intro pI s Y H xs us Q I r h;obtain⟨p,ys,rfl,hq,q⟩:=h;obtain⟨u,rfl,rx⟩:=Hy r;cases rx;have fin:∀(its:Ac Aj),A2 ys its->ys.length<=sizeLine->∀(h':AG)(c':Af),(∀ b o',s.heap.get? b=Aa o'->h'.get? b=Aa o') ->
   h'.get? s.heap.objs.size=Aa { cls:=.type "list",dict:=Ae,data:=.seq its.toArray c',slots:=#[] }->EP X pI Y Q (.ref s.heap.objs.size) {s with heap:=h'}:=λits r' hz h' c' kp e=>
  ⟨.ref s.heap.objs.size,_,I.laid (t':=s.toks) kp (AL _) (show ObjOk X.prog X.w _ h' _ (.lst ys) from ⟨hz,its,c',r',e⟩),rfl,q _ (I.hok.fresh (AL _))⟩
 rcases hq with hq|hq
 .obtain⟨its,r',pl,hz⟩:=I.list hq;have hlen:=r'.length;obtain⟨o,ho,hc,n,hd⟩:=pl.isList;exact call_list_seq p (.inl rfl) ho hc hd (λh' c' kp e=>fin its r' hz h' c' kp e) (by simp only[AN]<;>omega)
 .obtain⟨its,r',pl,hz⟩:=I.tuple hq;have hlen:=r'.length;obtain⟨o,ho,hc,n,hd⟩:=pl;exact call_list_seq p (.inr rfl) ho hc hd (λh' c' kp e=>fin its r' hz h' c' kp e) (by simp only[AN]<;>omega)
theorem Qz:Hw X (.type "tuple") (λxs H Q=>∃ p ys,xs=[.ref p]/\((SqL X.K H p ys/\∀ l,H l=Ae->Q (.ref l) (upd H l (.tup ys)))\/(SqT X.K H p ys/\Q (.ref p) H))):=by
 intro pI s Y H xs us Q I r h;obtain⟨p,ys,rfl,h⟩:=h;obtain⟨u,rfl,rx⟩:=Hy r;cases rx;rcases h with ⟨hq,q⟩|⟨hq,q⟩
 .obtain⟨its,r',pl,hz⟩:=I.list hq;have hlen:=r'.length;refine call_tuple_list pl.isList (λh' kp=>?_) (by simp only[AN]<;>omega)
  have I1:Inv X pI Y H {s with heap:=h'}:=I.kept (t':=s.toks) kp
  have I2:Inv X pI Y (upd H h'.objs.size (.tup ys)) { s with heap:=h'.push { cls:=.type "tuple",data:=.seq its.toArray } }:=
   I1.laid (t':=s.toks) (λb o e=>Au _ e) (AL _) (show ObjOk X.prog X.w _ _ _ (.tup ys) from ⟨hz,its,r',K7 _ _⟩)
  exact⟨.ref h'.objs.size,_,I2,rfl,q _ (I1.hok.fresh (AL _))⟩
 .obtain⟨its,r',pl,hz⟩:=I.tuple hq;exact call_tuple_same pl ⟨.ref p,H,I,rfl,q⟩
def tyV(K:Fg)(T:CZ)(x:V)(H:Hp):Prop:=match x with
  |.str _=>T = "str"
  |.int _=>T = "int"
  |.ref p=>(T = "list"/\∃ xs,SqL K H p xs)\/(T = "tuple"/\∃ o,K.lookup p=Aa o/\o.cls=.type "tuple"/\o.dict=Ae) \/
      (T = "dict"/\((∃ kvs,H p=Aa (.dK kvs))\/∃ kvs,H p=Aa (.dT kvs)))\/(T = "set"/\∃ S n,H p=Aa (.set S n))
  |_=>AW
theorem kS{pI:Pn}{Y:St}{H:Hp}{s:Ap}{T:CZ}{x:V}{v:Aj}(I:Inv X pI Y H s)(r:Bu x v)(ty:tyV X.K T x H):s.TypeIs v T/\∀ a,v=.ref a->∃ ob,s.heap.get? a=Aa ob/\ob.dict=Ae:=by
 cases x with
 |str z=>
  obtain⟨t,rfl⟩:=r;cases (show T = "str" from ty)
  exact⟨FB s z t,λ_ e=>nomatch e⟩
 |int i=>
  obtain⟨t,rfl⟩:=r;cases (show T = "int" from ty)
  exact⟨typeIs_int s i t,λ_ e=>nomatch e⟩
 |ref p=>
  cases r;rcases ty with ⟨rfl,xs,hq⟩|⟨rfl,o,hk,hc,hd⟩|⟨rfl,hk⟩|⟨rfl,S,n,hk⟩
  .obtain⟨its,_,pl,_⟩:=I.list hq;refine⟨pl.isList.typeIs,λa e=>?_⟩
   cases e;obtain⟨o,n,e,c,hd,_⟩:=pl;exact⟨o,e,hd⟩
  .refine⟨⟨o,I.kIn p o hk,hc⟩,λa e=>?_⟩
   cases e;exact⟨o,I.kIn _ o hk,hd⟩
  .have z:∃ o,s.heap.get? p=Aa o/\o.ExactDict:=by
    rcases hk with ⟨kvs,hk⟩|⟨kvs,hk⟩
    .obtain⟨_,_,_,_,o,_,_,e,ex,_⟩:=I.hok p _ hk;exact⟨o,e,ex⟩
    .obtain⟨_,_,_,_,o,_,_,e,ex,_⟩:=I.hok p _ hk;exact⟨o,e,ex⟩
   obtain⟨o,e,ex⟩:=z;refine⟨⟨o,e,ex.1⟩,λa e2=>?_⟩
   cases e2;exact⟨o,e,ex.2.1⟩
  .obtain⟨o,_,_,_,e,ex,_⟩:=I.hok p _ hk;refine⟨⟨o,e,ex.1⟩,λa e2=>?_⟩
   cases e2;exact⟨o,e,ex.2.1⟩
 |_=>exact A8 ty
def tBM(K:Fg)(T:CZ)(r:V->Ac V->Hp->VK->Prop)(to:TE)(t:TA):TE:=λY H Q=>to Y H λx H1=>tyV K T x H1/\t Y H1 λxs H2=>r x xs H2 Q
variable{o e:An}{es:Ac An}{to:TE}{t:TA}{name:Ag}{apos cpos:AD}{T id:CZ}{r:V->Ac V->Hp->VK->Prop}
theorem M7(pa:PlainAttrs T)(slot:Slot T name id)(hty:typeOf (.builtin id)=pure (.type "method_descriptor"))(hm:MtR X id r)(ho:PE X o to)(ha:PA X (e::es) t)(hbase:C8 o name X.env (eval o X.env)=eval o X.env:=by rfl)(hfew:((BA cpos (As (e::es) X.env)).all (λx=>!x.1)&&(Ho cpos (FW [] X.env)).all (λx=>x.1.isSome)
   && decide ((e::es).length+([]:Ac DZ).length+(if ([]:Ac DZ).isEmpty then 0 else 1)<30))=Ab:=by rfl)(hline:(apos.endLine==cpos.line)=Ab:=by rfl)(hs:As (e::es) X.env=(Ad,eval e X.env)::As es X.env:=by rfl)(hplain:(BA cpos (As es X.env)).any (·.1)=Ad:=by rfl):PE X (.Call (.Attribute o name apos) (e::es) [] cpos) (tBM X.K T r to t):=by
 intro pI s Y H Q I h;refine wpAny_Call_method_late hbase hfew hline rfl (thn (ho pI s Y H _ I h) λv s1 ⟨x,H1,I1,r1,ty,q1⟩=>?_)
 obtain⟨h1,h2⟩:=kS I1 r1 ty;refine⟨T,id,pa,slot,hty,h1,h2,?_⟩;have hA:=ha cpos pI s1 Y H1 _ I1 q1;rw[hs]at hA ⊢;refine WB (by show (Ad||(BA cpos (As es X.env)).any (·.1))=Ad;rw[hplain]<;>rfl) (EQ ?_)
 exact thn hA λus s2 ⟨vs,H2,I2,r2,q2⟩=>hm pI s2 Y H2 x vs v us Q I2 r1 r2 q2
/- xs.append(e),list.index on a module's tuple .. are MtR facts of 06m -/
end
noncomputable def MtM(X:Cx)(id:CZ)(r:V->Ac V->Hp->VK->Prop):Prop:=
 ∀(pI:Pn)(s:Ap)(Y:St)(H:Hp)(x:V)(xs:Ac V)(v:Aj)(us:Ac Aj)(Q:VK),Inv X pI Y H s->Bu x v->A2 xs us->r x xs H Q ->
  Av (model X.prog X.w) X.A (call (.builtin id) (v::us)) (EP X pI Y Q) X.xe s
theorem A2.one:∀{x:V}{us:Ac Aj},A2 [x] us->∃ u,us=[u]/\Bu x u
 |_,_,.cons r .nil=>⟨_,rfl,r⟩
theorem A2.zero:∀{us:Ac Aj},A2 [] us->us=[]
 |_,.nil=>rfl
theorem A2.eraseIdx:∀{xs:Ac V}{us:Ac Aj}(i:Af),A2 xs us->A2 (xs.eraseIdx i) (us.eraseIdx i)
 |_,_,_,.nil=>.nil
 |_,_,0,.cons _ t=>t
 |_,_,i+1,.cons r t=>.cons r (A2.eraseIdx i t)
theorem A2.reverse(h:A2 xs us):A2 xs.reverse us.reverse:=by
 induction h with
 |nil=>exact .nil
 |cons r t ih=>rw[Wg,Wg];exact A2.append ih (.cons r .nil)
section
variable{X:Cx}{pI:Pn}{Y:St}{H:Hp}{s:Ap}{l b:Ak}{xs ys zs:Ac V}
theorem Inv.lset{its':Ac Aj}{f:Bg Aj->Bg Aj}(I:Inv X pI Y H s)(hH:H l=Aa (.lst xs))(e:s.heap.get? l=Aa { cls:=.type "list",data:=.seq its.toArray n })(hf:f its.toArray=its'.toArray)(hv:A2 ys its')(hz:ys.length<=sizeLine):Inv X pI Y (upd H l (.lst ys)) {s with heap:=s.heap.update l (Xn f),toks:=t'}:=by
 have q:=PySem.IsL.update e f;rw[hf]at q;refine I.write (x:=l) (e:=l) (by rw[hH];exact trivial) (.inl rfl) (λb' u hb hu=>(BU s.heap (Xn f) (CI hb)).trans hu) ⟨_,q⟩ ?_
 exact⟨hz,its',_,hv,q⟩
theorem Inv.lnew(I:Inv X pI Y H s)(hv:A2 ys its)(hz:ys.length<=sizeLine):
  Inv X pI Y (upd H s.heap.objs.size (.lst ys)) { s with heap:=s.heap.push { cls:=.type "list",data:=.seq its.toArray },toks:=t' }:=
 I.laid (λ_ _ q=>Au _ q) (AL _) ⟨hz,its,0,hv,A3 _ rfl⟩
theorem Inv.fresh(I:Inv X pI Y H s):H s.heap.objs.size=Ae:=I.hok.fresh (AL _)
theorem Inv.lstM(I:Inv X pI Y H s)(hH:H l=Aa (.lst xs)):xs.length<=sizeLine/\∃(its:Ac Aj)(n:Af),A2 xs its/\xs.length=its.length/\s.heap.get? l=Aa { cls:=.type "list",data:=.seq its.toArray n }:=by
 obtain⟨z,its,n,r,e⟩:=I.hok l _ hH;exact⟨z,its,n,r,r.length,e⟩
end
section
variable{X:Cx}
def gE:V->Ac V->Hp->VK->Prop:=λx vs H Q=>∃ l xs y,x=.ref l/\vs=[y]/\H l=Aa (.lst xs)/\xs.length<sizeLine/\Q .non (upd H l (.lst (xs++[y])))
theorem ZD:MtM X "list.append" gE:=by
 intro pI s Y H x vs v us Q I rx rv h;obtain⟨l,xs,y,rfl,rfl,hH,hz,q⟩:=h;cases rx;obtain⟨u,rfl,ru⟩:=rv.one;obtain⟨z,its,n,r,hl,e⟩:=I.lstM hH;refine Gj F.slot_list_append ⟨_,e,rfl⟩ F.entry_list_append (F.args_list_append_2 _ _) (PySem.list_append l its.toArray n u (by rw[AN];omega)) ⟨e,?_⟩
 refine⟨.non,_,I.lset (its':=its++[u]) hH e (by simp) (r.append (.cons ru .nil)) ?_,rfl,q⟩
 rw[BS,De];omega
end
section
variable{prog:AM}{w:AA}{A:AU}{E:Vq}{s:Ap}
set_option maxRecDepth 100000 in
end
section
variable{X:Cx}
end
end L2
namespace Att
open PySem PySem.W PySem.Calls PyProof.Rows
variable{P:Ld}{h:AG}{l:FV}{n:Af}
theorem YO:∀(ns:Ac Ah)(vs:Ac Aj),WellAll P h vs (ns.map XN)->Ih vs ns:=by
 intro ns
 induction ns with
 |nil=>
  intro vs w;rw[D5]at w;cases w;exact .nil
 |cons n ns ih=>
  intro vs w;rw[A4]at w;cases w with
  |cons a b=>
   cases a;exact .cons _ _ (ih _ b)
theorem ZK(hn:l.most=Aa n){args:Ac WData}{vals:Ac Aj}(hpre:l.row.toRowW.claim.pre args=Ab)(hwl:WellAll P h vals args):
  ∃ a vs ns,vals=[Bk a]/\args=[WData.list (ns.map XN)]/\h.get? a=Aa { cls:=.type "list",data:=.seq vs.toArray }/\Ih vs ns/\ns.length<=n:=by
 have hsh:WShape.hasAll [] args [.list .int]=Ab:=(pre_splitW hpre).1;have hc:l.pre.holds [] {args:=args}=Ab:=(pre_splitW hpre).2;obtain⟨d,r,rfl,h1,h2⟩:=hasAllW_cons hsh;obtain rfl:=hasAllW_nil h2;obtain⟨xs,rfl,h3⟩:=hasW_list h1;obtain⟨ns,rfl⟩:=items_int h3;have hlen:ns.length<=n:=by
  unfold OpenLaw.pre at hc;have h4:(WTm.not (.lt (.lit (.int (n:Ah))) (.len (.arg 0)))).holds [] {args:=[.list (ns.map .int)]}=Ab:=by
   have h4:=(holds_andW hc).1;rw[hn]at h4;exact h4
  have h5:=condW_of h4 (w_not (w_lt w_lit (w_len_list (w_arg rfl))));rw[Bo]at h5;refine Nat.le_of_not_lt λq=>?_
  have q':(n:Ah)<((ns.length:Af):Ah):=by omega
  first
   |(rw[D2 q']at h5;exact absurd h5 (by decide))
   |(simp at h5;omega)
 cases hwl with
 |cons w1 w2=>
  cases w2;cases w1 with
  |list ho hall=>exact⟨_,_,ns,rfl,rfl,ho,YO ns _ hall,hlen⟩
theorem ZN(l:FV)(args:Ac WData):l.row.toRowW.claim.post args (.bool Ab) args=Ab:=
 postW_of (r:=l.row.toRowW) (X:=(Ab==Ab))
  (show XQ [] (.bool Ab) .bool=Ab by first|rfl|decide|simp[XQ,WShape.arms,WShape.armsAll])
  (show (WTm.eq .res (.lit (.bool Ab))).value [] {args:=args,res:=Aa (.bool Ab),after:=args}=Aa (.bool (Ab==Ab)) from w_eq_bool (w_res rfl) w_lit) rfl
theorem attach_call{q:AM}{loose:Ac Ag}{XP:(Ag->Ao Aj)->AG->Prop}{YP:AA->AG->Prop}{d:DefRec}(hn:l.most=Aa n)(hdf:d.params.defaults=[])(call:∀(w:AA)(s₀ s₁:Ap)(mg mb:Ag->Ao Aj)(fa:Ak)(o:C9)(pm cd doc:Aj)(a:Ak)(vs:Ac Aj)(ns:Ac Ah),
   Ground q loose [] XP w s₀ mg mb s₁.heap->YP w s₁.heap ->
   s₁.heap.get? fa=Aa o->o.data=.func (docDef d.name d.params d.body d.scope pm cd doc)->s₁.heap.CodeRec cd d.name->mg d.name=Aa (.ref fa) ->
   s₁.heap.get? a=Aa { cls:=.type "list",data:=.seq vs.toArray }->Ih vs ns->ns.length<=n->s₁.gens=#[] ->
   EG (model l.prog w) Hc (.call (.ref fa) ⟨[.ref a],[]⟩) (λr s'=>r=.ok (.ret (.bool Ab))/\OldK s₁.heap s'.heap/\s'.os=s₁.os/\FA s'.gens) s₁):WalkO q loose XP YP l.row.toRowW d [] (λf vs=>Kg f vs):=by
 intro w s₀ s₁ mg mb G Y_ fa o pm cd doc dV kV ho hd hcd hD hmg hg args vals as hpre hlay hrd hwl hlo;obtain rfl:dV=.none:=Dflts.none hD hdf;obtain rfl:kV=.none:=Dflts.noKw hD;obtain⟨a,vs,ns,rfl,rfl,hobj,hints,hlen⟩:=ZK hn hpre hwl;refine enter_call (EH (call w s₀ s₁ mg mb fa o pm cd doc a vs ns G Y_ ho (fd_plain hd) hcd hmg hobj hints hlen hg) λr s' hq=>?_)
 obtain⟨rfl,h2,h3,h4⟩:=hq;exact⟨.inl ⟨.bool Ab,.bool Ab,[],rfl,λ_=>rfl,.bool Ab,ZN l _,λ_=>⟨List.Pairwise.nil,λ_ hm=>(nomatch hm)⟩⟩,h2,h3,h4⟩
section
variable{prog:AM}{w:AA}{A:AU}{E:Vq}{s:Ap}{K:Frag}
end
end Att
namespace L2
open PySem PySem.Spec PyProof.Rows
variable{k:Af}{x:Ag}
theorem Q8:∀{vs:Ac Aj}{ns:Ac Ah},Ih vs ns->A2 (ns.map V.int) vs
 |_,_,.nil=>.nil
 |_,_,.cons n t h=>.cons ⟨t,rfl⟩ (Q8 h)
def Qv(H:Hp):Prop:=∀ b,H b=Ae\/∃ o xs,H b=Aa (.frz o (.lst xs))
theorem bF{P:AM}{w:AA}{K:Fg}{mg mb:Ag->Ao Aj}{CX:CXT}{fa a:Ak}{fd:BE}{sp:Sp}{s₁:Ap}{vs:Ac Aj}{ns:Ac Ah}(KX:K.In s₁.heap)(hns:s₁.heap.Ns AR mg)(hb:s₁.heap.Ns Iu mb)(hbb:∀ x:Ag,x≠"__name__"->mb x=CY x)(hlim:s₁.heap.NoLimit)(hg:s₁.gens=#[])(ha:s₁.heap.get? a=Aa { cls:=.type "list",data:=.seq vs.toArray })(hi:Ih vs ns)(hl:ns.length<=sizeLine)(hr:Room k Hc)(F:∀ base:AG,K.In base->base.Ns AR mg->FnOk P w K mg base CX k fa fd [x] sp)(hbind:∀(s:Ap)(u:Aj),GB s fd ⟨[u],[]⟩ [(x,u)])(hsp:∀ H:Hp,Qv H->SqL K H a (ns.map V.int)->sp [.ref a] H (λv _=>v=.bl Ab) λ_ _ _=>AW)(hCX:∀ H e s',CX [] H s₁ (λ_ _ _=>AW) e s'->AW):EG (model P w) Hc (.call (.ref fa) ⟨[.ref a],[]⟩) (λr s'=>r=.ok (.ret (.bool Ab))/\OldK s₁.heap s'.heap/\s'.os=s₁.os/\FA s'.gens) s₁:=by
 have rv:=Q8 hi;have lenV:=hi.length
 -- from an abstract heap in which nothing but the script may be tracked
 have core:∀ H:Hp,Qv H->SqL K H a (ns.map V.int)->HOk P w H s₁.heap->(∀ b,H b≠Ae->b=a)->(H a≠Ae->K.lookup a=Ae) ->
   EG (model P w) Hc (.call (.ref fa) ⟨[.ref a],[]⟩) (λr s'=>r=.ok (.ret (.bool Ab))/\OldK s₁.heap s'.heap/\s'.os=s₁.os/\FA s'.gens) s₁:=by
  intro H hO hS hok hA hK;have base_of:∀{b:Ak}{o:C9},s₁.heap.get? b=Aa o->H b=Ae->(IT s₁.heap H).get? b=Aa o:=λe n=>bN e n
  have noA:∀{b:Ak}{o:C9}{es:Bg DictEntry}{ep:Af},s₁.heap.get? b=Aa o->o.data=.dict es ep->H b=Ae:=λ{b o es ep} e d=>by
   cases q:H b with
   |none=>rfl
   |some u=>
    have e':b=a:=hA b (by rw[q];simp)
    subst e';rw[ha]at e;cases e;have d':Lb vs.toArray _=Data.dict es ep:=d;cases d'
  have nsK:∀{b:Ak}{m:Ag->Ao Aj},s₁.heap.Ns b m->(IT s₁.heap H).Ns b m:=λ{b m} ⟨o,es,ep,e,d,r⟩=>⟨o,es,ep,base_of e (noA e d),d,r⟩
  have hKb:K.In (IT s₁.heap H):=λb o e=>base_of (KX b o e) (by
   cases q:H b with
   |none=>rfl
   |some u=>
    have e':b=a:=hA b (by rw[q];simp)
    subst e';rw[hK (by rw[q];simp)]at e;cases e)
  have hM:Mod K mg (IT s₁.heap H):=⟨hKb,nsK hns,⟨mb,nsK hb,hbb⟩,let ⟨mc,h1,h2⟩:=hlim;⟨mc,nsK h1,h2⟩⟩
  have e0:Env0 P w K mg (IT s₁.heap H) Hc [] s₁ H:=⟨rfl,hM,λb o e=>fR e,Wj (Zy _ _),trivial,λb hb=>absurd (show b∈([]:Ac Ak) from hb) (by simp),hok,.of_eq hg⟩
  refine EH ((F _ hKb (nsK hns)).run Hc [] s₁ H ⟨[.ref a],[]⟩ [.ref a] [.ref a] _ _ hr e0 (hbind s₁ (.ref a)) (.cons rfl .nil) (hsp H hO hS)) λr s' h=>?_
  cases r with
  |error e=>exact(hCX H e s' h).elim
  |ok fl=>
   cases fl with
   |next=>exact A8 h
   |brk=>exact A8 h
   |cont=>exact A8 h
   |ret u=>
    obtain⟨v,H',os,bare,un,hok',r',q⟩:=h;have q':v=.bl Ab:=q;subst q';obtain rfl:u=Ip Ab:=r';refine⟨rfl,OldK.of_keep λb o e=>?_,os,bare⟩
    cases q:H b with
    |none=>exact un.keep b o e q (by intro z;exact absurd (show b∈([]:Ac Ak) from z) (by simp)) (by simp)
    |some u=>
     rcases hO b with z|⟨ob,xs,z⟩
     .rw[q]at z;cases z
     .have z2:=un.frzs b ob _ z;obtain⟨e1,_⟩:=hok b _ z;obtain⟨e2,_⟩:=hok' b _ z2;rw[e]at e1;cases e1;exact e2
 cases hk:K.lookup a with
 |some o=>
  -- the script is one of the module's own objects
  have e:=KX a o hk;rw[ha]at e;cases e;refine core (λ_=>Ae) (λ_=>.inl rfl) (.inr ⟨_,vs.toArray,_,hk,rfl,rfl,rfl,by rw[AN,lenV];exact hl,by simpa using rv⟩) (λb u z=>by have z':(Ae:Ao HO)=Aa u:=z;cases z') (λb z=>absurd rfl z) λz=>absurd rfl z
 |none=>
  refine core (λb=>if b=a then Aa (.frz { cls:=.type "list",data:=.seq vs.toArray } (.lst (ns.map V.int))) else Ae) (λb=>?_) (.inl (.inr ⟨{ cls:=.type "list",data:=.seq vs.toArray },At rfl⟩)) (λb u z=>?_) (λb z=>?_) λ_=>hk
  .by_cases hb:b=a
   .exact .inr ⟨_,_,At hb⟩
   .exact .inl (AC hb)
  .by_cases hb:b=a
   .have z':=(At hb).symm.trans z;cases z';subst hb;exact⟨ha,by rw[Bo];exact hl,vs,_,rv,ha⟩
   .have z':=(AC hb).symm.trans z;cases z'
  .by_cases hb:b=a
   .exact hb
   .exact absurd (AC hb) z
noncomputable abbrev KOf{K:Fg}{h:AG}(_:K.In h):Fg:=K
theorem walk_of{l:FV}{n:Af}{q:AM}{loose:Ac Ag}{XP:(Ag->Ao Aj)->AG->Prop}{YP:AA->AG->Prop}{d:DefRec}{K:Ld->Fg}{CX:AA->CXT}{sp:AA->Sp}(hn:l.most=Aa n)(hn2:n<=sizeLine)(hdf:d.params.defaults=[])(hr:Room k Hc)(hY:∀(w:AA)(h:AG),YP w h->(K w.params).In h)(F:∀(w:AA)(mg:Ag->Ao Aj)(fa:Ak)(h:AG),(K w.params).In h->h.Ns AR mg->mg d.name=Aa (.ref fa) ->
   ∃ fd:BE,(∀(s:Ap)(u:Aj),GB s fd ⟨[u],[]⟩ [(x,u)]) /\
    ∀ base:AG,(K w.params).In base->base.Ns AR mg->FnOk l.prog w (K w.params) mg base (CX w) k fa fd [x] (sp w))(hsp:∀(w:AA)(H:Hp)(a:Ak)(ns:Ac Ah),ns.length<=n->Qv H->SqL (K w.params) H a (ns.map V.int)->sp w [.ref a] H (λv _=>v=.bl Ab) λ_ _ _=>AW)(hCX:∀(w:AA)(H:Hp)(s:Ap)(e:Aj)(s':Ap),CX w [] H s (λ_ _ _=>AW) e s'->AW):XS q loose XP YP l.row.toRowW d [] (λf vs=>Kg f vs):=by
 refine Att.attach_call hn hdf λw s₀ s₁ mg mb fa o pm cd doc a vs ns G Y_ ho hd hcd hmg hobj hints hlen hg=>?_
 have KX:=hY w _ Y_;obtain⟨fd,hb,hF⟩:=F w mg fa _ KX G.T.g hmg;exact bF KX G.T.g G.T.b G.T.builtins G.T.nolimit hg hobj hints (By hlen hn2) hr hF hb (λH hO hS=>hsp w H a ns hlen hO hS) λH e s'=>hCX w H s₁ e s'
end L2
/- THE LAST THEOREM (shape;LID,My.* are yours):
   My.Adr:a structure of the addresses that your layer names (classes,functions);My.Txt K t:a structure (Prop) of the equations over K;
   My.txt_mk:{K} {implicit addresses ..} (e1:nsIn K AR "law" = Aa (Aa (.ref f))) (e2:K.lookup f=Aa ⟨oc,od,.func (fnOf "law" "law" params body scope dV kV doc pm an cdv ct),sl⟩) (e3:codeIn K cdv "law" = Ab) ..:∃ t,My.Txt K t
set_option maxRecDepth 100000 in
set_option maxHeartbeats 0 in
theorem PySem.Challenge.cw_LID_holds:PySem.Challenge.rw_LID.Holds:=by
 w_on;o_law;k_head;(case hw=>w_witness2)
 k_fill
 refine L2.walk_of (l:=PySem.Challenge.rw_LID) (n:=63) (k:=40) (x := "script") (CX:=λw=>..) (sp:=λ_=>My.sp_law) rfl (by decide) rfl ⟨rfl,by decide,by decide⟩ (λw h Y_=>XZ Y_) ?F ?S ?C
 case F=>
  intro w mg fa h KX G hmg;have T:∃ t,My.Txt (L2.KOf KX) t:=by
   dsimp only[L2.KOf]                          -- K must stand as «<heap const> w.params» for k_is
   refine' My.txt_mk ?e1 ?e2 ?e3 ..
   (case e1=>PySem.W.k_is)                    -- in the order: a name -> its address -> its object -> its parts
   (case e2=>PySem.W.k_is)
   ..
  obtain⟨t,T⟩:=T;have e0:=hmg.symm.trans (BM KX G T.law);cases e0                                       -- fa is the law's own address
  exact⟨_,fun s u=>.of_eq rfl,fun base kb nb=>My.law_fn T kb nb⟩     -- if «.of_eq rfl» comes too early: refine' ⟨_,?b,fun base kb nb=>My.law_fn T kb nb⟩;exact fun s u=>.of_eq rfl
 case S=>exact λw H a ns hl hO hS=>..
 case C=>exact ..
(the tactic k_is has no namespace:write k_is) -/
namespace L2
open PySem PySem.Spec PyProof.Rows
noncomputable def Go(s:AJ):Arguments:=match s with
  |.FunctionDef _ a _ _ _ _ _ _ _ _=>a
  |_=>{posonlyargs:=[],args:=[],vararg:=Ae,kwonlyargs:=[],kw_defaults:=[],kwarg:=Ae,defaults:=[]}
noncomputable def Ew(s:AJ):Ac AJ:=match s with
  |.FunctionDef _ _ b _ _ _ _ _ _ _=>b
  |_=>[]
noncomputable def BK(s:AJ):BN:=match s with
  |.FunctionDef _ _ _ _ _ _ sc _ _ _=>sc
  |_=>{kind:=.function,names:=[],isGenerator:=Ad,isCoroutine:=Ad}
noncomputable abbrev CX0:CXT:=λ_ _ _ _ _ _=>AW
noncomputable abbrev E0:XK:=λ_ _ _=>AW
structure Fun (K:Fg) (x qual:Ag) (st:AJ) (f:Ak) (fd:BE):Prop where
 ex:∃(oc:Aj)(od:Ao Ak)(kV doc pm:Aj)(an:Ao Ak)(cdv ct:Aj)(osl:Bg (Ao Aj)),
  fd=BX x qual (Go st) (Ew st) (BK st) .none kV doc pm an cdv ct/\K.lookup f=Aa ⟨oc,od,.func fd,osl⟩/\D0 K cdv qual=Ab
 kp:Bi K (.ref f)=Ab
section
variable{P:AM}{w:AA}{K:Fg}{mg:Ag->Ao Aj}{base:AG}
theorem Fun.ok{x qual:Ag}{st:AJ}{f:Ak}{fd:BE}{N ps:Ac Ag}{k:Af}{sp:Sp}(F:Fun K x qual st f fd)(S:FnScope N ps (BK st))(len:∀ vs H Q E,sp vs H Q E->vs.length=ps.length)(hbody:∀(cdv:Aj)(A:AU)(outer:Ac Ci)(s:Ap)(H:Hp)(vs:Ac V)(Q:VK)(E:XK),Room k (A.deeper (Ek qual (BK st) s.heap.objs.size f cdv))->sp vs H Q E ->
   ∃ t,PSs (Fh CX0 P w K mg base N qual (BK st) f cdv A outer s H E).nox (Ew st) t/\t {nx:=λ_ H'=>Q .non H',rt:=Q} (start N vs) H):FnOk P w K mg base CX0 (k+1) f fd ps sp:=by
 obtain⟨oc,od,kV,doc,pm,an,cdv,ct,osl,rfl,lk,hcd⟩:=F.ex;refine P0 lk hcd S len λA outer s H vs Q E hr hsp=>?_
 obtain⟨t,h,q⟩:=hbody cdv A outer s H vs Q E hr hsp;exact⟨t,h.nox,q⟩
theorem Fun.binds{x qual:Ag}{st:AJ}{f:Ak}{fd:BE}{ps:Ac Ag}(F:Fun K x qual st f fd)(h:∀(kV doc pm:Aj)(an:Ao Ak)(cdv ct:Aj)(us:Ac Aj),us.length=ps.length->F2 (BX x qual (Go st) (Ew st) (BK st) .none kV doc pm an cdv ct) ⟨us,[]⟩=pure (ps.zip us)):EK K fd ps []:=by
 obtain⟨oc,od,kV,doc,pm,an,cdv,ct,osl,rfl,lk,hcd⟩:=F.ex;exact .all (h kV doc pm an cdv ct)
theorem O7{x qual:Ag}{st:AJ}{f:Ak}{oc:Aj}{od an:Ao Ak}{osl:Bg (Ao Aj)}{kV doc pm cdv ct:Aj}(l:K.lookup f=Aa ⟨oc,od,.func (BX x qual (Go st) (Ew st) (BK st) .none kV doc pm an cdv ct),osl⟩)(c:D0 K cdv qual=Ab)(k:Bi K (.ref f)=Ab):Fun K x qual st f (BX x qual (Go st) (Ew st) (BK st) .none kV doc pm an cdv ct):=⟨⟨oc,od,kV,doc,pm,an,cdv,ct,osl,rfl,l,c⟩,k⟩
end
section
variable{X:Cx}
end
def Az(H H':Hp):Prop:=∀ b o,H b=Aa o->H' b=Aa o
theorem Az.refl(H:Hp):Az H H:=λ_ _ h=>h
theorem Az.trans{H H1 H2:Hp}(a:Az H H1)(b:Az H1 H2):Az H H2:=λc o h=>b c o (a c o h)
theorem Az.free{H H':Hp}(e:Az H H'){l:Ak}(h:H' l=Ae):H l=Ae:=by
 cases q:H l with
 |none=>rfl
 |some o=>
  rw[e l o q]at h;cases h
end L2
section
namespace Ov
open PySem
variable{α β:Type}
inductive D where
 |non|bl (b:Am)|int (i:Ah)|str (x:Ag)|tup (ds:Ac D)|lst (ds:Ac D)
 |obj (c:Af) (fs:Ac (Ag×D))|exc (c:Af) (fs:Ac (Ag×D))|dic (kvs:Ac (Ac Ah×D))
 deriving Inhabited
structure Ex where
 c:Af
 fs:Ac (Ag×D)
 deriving Inhabited
inductive R (α:Type) where
 |ok (a:α)|exn (x:Ex)|bad
 deriving Inhabited
noncomputable def R.bind{α β:Type}(r:R α)(f:α->R β):R β:=match r with
  |.ok a=>f a
  |.exn x=>.exn x
  |.bad=>.bad
@[simp]theorem R.bind_ok(a:α)(f:α->R β):(R.ok a).bind f=f a:=rfl
@[simp]theorem R.bind_exn(x:Ex)(f:α->R β):(R.exn x:R α).bind f=.exn x:=rfl
@[simp]theorem R.bind_bad(f:α->R β):(R.bad:R α).bind f=.bad:=rfl
theorem R.bind_assoc{γ:Type}(r:R α)(f:α->R β)(g:β->R γ):(r.bind f).bind g=r.bind λa=>(f a).bind g:=by cases r<;>rfl
noncomputable def Cd(n:Af):Am:=Dl n 1000000
noncomputable def FP(i j:Ah):Am:=(decide (-(18446744073709551616:Ah)<i)&&decide (i<18446744073709551616))||(decide (-(18446744073709551616:Ah)<j)&&decide (j<18446744073709551616))
noncomputable def Ni(i j:Ah):Am:=decide (i.natAbs<2 ^ 2000)&&decide (j.natAbs<2 ^ 2000)
noncomputable def CF:Fq->D->D->R D
 |.Add,.int i,.int j=>.ok (.int (i+j))
 |.Sub,.int i,.int j=>.ok (.int (i-j))
 |.Mult,.int i,.int j=>if (FP i j||Ni i j)=Ab then .ok (.int (i*j)) else .bad
 |.FloorDiv,.int i,.int j=>if 0<j/\j<1073741824 then .ok (.int (i/j)) else .bad
 |.Mod,.int i,.int j=>if 0<j then .ok (.int (i%j)) else .bad
 |.Pow,.int i,.int j=>if (0<=j/\j<=1000000)/\(-(18446744073709551616:Ah)<i/\i<18446744073709551616) then .ok (.int (i ^ j.toNat)) else .bad
 |.Add,.str x,.str y=>if Cd (x.length+y.length)=Ab then .ok (.str (x++y)) else .bad
 |.Add,.lst x,.lst y=>if Cd (x.length+y.length)=Ab then .ok (.lst (x++y)) else .bad
 |.Add,.tup x,.tup y=>if (!x.isEmpty&&Cd (x.length+y.length))=Ab then .ok (.tup (x++y)) else .bad
 |_,_,_=>.bad
noncomputable def unD:JG->D->R D
 |.USub,.int i=>.ok (.int (-i))
 |_,_=>.bad
noncomputable def b2i(b:Am):Ah:=if b=Ab then 1 else 0
mutual
noncomputable def eqD:D->D->Am
 |.non,.non=>Ab
 |.bl a,.bl b=>a==b
 |.bl a,.int j=>b2i a==j
 |.int i,.bl b=>i==b2i b
 |.int i,.int j=>i==j
 |.str x,.str y=>x==y
 |.tup xs,.tup ys=>eqDs xs ys
 |.lst xs,.lst ys=>eqDs xs ys
 |_,_=>Ad
noncomputable def eqDs:Ac D->Ac D->Am
 |[],[]=>Ab
 |x::xs,y::ys=>eqD x y&&eqDs xs ys
 |_,_=>Ad
end
noncomputable def flD:Af->D->Am
 |_,.non=>Ab
 |_,.bl _=>Ab
 |_,.int _=>Ab
 |_,.str _=>Ab
 |n+1,.tup xs=>xs.all (flD n)
 |n+1,.lst xs=>xs.all (flD n)
 |_,_=>Ad
noncomputable def JD:D->Ao (Ac Ah)
 |.tup ds=>keyDs ds
 |_=>Ae
where keyDs:Ac D->Ao (Ac Ah)
 |[]=>Aa []
 |.int i::r=>(keyDs r).map (i :: ·)
 |_=>Ae
noncomputable def ltD:Af->D->D->Am
 |0,.int i,.int j=>decide (i<j)
 |n+1,.tup xs,.tup ys=>ltDs (ltD n) xs ys
 |_,_,_=>Ad
where ltDs (lt:D->D->Am):Ac D->Ac D->Am
 |[],[]=>Ad
 |[],_::_=>Ab
 |_::_,[]=>Ad
 |x::xs,y::ys=>if eqD x y=Ab then ltDs lt xs ys else lt x y
noncomputable def rkD:Af->D->Am
 |0,.int _=>Ab
 |n+1,.tup xs=>xs.all (rkD n)
 |_,_=>Ad
noncomputable def VD(lt:D->D->Am)(x:D):Ac D->Ac D
 |[]=>[x]
 |y::ys=>if lt y x=Ab then y::VD lt x ys else x::y::ys
noncomputable def Ue(lt:D->D->Am):Ac D->Ac D
 |[]=>[]
 |x::xs=>VD lt x (Ue lt xs)
noncomputable def U_5:Ac D->Am
 |[]=>Ab
 |x::xs=>xs.all (λy=>!eqD x y)&&U_5 xs
noncomputable def Vv:Ac D->Am
 |[]=>Ab
 |[_]=>Ab
 |x::y::r=>ltD 1 x y&&Vv (y::r)
noncomputable def RZ(xs:Ac D):R (Ac D):=if (xs.all (λd=>rkD 1 d && !eqD d (.tup []))&&U_5 xs&&(decide (xs.length<64)||(Vv xs&&decide (xs.length<=1000))))=Ab then .ok (Ue (ltD 1) xs) else .bad
noncomputable def Bp:C5->D->D->R D
  |.Eq,x,y=>if (flD 5 x&&flD 5 y)=Ab then .ok (.bl (eqD x y)) else .bad
  |.NotEq,x,y=>if (flD 5 x&&flD 5 y)=Ab then .ok (.bl (!eqD x y)) else .bad
  |.Lt,.int i,.int j=>.ok (.bl (decide (i<j)))
  |.LtE,.int i,.int j=>.ok (.bl (decide (i<=j)))
  |.Gt,.int i,.int j=>.ok (.bl (decide (j<i)))
  |.GtE,.int i,.int j=>.ok (.bl (decide (j<=i)))
  |.In,x,.lst ys=>if (flD 5 x&&ys.all (flD 5))=Ab then .ok (.bl (ys.any λy=>eqD y x)) else .bad
  |.In,x,.dic kvs=>match JD x with
    |some k=>.ok (.bl (kvs.any λp=>p.1==k))
    |none=>.bad
  |.In,x,.tup ys=>if (flD 5 x&&ys.all (flD 5))=Ab then .ok (.bl (ys.any λy=>eqD y x)) else .bad
  |.NotIn,x,.lst ys=>if (flD 5 x&&ys.all (flD 5))=Ab then .ok (.bl (!ys.any λy=>eqD y x)) else .bad
  |.NotIn,x,.tup ys=>if (flD 5 x&&ys.all (flD 5))=Ab then .ok (.bl (!ys.any λy=>eqD y x)) else .bad
  |.Is,.non,.non=>.ok (.bl Ab)
  |.Is,.bl _,.non=>.ok (.bl Ad)
  |.Is,.int _,.non=>.ok (.bl Ad)
  |.Is,.str _,.non=>.ok (.bl Ad)
  |.Is,.tup _,.non=>.ok (.bl Ad)
  |.Is,.lst _,.non=>.ok (.bl Ad)
  |.Is,.obj _ _,.non=>.ok (.bl Ad)
  |.Is,.bl a,.bl b=>.ok (.bl (a==b))
  |.IsNot,.bl a,.bl b=>.ok (.bl (!(a==b)))
  |.IsNot,.non,.non=>.ok (.bl Ad)
  |.IsNot,.bl _,.non=>.ok (.bl Ab)
  |.IsNot,.int _,.non=>.ok (.bl Ab)
  |.IsNot,.str _,.non=>.ok (.bl Ab)
  |.IsNot,.tup _,.non=>.ok (.bl Ab)
  |.IsNot,.lst _,.non=>.ok (.bl Ab)
  |.IsNot,.obj _ _,.non=>.ok (.bl Ab)
  |_,_,_=>.bad
noncomputable def BY:D->R Am
 |.non=>.ok Ad
 |.bl b=>.ok b
 |.int i=>.ok (i != 0)
 |.str x=>if Cd x.length=Ab then .ok (x.length != 0) else .bad
 |.tup xs=>.ok (!xs.isEmpty)
 |.lst xs=>.ok (!xs.isEmpty)
 |_=>.bad
noncomputable def plD(n:Af)(i:Ah):Ao Af:=if 0<=i then (if i<n then Aa i.toNat else Ae) else if -(n:Ah)<=i then Aa (i+n).toNat else Ae
noncomputable def CP(xs:Ac D)(i:Ah):R D:=match plD xs.length i with
  |some k=>match xs[k]? with
    |some d=>.ok d
    |none=>.bad
  |none=>.bad
noncomputable def Pl(kvs:Ac (Ac Ah×D))(k:Ac Ah):Ao D:=(kvs.find? λp=>p.1==k).map (·.2)
noncomputable def Tf(kvs:Ac (Ac Ah×D))(k:Ac Ah)(v:D):Ac (Ac Ah×D):=if (kvs.any λp=>p.1==k)=Ab then kvs.map (λp=>if (p.1==k)=Ab then (k,v) else p) else kvs++[(k,v)]
noncomputable def FU(x:Ag):Ac D:=x.cps.toList.map λc=>.str ⟨#[c]⟩
noncomputable def FS:D->D->R D
  |.str x,.int i=>if Cd x.length=Ab then CP (FU x) i else .bad
  |.lst xs,.int i=>CP xs i
  |.tup xs,.int i=>CP xs i
  |.dic kvs,k=>match (JD k).bind (Pl kvs) with
    |some d=>.ok d
    |none=>.bad
  |_,_=>.bad
noncomputable def Fv:D->R Ah
 |.int i=>.ok i
 |_=>.bad
noncomputable def DA:D->R Am
 |.bl b=>.ok b
 |_=>.bad
noncomputable def Ey:D->R (Ac D)
 |.lst xs=>.ok xs
 |.tup xs=>.ok xs
 |_=>.bad
noncomputable def PU:D->R (Ac D)
 |.lst xs=>.ok xs
 |_=>.bad
inductive BI where
 |len|abs|max|min|int|list|tuple|all|any|sum|sorted|str|count|stp|lset|tmin|tmax|tlt|rvs|sjoin|ssplit|index
 deriving DecidableEq,Inhabited
inductive Ki where
 |int|bool|str|list|tuple|verr|cls (c:Af)
 deriving DecidableEq,Inhabited
mutual
inductive E where
 |non|bl (b:Am)|int (i:Ah)|str (x:Ag)
 |var (i:Af)|glob (g:Af)
 |bin (op:Fq) (a b:E)|un (op:JG) (a:E)|no (a:E)
 |and (es:Es)|or (es:Es)
 |cmp (op:C5) (a b:E)|cmp2 (op op':C5) (a b c:E)
 |ite (c a b:E)
 |call (f:Af) (as:Es)|bi (b:BI) (as:Es)
 |isi (a:E) (ks:Ac Ki)
 |idx (a i:E)|sl (a lo hi:E)
 |tup (es:Es)|lst (es:Es)
 |comp (elt:E) (t:Af) (it:I) (c:E)|compT (elt:E) (ts:Ac Af) (it:I) (c:E)|tupI (it:I)|dnew
 |fld (o:E) (f:Ag)|mkx (c:Af) (as:Es)
 |ofl (o:E) (f:Ag)|iso (a:E) (k:Af)|meth (m:Ag) (ms:Ac (Af×Af)) (o:E)|mkob (c:Af) (e:E)|mkn (c:Af) (as:Es)
inductive Es where
 |nil|cons (e:E) (es:Es)
inductive I where
 |e (a:E)|rng (a:E)|rng2 (a b:E)|zip (a b:E)|zip3 (a b c:E)|enm (a:E)
end
abbrev Sl:=Ao (D×Am)
abbrev Rho:=Ac Sl
structure Gam where
 F:Af->Ac D->R D
 G:Af->D
 up:Af->Ac Af
 /-- the defs whose answer is a new list -/
 fr:Af->Am
 /-- what is raised: the class,what it is made of -/
 xn:Af->Ac D->R Ex
noncomputable def EW(lo:Ah)(n:Af):Ac D:=(Ba n).map fun(k:Af)=>D.int (lo+(k:Ah))
noncomputable def Ee(lo hi:Ah):R (Ac D):=if (-(4611686018427387904:Ah)<=lo/\lo<4611686018427387904)/\(-(4611686018427387904:Ah)<=hi/\hi<4611686018427387904)/\hi-lo<1000000 then .ok (EW lo (hi-lo).toNat) else .bad
noncomputable def kiD(up:Af->Ac Af):Ki->D->Am
 |.int,.int _=>Ab
 |.int,.bl _=>Ab
 |.bool,.bl _=>Ab
 |.str,.str _=>Ab
 |.list,.lst _=>Ab
 |.tuple,.tup _=>Ab
 |.cls c,.obj k _=>(up k).contains c
 |.cls c,.exc k _=>(up k).contains c
 |.verr,.exc _ _=>Ab
 |_,_=>Ad
noncomputable def Eb:Ki->Am
 |.cls _=>Ab
 |.verr=>Ab
 |_=>Ad
noncomputable def EA(up:Af->Ac Af)(ks:Ac Ki)(x:D):R D:=match x with
  |.obj _ _=>.bad
  |.exc _ _=>if ks.all Eb=Ab then .ok (.bl (ks.any λk=>kiD up k x)) else .bad
  |.dic _=>.bad
  |_=>if ks.any Eb=Ab then .bad else .ok (.bl (ks.any λk=>kiD up k x))
noncomputable def Ez:D->R Am
 |.non=>.ok Ad
 |.bl b=>.ok b
 |.int i=>.ok (i != 0)
 |_=>.bad
noncomputable def Hu:Ac D->R Am
 |[]=>.ok Ab
 |x::r=>(Ez x).bind λb=>(Hu r).bind λc=>.ok (b&&c)
noncomputable def Gr:Ac D->R Am
 |[]=>.ok Ad
 |x::r=>(Ez x).bind λb=>(Gr r).bind λc=>.ok (b||c)
noncomputable def LU:Ah->Ac D->R Ah
 |a,[]=>.ok a
 |a,.int i::r=>LU (a+i) r
 |_,_=>.bad
noncomputable def Qb:Ac D->Ac D->Ac D
 |x::xs,y::ys=>.tup [x,y]::Qb xs ys
 |_,_=>[]
noncomputable def Ug:Ac D->Ac D->Ac D->Ac D
 |x::xs,y::ys,z::zs=>.tup [x,y,z]::Ug xs ys zs
 |_,_,_=>[]
noncomputable def Uf(x y z:D):R (Ac D):=(Ey x).bind λxs=>(Ey y).bind λys=>(Ey z).bind λzs=>if 0<xs.length/\xs.length<=1000/\ys.length=xs.length/\zs.length=xs.length then .ok (Ug xs ys zs) else .bad
noncomputable def CM:Ah->Ac D->Ac D
 |_,[]=>[]
 |i,x::xs=>.tup [.int i,x]::CM (i+1) xs
noncomputable def nlD:Af->D->Am
 |_,.non=>Ab
 |_,.bl _=>Ab
 |_,.int _=>Ab
 |_,.str _=>Ab
 |n+1,.tup xs=>xs.all (nlD n)
 |_,_=>Ad
noncomputable def FT(fr:Am):D->Am
 |.lst ds=>fr&&ds.all (nlD 5)
 |d=>nlD 5 d
noncomputable def IM:Ac D->Ao (Ac Ah)
 |[]=>Aa []
 |.int i::r=>(IM r).map (i :: ·)
 |_=>Ae
noncomputable def Ic(i:Ah):Ac Ah->Ah
 |[]=>i
 |j::r=>Ic (if j<i then j else i) r
noncomputable def pk2(k n:Af):Ac Af:=(Ba ((n-min k n+1)/2)).map λj=>min k n+2*j
noncomputable def Vb(k:Af)(xs:Ac D):Ac D:=(pk2 k xs.length).filterMap λi=>xs[i]?
noncomputable def ddS(acc:Ac Ah)(x:Ah):Ac Ah:=if acc.any (· == x)=Ab then acc else acc++[x]
noncomputable def ddN(is:Ac Ah):Af:=(is.foldl ddS []).length
noncomputable def Uj(xs:Ac D):R D:=match IM xs with
  |some is=>if Dl is.length 4000=Ab then .ok (.int (ddN is)) else .bad
  |none=>.bad
noncomputable def mmD(mx:Am)(x y:D):R D:=if [x,y].all (λd=>rkD 1 d && !eqD d (.tup []))=Ab then .ok (if (if mx=Ab then ltD 1 x y else ltD 1 y x)=Ab then y else x) else .bad
noncomputable def U_7(x y:D):R D:=if [x,y].all (λd=>rkD 1 d && !eqD d (.tup []))=Ab then .ok (.bl (ltD 1 x y)) else .bad
noncomputable def YG(k:Ac Ah):Ah:=reduceHash (Builtin.Tuple.tupleHashOf (k.map hashInt))
noncomputable def UG:Ac D->Ao (Ac (Ac Ah))
 |[]=>Aa []
 |.tup xs::r=>(IM xs).bind λk=>(UG r).map (k :: ·)
 |_=>Ae
noncomputable def Vr:Ac Ah->Am
 |[]=>Ab
 |h::r=>!r.contains h&&Vr r
noncomputable def rT(xs:Ac D):R D:=match UG xs with
  |some ks=>if (Dl ks.length 3&&Vr (ks.map YG))=Ab then .ok (.int ks.length) else .bad
  |none=>.bad
noncomputable def KI:Ac D->Ao (Ac Ag)
 |[]=>Aa []
 |.str x::r=>(KI r).map (x :: ·)
 |_=>Ae
noncomputable def O3(s:Ag)(xs:Ac D):R D:=match KI xs with
  |some ss=>if Jf s ss=Ab then .ok (.str (Eu s ss)) else .bad
  |none=>.bad
noncomputable def LV(i:Ah):Am:=decide (i.natAbs<1000)
noncomputable def Hz(x y:Ag):Am:=Dl x.length 1000000&&Dl (Wz x (Ed x y 0 x.length (x.length+1)) y.length).length 1000000
noncomputable def DK(x:Ag)(l h:Ao Ah):Ag:=if ((EN l h 1 x.length).length==x.length)=Ab then x else ⟨((EN l h 1 x.length).filterMap (x.cps[·]?)).toArray⟩
noncomputable def LL(xs:Ac D)(x:D):R D:=if (flD 5 x&&xs.all (flD 5))=Ab then (match xs.findIdx? λy=>eqD y x with
  |some j=>.ok (.int (j:Af))
  | none=>.bad) else .bad
noncomputable def biD:BI->Ac D->R D
  |.len,[.lst xs]=>.ok (.int xs.length)
  |.len,[.tup xs]=>.ok (.int xs.length)
  |.len,[.str x]=>if Cd x.length=Ab then .ok (.int x.length) else .bad
  |.abs,[.int i]=>.ok (.int (if i<0 then -i else i))
  |.max,[.int i,.int j]=>.ok (.int (if i<j then j else i))
  |.min,[.int i,.int j]=>.ok (.int (if j<i then j else i))
  |.min,[.lst xs]=>match IM xs with
    |some (i::is)=>.ok (.int (Ic i is))
    |_=>.bad
  |.int,[.int i]=>.ok (.int i)
  |.int,[.bl b]=>.ok (.int (b2i b))
  |.list,[.lst xs]=>.ok (.lst xs)
  |.list,[.tup xs]=>.ok (.lst xs)
  |.tuple,[.lst xs]=>.ok (.tup xs)
  |.tuple,[.tup xs]=>.ok (.tup xs)
  |.all,[.lst xs]=>(Hu xs).bind λb=>.ok (.bl b)
  |.any,[.lst xs]=>(Gr xs).bind λb=>.ok (.bl b)
  |.any,[.tup xs]=>(Gr xs).bind λb=>.ok (.bl b)
  |.sum,[.lst xs]=>(LU 0 xs).bind λi=>.ok (.int i)
  |.sum,[.tup xs]=>(LU 0 xs).bind λi=>.ok (.int i)
  |.sorted,[.lst xs]=>(RZ xs).bind λys=>.ok (.lst ys)
  |.index,[.lst xs,x]=>LL xs x
  |.count,[.lst xs,x]=>if (flD 5 x&&xs.all (flD 5))=Ab then .ok (.int ((xs.filter λy=>eqD y x).length:Af)) else .bad
  |.len,[.dic kvs]=>.ok (.int kvs.length)
  |.stp,[.lst xs,.int k]=>.ok (.lst (Vb k.toNat xs))
  |.lset,[.lst xs]=>Uj xs
  |.lset,[.tup xs]=>rT xs
  |.sjoin,[.str s,.lst xs]=>O3 s xs
  |.str,[.int i]=>if LV i=Ab then .ok (.str (Ai (toString i))) else .bad
  |.ssplit,[.str x,.str y]=>if (!(y.length==0)&&Hz x y)=Ab then .ok (.lst ((Em x y).map D.str)) else .bad
  |.tmin,[x,y]=>mmD Ad x y
  |.tmax,[x,y]=>mmD Ab x y
  |.tlt,[x,y]=>U_7 x y
  |.rvs,[.lst xs]=>.ok (.lst xs.reverse)
  |_,_=>.bad
noncomputable def slE(c:E)(d:D):R (Ao Ah):=match c with
  |.non=>.ok Ae
  |_=>(Fv d).bind λi=>.ok (Aa i)
noncomputable def IP(n d:Af):Ao Ah->Af
 |none=>d
 |some i=>if i<0 then (i+n).toNat else min i.toNat n
noncomputable def EL(xs:Ac D)(lo hi:Ao Ah):Ac D:=(xs.drop (IP xs.length 0 lo)).take (IP xs.length xs.length hi-IP xs.length 0 lo)
noncomputable def slD:D->Ao Ah->Ao Ah->R D
 |.lst xs,l,h=>.ok (.lst (EL xs l h))
 |.tup xs,l,h=>if (IP xs.length 0 l==0&&IP xs.length xs.length h==xs.length)=Ab then .bad else .ok (.tup (EL xs l h))
 |.str x,l,h=>if (Cd x.length&&Cd (DK x l h).length)=Ab then .ok (.str (DK x l h)) else .bad
 |_,_,_=>.bad
noncomputable def oup:Af->Ac Af
 |0=>[0]
 |1=>[1,0]
 |2=>[2,0]
 |_=>[]
noncomputable def ofD:D->Ag->R D
  |.obj _ fs,f=>match fs.lookup f with
    |some d=>.ok d
    |none=>.bad
  |_,_=>.bad
noncomputable def Qn(k:Af):D->R D
 |.obj c _=>.ok (.bl ((oup c).contains k))
 |_=>.bad
noncomputable def LQ(F:Af->Ac D->R D)(m:Ag)(ms:Ac (Af×Af)):D->R D
  |.obj c fs=>match ms.lookup c with
    |some id=>if (fs.lookup m).isNone=Ab then F id [.obj c fs] else .bad
    |none=>.bad
  |_=>.bad
noncomputable def EJ(c:Af):D->R D
 |.tup [a,b]=>if nlD 5 b=Ab then .ok (.obj c [("p",a),("triple",b)]) else .bad
 |_=>.bad
noncomputable def KY:D->Ag->R D
  |.exc _ fs,f=>match fs.lookup f with
    |some d=>.ok d
    |none=>.bad
  |_,_=>.bad
noncomputable def FR(U:Rho)(i:Af):R D:=match U[i]? with
  |some (Aa (d,Ad))=>.ok d
  |_=>.bad
noncomputable def Yy:D->R D
 |.lst xs=>.ok (.lst xs)
 |_=>.bad
noncomputable def DV(U:Rho)(i:Af):R D:=match U[i]? with
  |some (Aa (d,Ad))=>.ok d
  |some (Aa (d,Ab))=>Yy d
  |_=>.bad
noncomputable def shE(U:Rho):E->Am
  | .var i=>(match U[i]? with
    |some (Aa (_,Ab))=>Ad
    | _=>Ab)
  |_=>Ab
noncomputable def HA(U:Rho):Es->Am
 |.nil=>Ab
 |.cons e es=>shE U e&&HA U es
noncomputable def EI:Ac Af->Ac D->Rho->Ao Rho
 |[],[],U=>Aa U
 |t::ts,d::ds,U=>EI ts ds (U.set t (Aa (d,Ad)))
 |_,_,_=>Ae
noncomputable def ES(ts:Ac Af)(d:D)(U:Rho):R Rho:=match d with
  | .tup xs=>(match EI ts xs U with
    |some U'=>.ok U'
    | none=>.bad)
  |_=>.bad
noncomputable def Nj(ts:Ac Af)(d:D)(U:Rho):R Rho:=match d with
  | .lst xs=>(match EI ts xs U with
    |some U'=>.ok U'
    | none=>.bad)
  |d=>ES ts d U
noncomputable def Bv(g:D->R Am)(f:D->R D):Ac D->R (Ac D)
 |[]=>.ok []
 |x::xs=>(g x).bind λb=>if b=Ab then (f x).bind λy=>(Bv g f xs).bind λys=>.ok (y::ys) else Bv g f xs
noncomputable def noX{α:Type}:R α->R α
 |.ok a=>.ok a
 |_=>.bad
noncomputable def top(U:Rho)(e:E)(r:R D):R D:=match e with
  |.var i=>DV U i
  |_=>r
mutual
noncomputable def evE(Z:Gam)(U:Rho):E->R D
 |.non=>.ok .non
 |.bl b=>.ok (.bl b)
 |.int i=>.ok (.int i)
 |.str x=>.ok (.str x)
 |.var i=>FR U i
 |.glob g=>.ok (Z.G g)
 |.bin op a b=>(top U a (evE Z U a)).bind λx=>(top U b (evE Z U b)).bind λy=>CF op x y
 |.un op a=>(top U a (evE Z U a)).bind λx=>unD op x
 |.no a=>(top U a (evE Z U a)).bind λx=>(DA x).bind λb=>.ok (.bl (!b))
 |.and es=>evN Z U es
 |.or es=>evO Z U es
 |.cmp op a b=>(top U a (evE Z U a)).bind λx=>(top U b (evE Z U b)).bind λy=>Bp op x y
 |.cmp2 op op' a b c=>(top U a (evE Z U a)).bind λx=>(top U b (evE Z U b)).bind λy=>(Bp op x y).bind λz=>(DA z).bind λk=>if k=Ab then (top U c (evE Z U c)).bind λu=>Bp op' y u else .ok (.bl Ad)
 |.ite c a b=>(top U c (evE Z U c)).bind λx=>(BY x).bind λk=>if k=Ab then evE Z U a else evE Z U b
 |.call f as=>(evB Z U as).bind λxs=>(Z.F f xs).bind λd=>if HA U as=Ab then .ok d else if FT (Z.fr f) d=Ab then .ok d else .bad
 |.bi b as=>(evB Z U as).bind λxs=>biD b xs
 |.isi a ks=>(top U a (evE Z U a)).bind λx=>EA Z.up ks x
 |.idx a i=>(top U a (evE Z U a)).bind λx=>(top U i (evE Z U i)).bind λy=>FS x y
 |.sl a lo hi=>(top U a (evE Z U a)).bind λx=>(top U lo (evE Z U lo)).bind λl=>(slE lo l).bind λl'=>(top U hi (evE Z U hi)).bind λh=>(slE hi h).bind λh'=>slD x l' h'
 |.tup es=>(evA Z U es).bind λxs=>.ok (.tup xs)
 |.lst es=>(evA Z U es).bind λxs=>.ok (.lst xs)
 |.comp elt t it c=>(evI Z U it).bind λxs=>(noX (Bv (λx=>(top (U.set t (Aa (x,Ad))) c (evE Z (U.set t (Aa (x,Ad))) c)).bind BY) (λx=>evE Z (U.set t (Aa (x,Ad))) elt) xs)).bind λys=>.ok (.lst ys)
 |.compT elt ts it c=>(evI Z U it).bind λxs=>(noX (Bv (λx=>(ES ts x U).bind λU'=>(top U' c (evE Z U' c)).bind BY) (λx=>(ES ts x U).bind λU'=>evE Z U' elt) xs)).bind λys=>.ok (.lst ys)
 |.tupI it=>(evI Z U it).bind λxs=>.ok (.tup xs)
 |.dnew=>.ok (.dic [])
 |.fld o f=>(top U o (evE Z U o)).bind λx=>KY x f
 |.mkx c as=>(noX (evA Z U as)).bind λxs=>(Z.xn c xs).bind λx=>.ok (.exc x.c x.fs)
 |.ofl o f=>(top U o (evE Z U o)).bind λx=>ofD x f
 |.iso a k=>(top U a (evE Z U a)).bind λx=>Qn k x
 |.meth m ms o=>(top U o (evE Z U o)).bind λx=>LQ Z.F m ms x
 |.mkob c e=>(noX (evE Z U e)).bind λx=>EJ c x
 |.mkn c as=>(noX (evA Z U as)).bind λxs=>Z.F (900+c) xs
noncomputable def evN(Z:Gam)(U:Rho):Es->R D
 |.nil=>.bad
 |.cons e .nil=>evE Z U e
 |.cons e (.cons e' es)=>(evE Z U e).bind λx=>(DA x).bind λc=>if c=Ab then evN Z U (.cons e' es) else .ok (.bl Ad)
noncomputable def evO(Z:Gam)(U:Rho):Es->R D
 |.nil=>.bad
 |.cons e .nil=>evE Z U e
 |.cons e (.cons e' es)=>(evE Z U e).bind λx=>(DA x).bind λc=>if c=Ab then .ok (.bl Ab) else evO Z U (.cons e' es)
noncomputable def evA(Z:Gam)(U:Rho):Es->R (Ac D)
 |.nil=>.ok []
 |.cons e es=>(evE Z U e).bind λx=>(evA Z U es).bind λxs=>.ok (x::xs)
noncomputable def evB(Z:Gam)(U:Rho):Es->R (Ac D)
 |.nil=>.ok []
 |.cons e es=>(top U e (evE Z U e)).bind λx=>(evB Z U es).bind λxs=>.ok (x::xs)
noncomputable def evI(Z:Gam)(U:Rho):I->R (Ac D)
 |.e a=>(evE Z U a).bind Ey
 |.rng a=>(top U a (evE Z U a)).bind λx=>(Fv x).bind λj=>Ee 0 j
 |.rng2 a b=>(top U a (evE Z U a)).bind λx=>(top U b (evE Z U b)).bind λy=>(Fv x).bind λi=>(Fv y).bind λj=>Ee i j
 |.zip a b=>(evE Z U a).bind λx=>(evE Z U b).bind λy=>(Ey x).bind λxs=>(Ey y).bind λys=>.ok (Qb xs ys)
 |.zip3 a b c=>(evE Z U a).bind λx=>(evE Z U b).bind λy=>(evE Z U c).bind λz=>Uf x y z
 |.enm a=>(evE Z U a).bind λx=>(Ey x).bind λxs=>.ok (CM 0 xs)
end
noncomputable def Dq(Z:Gam):E->Am
 |.lst _=>Ab
 |.comp _ _ _ _=>Ab
 |.compT _ _ _ _=>Ab
 |.dnew=>Ab
 |.bin .Add _ _=>Ab
 |.bi .list _=>Ab
 |.bi .sorted _=>Ab
 |.sl _ _ _=>Ab
 |.call f _=>Z.fr f
 |_=>Ad
mutual
inductive S where
 |pass
 /-- x=e;fresh: x alone holds the new list -/
 |asg (i:Af) (fresh:Am) (e:E)
 /-- a,b,..=e -/
 |asgT (ts:Ac Af) (e:E)
 |expr (e:E)
 |ret (e:E)|retN
 /-- return [f(..) for .. in ..]: what f raises flies out -/
 |retc (ts:Ac Af) (it:I) (f:Af) (as:Es)
 |ife (c:E) (a b:Ss)
 |fors (t:Af) (it:I) (body:Ss)
 |forT (ts:Ac Af) (it:I) (body:Ss)
 /-- for t,u in enumerate(x): x is held alone -/
 |forO (i:Af) (ts:Ac Af) (body:Ss)
 |whl (c:E) (body:Ss)
 /-- raise C(e,..) -/
 |rais (c:Af) (as:Es)
 /-- try: body except C as x: h -/
 |tryx (body:Ss) (c:Af) (x:Af) (h:Ss)
 /-- .. except C as x: h,except C' as x: h',else: els -/
 |try2 (body:Ss) (c:Af) (x:Af) (h:Ss) (c':Af) (h' els:Ss)
 /-- x.append(e),x.extend(e),x.insert(k,e),x.reverse(),x.clear() -/
 |app (i:Af) (e:E)|ext (i:Af) (e:E)|ins (i:Af) (k e:E)|rev (i:Af)|clr (i:Af)
 /-- d[k]=e,d.setdefault(k,e) -/
 |dput (i:Af) (k e:E)|dsd (i:Af) (k e:E)
 /-- x[k]=e -/
 |put (i:Af) (k e:E)
 /-- x[k],x[l]=x[l],x[k] -/
 |swp (i k l:Af)
 /-- x.append(y.pop(e)) -/
 |apop (j i:Af) (e:E)
 |brk|cont
 /-- nothing: from here on x is no longer changed -/
 |rel (i:Af)
inductive Ss where
 |nil|cons (s:S) (ss:Ss)
end
inductive O where
 |next (U:Rho)|ret (d:D) (fr:Am)|brk (U:Rho)|cont (U:Rho)|exn (x:Ex) (U:Rho)|bad
 deriving Inhabited
noncomputable def O.of{α:Type}(U:Rho)(r:R α)(f:α->O):O:=match r with
  |.ok a=>f a
  |.exn x=>.exn x U
  |.bad=>.bad
@[simp]theorem O.of_ok(U:Rho)(a:α)(f:α->O):O.of U (.ok a) f=f a:=rfl
@[simp]theorem O.of_exn(U:Rho)(x:Ex)(f:α->O):O.of U (.exn x:R α) f=.exn x U:=rfl
@[simp]theorem O.of_bad(U:Rho)(f:α->O):O.of U (.bad:R α) f=.bad:=rfl
noncomputable def G5(Z:Gam)(U:Rho)(i:I):R (Ac D):=evI Z U i
noncomputable def Ea(U:Rho)(i:Af):R (Ac D):=match U[i]? with
  |some (Aa (.lst xs,Ab))=>.ok xs
  |_=>.bad
noncomputable def UY(U:Rho)(i:Af):R (Ac (Ac Ah×D)):=match U[i]? with
  |some (Aa (.dic xs,Ab))=>.ok xs
  |_=>.bad
noncomputable def UW(d:D):R (Ac Ah):=match JD d with
  |some k=>.ok k
  |none=>.bad
noncomputable def PZ:Af:=4096
noncomputable def O.seq(o:O)(f:Rho->O):O:=match o with
  |.next U=>f U
  |.ret d b=>.ret d b
  |.brk U=>.brk U
  |.cont U=>.cont U
  |.exn x U=>.exn x U
  |.bad=>.bad
noncomputable def O.turn(o:O)(f:Rho->O):O:=match o with
  |.next U=>f U
  |.cont U=>f U
  |.brk U=>.next U
  |.ret d b=>.ret d b
  |.exn x U=>.exn x U
  |.bad=>.bad
noncomputable def Dk(body:D->Rho->O):Ac D->Rho->O
 |[],U=>.next U
 |x::xs,U=>(body x U).turn (Dk body xs)
noncomputable def JE(c:Rho->R Am)(body:Rho->O):Af->Rho->O
 |0,_=>.bad
 |n+1,U=>O.of U (c U) λb=>if b=Ab then (body U).turn (JE c body n) else .next U
noncomputable def UI(U:Rho)(k:Af):R Ah:=(FR U k).bind Fv
noncomputable def tW(U:Rho)(d:D)(i k l:Af):O:=match d with
  |.tup [x,y]=>O.of U (Ea U i) λxs=>O.of U (UI U k) λa=>O.of U (UI U l) λb=>match plD xs.length a,plD xs.length b with
    |some m,Aa n=>.next (U.set i (Aa (.lst ((xs.set m x).set n y),Ab)))
    |_,_=>.bad
  |_=>.bad
noncomputable def apD(U:Rho)(j i:Af)(ys xs:Ac D)(n:Ah):O:=match plD xs.length n with
  | some m=>(match xs[m]? with
    |some d=>if (j != i&&(Cd xs.length&&Cd (ys.length+1)))=Ab then .next ((U.set i (Aa (.lst (xs.eraseIdx m),Ab))).set j (Aa (.lst (ys++[d]),Ab))) else .bad
    | none=>.bad)
  |none=>.bad
noncomputable def hdO(i:Af)(y:Ex)(U':Rho)(fh:Rho->O):O:=match fh (U'.set i (Aa (.exc y.c y.fs,Ad))) with
  |.next U''=>.next (U''.set i Ae)
  |.ret d f=>.ret d f
  |_=>.bad
noncomputable def Np(U:Rho)(i:Af):D->O
 |.lst xs=>.next (U.set i (Aa (.lst xs,Ad)))
 |_=>.bad
noncomputable def GK(U:Rho)(i:Af):Am:=match U[i]? with
  |some (Aa (.non,Ab))=>Ab
  |_=>Ad
noncomputable def J4(i:Af)(xs:Ac D):O->O
 |.next U=>if GK U i=Ab then .next (U.set i (Aa (.lst xs,Ab))) else .bad
 |.ret d fr=>.ret d fr
 |_=>.bad
mutual
noncomputable def evS(Z:Gam)(U:Rho):S->O
  |.pass=>.next U
  | .asg i fresh e=>O.of U (evE Z U e) λd=>if fresh=Ab then (if Dq Z e=Ab then (match d with
      |.lst xs=>.next (U.set i (Aa (.lst xs,Ab)))
      |.dic xs=>.next (U.set i (Aa (.dic xs,Ab)))
      | _=>.bad) else .bad) else .next (U.set i (Aa (d,Ad)))
  |.asgT ts e=>O.of U (evE Z U e) λd=>O.of U (Nj ts d U) λU'=>.next U'
  |.expr e=>O.of U (evE Z U e) λ_=>.next U
  |.ret e=>O.of U (top U e (evE Z U e)) λd=>.ret d (Dq Z e||(match e with | .var i=>(match U[i]? with|some (Aa (_,o))=>o|_=>Ad)|_=>Ad))
  |.retN=>.ret .non Ad
  |.retc ts it f as=>O.of U ((G5 Z U it).bind λxs=>(Bv (λx=>(ES ts x U).bind λ_=>.ok Ab) (λx=>(ES ts x U).bind λU'=>evE Z U' (.call f as)) xs).bind λys=>.ok (.lst ys)) λd=>.ret d Ab
  |.ife c a b=>O.of U ((top U c (evE Z U c)).bind BY) λk=>if k=Ab then evSs Z U a else evSs Z U b
  |.fors t it body=>O.of U (G5 Z U it) λxs=>Dk (λx U'=>evSs Z (U'.set t (Aa (x,Ad))) body) xs U
  |.forT ts it body=>O.of U (G5 Z U it) λxs=>Dk (λx U'=>O.of U' (ES ts x U') λU''=>evSs Z U'' body) xs U
  |.forO i ts body=>O.of U (Ea U i) λxs=>J4 i xs (Dk (λx U'=>if GK U' i=Ab then O.of U' (ES ts x U') λU''=>evSs Z U'' body else .bad) (CM 0 xs) (U.set i (Aa (.non,Ab))))
  |.whl c body=>JE (λU'=>(top U' c (evE Z U' c)).bind BY) (λU'=>evSs Z U' body) PZ U
  |.rais c as=>O.of U (noX (evA Z U as)) λxs=>O.of U (Z.xn c xs) λx=>.exn x U
  |.tryx body c x h=>match evSs Z U body with
      | .exn y U'=>if (Z.up y.c).contains c=Ab then (match evSs Z (U'.set x (Aa (.exc y.c y.fs,Ad))) h with
          |.next U''=>.next (U''.set x Ae)
          |.ret d f=>.ret d f
          | _=>.bad) else .bad
      |o=>o
  |.try2 body c x h c' h' els=>match evSs Z U body with
      |.exn y U'=>if (Z.up y.c).contains c=Ab then hdO x y U' (λr=>evSs Z r h) else if (Z.up y.c).contains c'=Ab then hdO x y U' (λr=>evSs Z r h') else .bad
      |.next U'=>evSs Z U' els
      |o=>o
  |.app i e=>O.of U (Ea U i) λxs=>O.of U (evE Z U e) λd=>if Cd (xs.length+1)=Ab then .next (U.set i (Aa (.lst (xs++[d]),Ab))) else .bad
  |.ext i e=>O.of U (Ea U i) λxs=>O.of U (evE Z U e) λd=>O.of U (PU d) λys=>if Cd (xs.length+ys.length)=Ab then .next (U.set i (Aa (.lst (xs++ys),Ab))) else .bad
  |.ins i k e=>O.of U (Ea U i) λxs=>O.of U ((top U k (evE Z U k)).bind Fv) λj=>O.of U (evE Z U e) λd=>if (Cd (xs.length+1)&&decide (0<=j)&&decide (j<=xs.length))=Ab then .next (U.set i (Aa (.lst (xs.take j.toNat++d::xs.drop j.toNat),Ab))) else .bad
  |.rev i=>O.of U (Ea U i) λxs=>.next (U.set i (Aa (.lst xs.reverse,Ab)))
  |.clr i=>O.of U (Ea U i) λ_=>.next (U.set i (Aa (.lst [],Ab)))
  |.dput i k e=>O.of U (evE Z U e) λd=>O.of U (UY U i) λxs=>O.of U ((evE Z U k).bind UW) λj=>if Cd (xs.length+1)=Ab then .next (U.set i (Aa (.dic (Tf xs j d),Ab))) else .bad
  |.dsd i k e=>O.of U (UY U i) λxs=>O.of U ((evE Z U k).bind UW) λj=>O.of U (evE Z U e) λd=>if Cd (xs.length+1)=Ab then .next (U.set i (Aa (.dic (if (xs.any λp=>p.1==j)=Ab then xs else Tf xs j d),Ab))) else .bad
  |.put i k e=>O.of U (evE Z U e) λd=>O.of U (Ea U i) λxs=>O.of U ((top U k (evE Z U k)).bind Fv) λj=>match plD xs.length j with
      |some n=>.next (U.set i (Aa (.lst (xs.set n d),Ab)))
      |none=>.bad
  |.swp i k l=>O.of U (evE Z U (.tup (.cons (.idx (.var i) (.var l)) (.cons (.idx (.var i) (.var k)) .nil)))) λd=>tW U d i k l
  |.apop j i e=>O.of U (Ea U j) λys=>O.of U (Ea U i) λxs=>O.of U (evE Z U e) λd=>O.of U (Fv d) λn=>apD U j i ys xs n
  |.brk=>.brk U
  |.cont=>.cont U
  |.rel i=>match U[i]? with
      |some (Aa (d,Ab))=>Np U i d
      |_=>.next U
noncomputable def evSs(Z:Gam)(U:Rho):Ss->O
 |.nil=>.next U
 |.cons s ss=>(evS Z U s).seq λU'=>evSs Z U' ss
end
structure Df where
 n:Af
 fr:Am
 body:Ss
noncomputable def Bz(n:Af)(ds:Ac D):Rho:=ds.map (λd=>Aa (d,Ad))++GA (n-ds.length) Ae
noncomputable def isL:D->Am
 |.lst _=>Ab
 |.dic _=>Ab
 |_=>Ad
noncomputable def O.ans(fr:Am)(o:O):R D:=match o with
  |.ret d b=>if (fr&&(!b&&isL d))=Ab then .bad else .ok d
  |.next _=>if fr=Ab then .bad else .ok .non
  |.exn x _=>.exn x
  |_=>.bad
noncomputable def Df.run(Z:Gam)(f:Df)(ds:Ac D):R D:=(evSs Z (Bz f.n ds) f.body).ans f.fr
structure Prg where
 xs:Am
 defs:Af->Df
 G:Af->D
 up:Af->Ac Af
 xn:Af->Ac D->R Ex
noncomputable def Fi(xs:Am)(r:R D):R D:=match xs with
  |true=>r
  |false=>noX r
noncomputable def gam(P:Prg):Af->Gam
 |0=>⟨λ_ _=>.bad,P.G,P.up,λi=>(P.defs i).fr,P.xn⟩
 |n+1=>⟨λi ds=>Fi P.xs ((P.defs i).run (gam P n) ds),P.G,P.up,λi=>(P.defs i).fr,P.xn⟩
end Ov
end
section
namespace Ov
open PySem
variable{α:Type}{lo hi:Ah}
section
variable(Z:Gam)(U:Rho)
@[simp]theorem ZxG:evE Z U .non=.ok .non:=rfl
@[simp]theorem ZzD(b):evE Z U (.bl b)=.ok (.bl b):=rfl
@[simp]theorem ZxN(b):evE Z U (.int b)=.ok (.int b):=rfl
@[simp]theorem S0(b):evE Z U (.str b)=.ok (.str b):=rfl
@[simp]theorem ZxD(i):evE Z U (.var i)=FR U i:=rfl
@[simp]theorem Zt0(i):evE Z U (.glob i)=.ok (Z.G i):=rfl
@[simp]theorem ZxQ(op a b):evE Z U (.bin op a b)=(top U a (evE Z U a)).bind λx=>(top U b (evE Z U b)).bind λy=>CF op x y:=rfl
@[simp]theorem Zzz(op a):evE Z U (.un op a)=(top U a (evE Z U a)).bind λx=>unD op x:=rfl
@[simp]theorem ZzC(a):evE Z U (.no a)=(top U a (evE Z U a)).bind λx=>(DA x).bind λb=>.ok (.bl (!b)):=rfl
@[simp]theorem ZxR(es):evE Z U (.and es)=evN Z U es:=rfl
@[simp]theorem ZzB(es):evE Z U (.or es)=evO Z U es:=rfl
@[simp]theorem Zxz(e):evN Z U (.cons e .nil)=evE Z U e:=rfl
@[simp]theorem ZtR(e e' es):evN Z U (.cons e (.cons e' es))=(evE Z U e).bind λx=>(DA x).bind λc=>if c=Ab then evN Z U (.cons e' es) else .ok (.bl Ad):=rfl
@[simp]theorem Zxy(e):evO Z U (.cons e .nil)=evE Z U e:=rfl
@[simp]theorem ZtQ(e e' es):evO Z U (.cons e (.cons e' es))=(evE Z U e).bind λx=>(DA x).bind λc=>if c=Ab then .ok (.bl Ab) else evO Z U (.cons e' es):=rfl
@[simp]theorem jB(op a b):evE Z U (.cmp op a b)=(top U a (evE Z U a)).bind λx=>(top U b (evE Z U b)).bind λy=>Bp op x y:=rfl
@[simp]theorem Zt3(op op' a b c):evE Z U (.cmp2 op op' a b c)=(top U a (evE Z U a)).bind λx=>(top U b (evE Z U b)).bind λy=>(Bp op x y).bind λz=>(DA z).bind λk=>if k=Ab then (top U c (evE Z U c)).bind λu=>Bp op' y u else .ok (.bl Ad):=rfl
@[simp]theorem ZxK(c a b):evE Z U (.ite c a b)=(top U c (evE Z U c)).bind λx=>(BY x).bind λk=>if k=Ab then evE Z U a else evE Z U b:=rfl
@[simp]theorem Zt4(f as):evE Z U (.call f as)=(evB Z U as).bind λxs=>(Z.F f xs).bind λd=>if HA U as=Ab then .ok d else if FT (Z.fr f) d=Ab then .ok d else .bad:=rfl
@[simp]theorem MP(f as):evE Z U (.bi f as)=(evB Z U as).bind λxs=>biD f xs:=rfl
@[simp]theorem ZxM(a ks):evE Z U (.isi a ks)=(top U a (evE Z U a)).bind λx=>EA Z.up ks x:=rfl
@[simp]theorem ZxO(a i):evE Z U (.idx a i)=(top U a (evE Z U a)).bind λx=>(top U i (evE Z U i)).bind λy=>FS x y:=rfl
@[simp]theorem ZzA(a lo hi):evE Z U (.sl a lo hi)=(top U a (evE Z U a)).bind λx=>(top U lo (evE Z U lo)).bind λl=>(slE lo l).bind λl'=>(top U hi (evE Z U hi)).bind λh=>(slE hi h).bind λh'=>slD x l' h':=rfl
@[simp]theorem ZxE(es):evE Z U (.tup es)=(evA Z U es).bind λxs=>.ok (.tup xs):=rfl
@[simp]theorem ZxJ(es):evE Z U (.lst es)=(evA Z U es).bind λxs=>.ok (.lst xs):=rfl
noncomputable def cG(Z:Gam)(U:Rho)(t:Af)(c:E):D->R Am:=λx=>(top (U.set t (Aa (x,Ad))) c (evE Z (U.set t (Aa (x,Ad))) c)).bind BY
noncomputable def cF(Z:Gam)(U:Rho)(t:Af)(elt:E):D->R D:=λx=>evE Z (U.set t (Aa (x,Ad))) elt
noncomputable def mkL(r:R (Ac D)):R D:=(noX r).bind λys=>.ok (.lst ys)
@[simp]theorem Zy6(ys):mkL (.ok ys)=.ok (.lst ys):=rfl
@[simp]theorem Zt2(elt t it c):evE Z U (.comp elt t it c)=(evI Z U it).bind λxs=>mkL (Bv (cG Z U t c) (cF Z U t elt) xs):=rfl
noncomputable def cGT(Z:Gam)(U:Rho)(ts:Ac Af)(c:E):D->R Am:=λx=>(ES ts x U).bind λU'=>(top U' c (evE Z U' c)).bind BY
noncomputable def cFT(Z:Gam)(U:Rho)(ts:Ac Af)(elt:E):D->R D:=λx=>(ES ts x U).bind λU'=>evE Z U' elt
@[simp]theorem ZrO(elt ts it c):evE Z U (.compT elt ts it c)=(evI Z U it).bind λxs=>mkL (Bv (cGT Z U ts c) (cFT Z U ts elt) xs):=rfl
@[simp]theorem ZtX(it):evE Z U (.tupI it)=(evI Z U it).bind λxs=>.ok (.tup xs):=rfl
@[simp]theorem Zt1:evE Z U .dnew=.ok (.dic []):=rfl
@[simp]theorem ZxF(o f):evE Z U (.ofl o f)=(top U o (evE Z U o)).bind λx=>ofD x f:=rfl
@[simp]theorem ZxL(a k):evE Z U (.iso a k)=(top U a (evE Z U a)).bind λx=>Qn k x:=rfl
@[simp]theorem ZtZ(m ms o):evE Z U (.meth m ms o)=(top U o (evE Z U o)).bind λx=>LQ Z.F m ms x:=rfl
@[simp]theorem ZtY(c e):evE Z U (.mkob c e)=(noX (evE Z U e)).bind λx=>EJ c x:=rfl
@[simp]theorem ZxI(c as):evE Z U (.mkn c as)=(noX (evA Z U as)).bind λxs=>Z.F (900+c) xs:=rfl
@[simp]theorem ZxH(c as):evE Z U (.mkx c as)=(noX (evA Z U as)).bind λxs=>(Z.xn c xs).bind λx=>.ok (.exc x.c x.fs):=rfl
@[simp]theorem ZxP(o f):evE Z U (.fld o f)=(top U o (evE Z U o)).bind λx=>KY x f:=rfl
@[simp]theorem ZxT:evA Z U .nil=.ok []:=rfl
@[simp]theorem RI(e es):evA Z U (.cons e es)=(evE Z U e).bind λx=>(evA Z U es).bind λxs=>.ok (x::xs):=rfl
@[simp]theorem ZxS:evB Z U .nil=.ok []:=rfl
@[simp]theorem Oo(e es):evB Z U (.cons e es)=(top U e (evE Z U e)).bind λx=>(evB Z U es).bind λxs=>.ok (x::xs):=rfl
@[simp]theorem ZAw(a):evI Z U (.e a)=(evE Z U a).bind Ey:=rfl
@[simp]theorem ZxB(a):evI Z U (.rng a)=(top U a (evE Z U a)).bind λx=>(Fv x).bind λj=>Ee 0 j:=rfl
@[simp]theorem ZtW(a b):evI Z U (.rng2 a b)=(top U a (evE Z U a)).bind λx=>(top U b (evE Z U b)).bind λy=>(Fv x).bind λi=>(Fv y).bind λj=>Ee i j:=rfl
@[simp]theorem ZxA(a b):evI Z U (.zip a b)=(evE Z U a).bind λx=>(evE Z U b).bind λy=>(Ey x).bind λxs=>(Ey y).bind λys=>.ok (Qb xs ys):=rfl
@[simp]theorem ZtV(a b c):evI Z U (.zip3 a b c)=(evE Z U a).bind λx=>(evE Z U b).bind λy=>(evE Z U c).bind λz=>Uf x y z:=rfl
@[simp]theorem ZxC(a):evI Z U (.enm a)=(evE Z U a).bind λx=>(Ey x).bind λxs=>.ok (CM 0 xs):=rfl
@[simp]theorem ZtS(a b):G5 Z U (.zip a b)=evI Z U (.zip a b):=rfl
@[simp]theorem ZrM(a b c):G5 Z U (.zip3 a b c)=evI Z U (.zip3 a b c):=rfl
@[simp]theorem ZtU(a):G5 Z U (.enm a)=evI Z U (.enm a):=rfl
@[simp]theorem Zzy(a):G5 Z U (.e a)=(evE Z U a).bind Ey:=rfl
@[simp]theorem ZtT(a):G5 Z U (.rng a)=evI Z U (.rng a):=rfl
@[simp]theorem ZrN(a b):G5 Z U (.rng2 a b)=evI Z U (.rng2 a b):=rfl
variable(r:R D)
@[simp]theorem Sb(i):top U (.var i) r=DV U i:=rfl
@[simp]theorem ZuC:top U .non r=r:=rfl
@[simp]theorem Zyx(b):top U (.bl b) r=r:=rfl
@[simp]theorem ZuJ(b):top U (.int b) r=r:=rfl
@[simp]theorem Sc(b):top U (.str b) r=r:=rfl
@[simp]theorem Zs3(b):top U (.glob b) r=r:=rfl
@[simp]theorem ZuN(op a b):top U (.bin op a b) r=r:=rfl
@[simp]theorem Zyt(op a):top U (.un op a) r=r:=rfl
@[simp]theorem Zyw(a):top U (.no a) r=r:=rfl
@[simp]theorem ZuO(a):top U (.and a) r=r:=rfl
@[simp]theorem Zyv(a):top U (.or a) r=r:=rfl
@[simp]theorem ZuM(op a b):top U (.cmp op a b) r=r:=rfl
@[simp]theorem Zs6(op op' a b c):top U (.cmp2 op op' a b c) r=r:=rfl
@[simp]theorem ZuG(a b c):top U (.ite a b c) r=r:=rfl
@[simp]theorem Zs7(a b):top U (.call a b) r=r:=rfl
@[simp]theorem Zyy(a b):top U (.bi a b) r=r:=rfl
@[simp]theorem ZuI(a b):top U (.isi a b) r=r:=rfl
@[simp]theorem ZuK(a b):top U (.idx a b) r=r:=rfl
@[simp]theorem Zyu(a b c):top U (.sl a b c) r=r:=rfl
@[simp]theorem ZuA(a):top U (.tup a) r=r:=rfl
@[simp]theorem ZuF(a):top U (.lst a) r=r:=rfl
@[simp]theorem Zs5(a b c d):top U (.comp a b c d) r=r:=rfl
@[simp]theorem ZuB(a b):top U (.ofl a b) r=r:=rfl
@[simp]theorem ZuH(a b):top U (.iso a b) r=r:=rfl
@[simp]theorem Zs2(a b c):top U (.meth a b c) r=r:=rfl
@[simp]theorem Zs1(a b):top U (.mkob a b) r=r:=rfl
@[simp]theorem ZuE(a b):top U (.mkn a b) r=r:=rfl
@[simp]theorem ZuD(a b):top U (.mkx a b) r=r:=rfl
@[simp]theorem ZuL(a b):top U (.fld a b) r=r:=rfl
@[simp]theorem ZpA(a b c d):top U (.compT a b c d) r=r:=rfl
@[simp]theorem Zs0(a):top U (.tupI a) r=r:=rfl
@[simp]theorem Zs4:top U .dnew r=r:=rfl
end
@[simp]theorem Zpr(d:D)(U:Rho):DV (Aa (d,Ad)::U) 0=.ok d:=rfl
@[simp]theorem Zo1(xs:Ac D)(U:Rho):DV (Aa (.lst xs,Ab)::U) 0=.ok (.lst xs):=rfl
@[simp]theorem Zpt(x:D)(U:Rho):FR (Aa (x,Ad)::U) 0=.ok x:=rfl
@[simp]theorem Zo2(x:Sl)(U:Rho)(i:Af)[NeZero i]:DV (x::U) i=DV U (i-1):=by
 obtain⟨j,rfl⟩:∃ j,i=j+1:=⟨i-1,by have:=K6 i;omega⟩
 rfl
@[simp]theorem Zo3(x:Sl)(U:Rho)(i:Af)[NeZero i]:FR (x::U) i=FR U (i-1):=by
 obtain⟨j,rfl⟩:∃ j,i=j+1:=⟨i-1,by have:=K6 i;omega⟩
 rfl
noncomputable def shV(U:Rho)(i:Af):Am:=match U[i]? with
    |some (Aa (_,Ab))=>Ad
    |_=>Ab
@[simp]theorem Zta(x:D)(b:Am)(U:Rho):shV (Aa (x,b)::U) 0=!b:=by cases b<;>rfl
@[simp]theorem Zp1(U:Rho):shV (Ae::U) 0=Ab:=rfl
@[simp]theorem Zp2(x:Sl)(U:Rho)(i:Af)[NeZero i]:shV (x::U) i=shV U (i-1):=by
 obtain⟨j,rfl⟩:∃ j,i=j+1:=⟨i-1,by have:=K6 i;omega⟩
 rfl
section
variable(U:Rho)
@[simp]theorem Zvh(i):shE U (.var i)=shV U i:=rfl
@[simp]theorem Zvl:shE U .non=Ab:=rfl
@[simp]theorem ZyO(b):shE U (.bl b)=Ab:=rfl
@[simp]theorem Zvs(b):shE U (.int b)=Ab:=rfl
@[simp]theorem Zvj(b):shE U (.str b)=Ab:=rfl
@[simp]theorem Ztf(b):shE U (.glob b)=Ab:=rfl
@[simp]theorem Zvw(op a b):shE U (.bin op a b)=Ab:=rfl
@[simp]theorem ZyK(op a):shE U (.un op a)=Ab:=rfl
@[simp]theorem ZyN(a):shE U (.no a)=Ab:=rfl
@[simp]theorem Zvx(a):shE U (.and a)=Ab:=rfl
@[simp]theorem ZyM(a):shE U (.or a)=Ab:=rfl
@[simp]theorem Zvv(op a b):shE U (.cmp op a b)=Ab:=rfl
@[simp]theorem Zti(op op' a b c):shE U (.cmp2 op op' a b c)=Ab:=rfl
@[simp]theorem Zvp(a b c):shE U (.ite a b c)=Ab:=rfl
@[simp]theorem Ztj(a b):shE U (.call a b)=Ab:=rfl
@[simp]theorem ZyP(a b):shE U (.bi a b)=Ab:=rfl
@[simp]theorem Zvr(a b):shE U (.isi a b)=Ab:=rfl
@[simp]theorem Zvt(a b):shE U (.idx a b)=Ab:=rfl
@[simp]theorem ZyL(a b c):shE U (.sl a b c)=Ab:=rfl
@[simp]theorem Zvi(a):shE U (.tup a)=Ab:=rfl
@[simp]theorem Zvo(a):shE U (.lst a)=Ab:=rfl
@[simp]theorem Zth(a b c d):shE U (.comp a b c d)=Ab:=rfl
@[simp]theorem Zp3(a b c d):shE U (.compT a b c d)=Ab:=rfl
@[simp]theorem Ztc(a):shE U (.tupI a)=Ab:=rfl
@[simp]theorem Ztg:shE U .dnew=Ab:=rfl
@[simp]theorem Zvk(a b):shE U (.ofl a b)=Ab:=rfl
@[simp]theorem Zvq(a b):shE U (.iso a b)=Ab:=rfl
@[simp]theorem Zte(a b c):shE U (.meth a b c)=Ab:=rfl
@[simp]theorem Ztd(a b):shE U (.mkob a b)=Ab:=rfl
@[simp]theorem Zvn(a b):shE U (.mkn a b)=Ab:=rfl
@[simp]theorem Zvm(a b):shE U (.mkx a b)=Ab:=rfl
@[simp]theorem Zvu(a b):shE U (.fld a b)=Ab:=rfl
@[simp]theorem Ztb:HA U .nil=Ab:=rfl
@[simp]theorem ZJ(e es):HA U (.cons e es)=(shE U e&&HA U es):=rfl
end
@[simp]theorem Zo4(U:Rho):EI [] [] U=Aa U:=rfl
@[simp]theorem ZmU(t ts d ds)(U:Rho):EI (t::ts) (d::ds) U=EI ts ds (U.set t (Aa (d,Ad))):=rfl
@[simp]theorem Zsq(ts ds)(U:Rho):Nj ts (.lst ds) U=match EI ts ds U with
  |some U'=>.ok U'
  |none=>.bad:=rfl
@[simp]theorem Zsp(ts ds)(U:Rho):Nj ts (.tup ds) U=ES ts (.tup ds) U:=rfl
@[simp]theorem QT(ts ds)(U:Rho):ES ts (.tup ds) U=match EI ts ds U with
  |some U'=>.ok U'
  |none=>.bad:=rfl
@[simp]theorem Zud{β:Type}(c:Prop)[Gb c](a b:R α)(f:α->R β):(if c then a else b).bind f=if c then a.bind f else b.bind f:=by split<;>rfl
@[simp]theorem Zy4(U:Rho)(c:Prop)[Gb c](a b:R α)(f:α->O):O.of U (if c then a else b) f=if c then O.of U a f else O.of U b f:=by split<;>rfl
@[simp]theorem ZwH{β:Type}(U:Rho)(a:R α)(g:α->R β)(f:β->O):O.of U (a.bind g) f=O.of U a λx=>O.of U (g x) f:=by cases a<;>rfl
@[simp]theorem Zvz(c:Prop)[Gb c](a b:O)(f:Rho->O):O.seq (if c then a else b) f=if c then a.seq f else b.seq f:=by split<;>rfl
@[simp]theorem ZsQ(c:Prop)[Gb c](a b:O)(f:Rho->O):O.turn (if c then a else b) f=if c then a.turn f else b.turn f:=by split<;>rfl
@[simp]theorem Zye(fr:Am)(c:Prop)[Gb c](a b:O):O.ans fr (if c then a else b)=if c then a.ans fr else b.ans fr:=by split<;>rfl
@[simp]theorem Ztk(U f):O.seq (.next U) f=f U:=rfl
@[simp]theorem Zvy(d b f):O.seq (.ret d b) f=.ret d b:=rfl
@[simp]theorem ZvB(U f):O.seq (.brk U) f=.brk U:=rfl
@[simp]theorem Ztl(U f):O.seq (.cont U) f=.cont U:=rfl
@[simp]theorem ZvA(x U f):O.seq (.exn x U) f=.exn x U:=rfl
@[simp]theorem ZvC(f):O.seq .bad f=.bad:=rfl
@[simp]theorem Zpx(U f):O.turn (.next U) f=f U:=rfl
@[simp]theorem ZsP(d b f):O.turn (.ret d b) f=.ret d b:=rfl
@[simp]theorem ZsS(U f):O.turn (.brk U) f=.next U:=rfl
@[simp]theorem Zpy(U f):O.turn (.cont U) f=f U:=rfl
@[simp]theorem ZsR(x U f):O.turn (.exn x U) f=.exn x U:=rfl
@[simp]theorem ZsT(f):O.turn .bad f=.bad:=rfl
@[simp]theorem Zuh(U):O.ans Ad (.next U)=.ok .non:=rfl
@[simp]theorem Zyd(d b):O.ans Ad (.ret d b)=.ok d:=rfl
@[simp]theorem Zug(d b):O.ans Ab (.ret d b)=if (!b&&isL d)=Ab then .bad else .ok d:=rfl
@[simp]theorem Zw7(d):isL (.lst d)=Ab:=rfl
@[simp]theorem Zw6(d):isL (.tup d)=Ad:=rfl
@[simp]theorem Zw8(d):isL (.int d)=Ad:=rfl
@[simp]theorem Zyf(fr x U):O.ans fr (.exn x U)=.exn x:=rfl
@[simp]theorem Zyg(fr):O.ans fr .bad=.bad:=rfl
@[simp]theorem ZzJ(i j:Ah):CF .Add (.int i) (.int j)=.ok (.int (i+j)):=rfl
@[simp]theorem ZyE(i j:Ah):CF .Sub (.int i) (.int j)=.ok (.int (i-j)):=rfl
@[simp]theorem kY(i j:Ah):CF .Mult (.int i) (.int j)=if (FP i j||Ni i j)=Ab then .ok (.int (i*j)) else .bad:=rfl
@[simp]theorem iZ(i j:Ah):CF .FloorDiv (.int i) (.int j)=if 0<j/\j<1073741824 then .ok (.int (i/j)) else .bad:=rfl
@[simp]theorem kZ(i j:Ah):CF .Mod (.int i) (.int j)=if 0<j then .ok (.int (i%j)) else .bad:=rfl
@[simp]theorem lI(i j:Ah):CF .Pow (.int i) (.int j)=if (0<=j/\j<=1000000)/\(-(18446744073709551616:Ah)<i/\i<18446744073709551616) then .ok (.int (i ^ j.toNat)) else .bad:=rfl
@[simp]theorem Fb(x y:Ag):CF .Add (.str x) (.str y)=if Cd (x.length+y.length)=Ab then .ok (.str (x++y)) else .bad:=rfl
@[simp]theorem Gq(x y:Ac D):CF .Add (.lst x) (.lst y)=if Cd (x.length+y.length)=Ab then .ok (.lst (x++y)) else .bad:=rfl
@[simp]theorem T7(x y:Ac D):CF .Add (.tup x) (.tup y)=if (!x.isEmpty&&Cd (x.length+y.length))=Ab then .ok (.tup (x++y)) else .bad:=rfl
@[simp]theorem ZAc(i:Ah):unD .USub (.int i)=.ok (.int (-i)):=rfl
@[simp]theorem tG(x y:D):Bp .Eq x y=if (flD 5 x&&flD 5 y)=Ab then .ok (.bl (eqD x y)) else .bad:=rfl
@[simp]theorem rQ(x y:D):Bp .NotEq x y=if (flD 5 x&&flD 5 y)=Ab then .ok (.bl (!eqD x y)) else .bad:=rfl
@[simp]theorem ZAd(i j:Ah):Bp .Lt (.int i) (.int j)=.ok (.bl (decide (i<j))):=rfl
@[simp]theorem ZAg(i j:Ah):Bp .LtE (.int i) (.int j)=.ok (.bl (decide (i<=j))):=rfl
@[simp]theorem ZAr(i j:Ah):Bp .Gt (.int i) (.int j)=.ok (.bl (decide (j<i))):=rfl
@[simp]theorem ZAs(i j:Ah):Bp .GtE (.int i) (.int j)=.ok (.bl (decide (j<=i))):=rfl
@[simp]theorem Ie(x:D)(ys:Ac D):Bp .In x (.lst ys)=if (flD 5 x&&ys.all (flD 5))=Ab then .ok (.bl (ys.any λy=>eqD y x)) else .bad:=rfl
@[simp]theorem YE(x:D)(ys:Ac D):Bp .In x (.tup ys)=if (flD 5 x&&ys.all (flD 5))=Ab then .ok (.bl (ys.any λy=>eqD y x)) else .bad:=rfl
@[simp]theorem LP(x:D)(ys:Ac D):Bp .NotIn x (.lst ys)=if (flD 5 x&&ys.all (flD 5))=Ab then .ok (.bl (!ys.any λy=>eqD y x)) else .bad:=rfl
@[simp]theorem rP(x:D)(ys:Ac D):Bp .NotIn x (.tup ys)=if (flD 5 x&&ys.all (flD 5))=Ab then .ok (.bl (!ys.any λy=>eqD y x)) else .bad:=rfl
@[simp]theorem Zzi:Bp .Is .non .non=.ok (.bl Ab):=rfl
@[simp]theorem Zzk(i):Bp .Is (.int i) .non=.ok (.bl Ad):=rfl
@[simp]theorem Zzh(i):Bp .Is (.tup i) .non=.ok (.bl Ad):=rfl
@[simp]theorem Zzj(i):Bp .Is (.lst i) .non=.ok (.bl Ad):=rfl
@[simp]theorem ZAk(a b):Bp .Is (.bl a) (.bl b)=.ok (.bl (a==b)):=rfl
@[simp]theorem Zzf(a b):Bp .IsNot (.bl a) (.bl b)=.ok (.bl (!(a==b))):=rfl
@[simp]theorem ZwW:Bp .IsNot .non .non=.ok (.bl Ad):=rfl
@[simp]theorem ZwY(i):Bp .IsNot (.int i) .non=.ok (.bl Ab):=rfl
@[simp]theorem ZwV(i):Bp .IsNot (.tup i) .non=.ok (.bl Ab):=rfl
@[simp]theorem ZwX(i):Bp .IsNot (.lst i) .non=.ok (.bl Ab):=rfl
@[simp]theorem ZxZ(i j:Ah):eqD (.int i) (.int j)=(i==j):=rfl
@[simp]theorem ZzE(i j:Am):eqD (.bl i) (.bl j)=(i==j):=rfl
@[simp]theorem ZxW(i j:Ag):eqD (.str i) (.str j)=(i==j):=rfl
@[simp]theorem ZxV(i j:Ac D):eqD (.tup i) (.tup j)=eqDs i j:=rfl
@[simp]theorem ZxY(i j:Ac D):eqD (.lst i) (.lst j)=eqDs i j:=rfl
@[simp]theorem ZxX:eqD .non .non=Ab:=rfl
@[simp]theorem Zoo(i):eqD .non (.int i)=Ad:=rfl
@[simp]theorem Zop(i):eqD (.int i) .non=Ad:=rfl
@[simp]theorem Zt5:eqDs [] []=Ab:=rfl
@[simp]theorem Oc(x y:D)(xs ys:Ac D):eqDs (x::xs) (y::ys)=(eqD x y&&eqDs xs ys):=rfl
@[simp]theorem Zxp(n)(i:Ah):flD n (.int i)=Ab:=by cases n<;>rfl
@[simp]theorem Zzx(n)(i:Am):flD n (.bl i)=Ab:=by cases n<;>rfl
@[simp]theorem Zxn(n)(i:Ag):flD n (.str i)=Ab:=by cases n<;>rfl
@[simp]theorem Zxo(n):flD n .non=Ab:=by cases n<;>rfl
@[simp]theorem Ztw(i):flD 5 (.tup i)=i.all (flD 4):=rfl
@[simp]theorem ZtB(i):flD 5 (.lst i)=i.all (flD 4):=rfl
@[simp]theorem Ztx(i):flD 4 (.tup i)=i.all (flD 3):=rfl
@[simp]theorem ZtC(i):flD 4 (.lst i)=i.all (flD 3):=rfl
@[simp]theorem Zty(i):flD 3 (.tup i)=i.all (flD 2):=rfl
@[simp]theorem ZtD(i):flD 3 (.lst i)=i.all (flD 2):=rfl
@[simp]theorem Ztz(i):flD 2 (.tup i)=i.all (flD 1):=rfl
@[simp]theorem ZtE(i):flD 2 (.lst i)=i.all (flD 1):=rfl
@[simp]theorem ZtA(i):flD 1 (.tup i)=i.all (flD 0):=rfl
@[simp]theorem ZtF(i):flD 1 (.lst i)=i.all (flD 0):=rfl
@[simp]theorem Zuy(b):BY (.bl b)=.ok b:=rfl
@[simp]theorem ZsX(i):BY (.int i)=.ok (i != 0):=rfl
@[simp]theorem ZsW(i):BY (.lst i)=.ok (!i.isEmpty):=rfl
@[simp]theorem ZsU(i):BY (.tup i)=.ok (!i.isEmpty):=rfl
@[simp]theorem ZsV:BY .non=.ok Ad:=rfl
@[simp]theorem Zuz(b):Ez (.bl b)=.ok b:=rfl
@[simp]theorem ZsZ(i):Ez (.int i)=.ok (i != 0):=rfl
@[simp]theorem ZsY:Ez .non=.ok Ad:=rfl
@[simp]theorem Zsy:Hu []=.ok Ab:=rfl
@[simp]theorem QV(x r):Hu (x::r)=(Ez x).bind λb=>(Hu r).bind λc=>.ok (b&&c):=rfl
@[simp]theorem Zsx:Gr []=.ok Ad:=rfl
@[simp]theorem QU(x r):Gr (x::r)=(Ez x).bind λb=>(Gr r).bind λc=>.ok (b||c):=rfl
@[simp]theorem Zx1(b)(d):Fi b (.ok d)=.ok d:=by cases b<;>rfl
@[simp]theorem Zt8(b):Fi b .bad=.bad:=by cases b<;>rfl
@[simp]theorem Zt7(x):Fi Ab (.exn x)=.exn x:=rfl
@[simp]theorem Zpc(r):Fi Ad r=noX r:=rfl
@[simp]theorem ZwI(a:α):noX (.ok a)=.ok a:=rfl
@[simp]theorem ZwK:noX (.bad:R α)=.bad:=rfl
@[simp]theorem ZwJ(x):noX (.exn x:R α)=.bad:=rfl
@[simp]theorem Zya(b):DA (.bl b)=.ok b:=rfl
@[simp]theorem Zsv(b):Fv (.int b)=.ok b:=rfl
@[simp]theorem Zst(b):PU (.lst b)=.ok b:=rfl
@[simp]theorem Zss(b):Ey (.lst b)=.ok b:=rfl
@[simp]theorem Zsr(b):Ey (.tup b)=.ok b:=rfl
@[simp]theorem tK(xs i):FS (.lst xs) (.int i)=CP xs i:=rfl
@[simp]theorem tJ(xs i):FS (.tup xs) (.int i)=CP xs i:=rfl
@[simp]theorem ZAf(xs):biD .len [.lst xs]=.ok (.int xs.length):=rfl
@[simp]theorem ZAe(xs):biD .len [.tup xs]=.ok (.int xs.length):=rfl
@[simp]theorem ZAE(i):biD .abs [.int i]=.ok (.int (if i<0 then -i else i)):=rfl
@[simp]theorem Zy9(i j):biD .max [.int i,.int j]=.ok (.int (if i<j then j else i)):=rfl
@[simp]theorem Zy7(i j):biD .min [.int i,.int j]=.ok (.int (if j<i then j else i)):=rfl
@[simp]theorem ZAm(i):biD .int [.int i]=.ok (.int i):=rfl
@[simp]theorem ZAn(i):biD .int [.bl i]=.ok (.int (b2i i)):=rfl
@[simp]theorem Zze(i):biD .list [.lst i]=.ok (.lst i):=rfl
@[simp]theorem Zzd(i):biD .list [.tup i]=.ok (.lst i):=rfl
@[simp]theorem Zux(i):biD .tuple [.lst i]=.ok (.tup i):=rfl
@[simp]theorem Zuw(i):biD .tuple [.tup i]=.ok (.tup i):=rfl
@[simp]theorem tS(i):biD .all [.lst i]=(Hu i).bind λb=>.ok (.bl b):=rfl
@[simp]theorem ZAB(i):biD .any [.lst i]=(Gr i).bind λb=>.ok (.bl b):=rfl
@[simp]theorem ZAA(i):biD .any [.tup i]=(Gr i).bind λb=>.ok (.bl b):=rfl
@[simp]theorem Zz4(i):biD .sum [.lst i]=(LU 0 i).bind λb=>.ok (.int b):=rfl
@[simp]theorem Zz3(i):biD .sum [.tup i]=(LU 0 i).bind λb=>.ok (.int b):=rfl
@[simp]theorem Zs8(i):biD .sorted [.lst i]=(RZ i).bind λb=>.ok (.lst b):=rfl
@[simp]theorem Zz5(xs k):biD .stp [.lst xs,.int k]=.ok (.lst (Vb k.toNat xs)):=rfl
@[simp]theorem Zz9(xs):biD .rvs [.lst xs]=.ok (.lst xs.reverse):=rfl
@[simp]theorem Zzb(xs):biD .lset [.lst xs]=Uj xs:=rfl
@[simp]theorem Zyz(x y):biD .tmin [x,y]=mmD Ad x y:=rfl
@[simp]theorem ZzQ(x y):biD .tlt [x,y]=U_7 x y:=rfl
@[simp]theorem ZyA(x y):biD .tmax [x,y]=mmD Ab x y:=rfl
@[simp]theorem Zx2(xs x):biD .count [.lst xs,x]=if (flD 5 x&&xs.all (flD 5))=Ab then .ok (.int ((xs.filter λy=>eqD y x).length:Af)) else .bad:=rfl
@[simp]theorem tX(xs lo hi):slD (.tup xs) lo hi=if (IP xs.length 0 lo==0&&IP xs.length xs.length hi==xs.length)=Ab then .bad else .ok (.tup (EL xs lo hi)):=rfl
@[simp]theorem ZAM(xs lo hi):slD (.lst xs) lo hi=.ok (.lst (EL xs lo hi)):=rfl
@[simp]theorem Zvc(d):slE .non d=.ok Ae:=rfl
@[simp]theorem Zvd(k i):slE (.int k) (.int i)=.ok (Aa i):=rfl
@[simp]theorem Zvb(k i):slE (.var k) (.int i)=.ok (Aa i):=rfl
@[simp]theorem Zve(op a b i):slE (.bin op a b) (.int i)=.ok (Aa i):=rfl
@[simp]theorem ZyH(op a i):slE (.un op a) (.int i)=.ok (Aa i):=rfl
@[simp]theorem ZyI(b as i):slE (.bi b as) (.int i)=.ok (Aa i):=rfl
@[simp]theorem Zw1(up ks):EA up ks .non=if ks.any Eb=Ab then .bad else .ok (.bl (ks.any λk=>kiD up k .non)):=rfl
@[simp]theorem Zzg(up ks b):EA up ks (.bl b)=if ks.any Eb=Ab then .bad else .ok (.bl (ks.any λk=>kiD up k (.bl b))):=rfl
@[simp]theorem Zw3(up ks b):EA up ks (.int b)=if ks.any Eb=Ab then .bad else .ok (.bl (ks.any λk=>kiD up k (.int b))):=rfl
@[simp]theorem Zw0(up ks b):EA up ks (.str b)=if ks.any Eb=Ab then .bad else .ok (.bl (ks.any λk=>kiD up k (.str b))):=rfl
@[simp]theorem ZwZ(up ks b):EA up ks (.tup b)=if ks.any Eb=Ab then .bad else .ok (.bl (ks.any λk=>kiD up k (.tup b))):=rfl
@[simp]theorem Zw2(up ks b):EA up ks (.lst b)=if ks.any Eb=Ab then .bad else .ok (.bl (ks.any λk=>kiD up k (.lst b))):=rfl
@[simp]theorem Zw4(up ks c f):EA up ks (.exc c f)=if ks.all Eb=Ab then .ok (.bl (ks.any λk=>kiD up k (.exc c f))) else .bad:=rfl
@[simp]theorem Zub(c):Eb (.cls c)=Ab:=rfl
@[simp]theorem Zr1:Eb .verr=Ab:=rfl
@[simp]theorem Zua:Eb .int=Ad:=rfl
@[simp]theorem Zr3:Eb .bool=Ad:=rfl
@[simp]theorem Zt9:Eb .str=Ad:=rfl
@[simp]theorem Zr2:Eb .list=Ad:=rfl
@[simp]theorem Zpd:Eb .tuple=Ad:=rfl
@[simp]theorem Zo8(up i):kiD up .int (.int i)=Ab:=rfl
@[simp]theorem Zo7(up):kiD up .int .non=Ad:=rfl
@[simp]theorem Zn0(up i):kiD up .bool (.int i)=Ad:=rfl
@[simp]theorem Zo6(up i):kiD up .int (.tup i)=Ad:=rfl
@[simp]theorem Zpa(up i):kiD up .bool (.bl i)=Ab:=rfl
@[simp]theorem ZnZ(up):kiD up .bool .non=Ad:=rfl
@[simp]theorem ZnY(up i):kiD up .list (.lst i)=Ab:=rfl
@[simp]theorem ZlP(up i):kiD up .tuple (.tup i)=Ab:=rfl
@[simp]theorem ZlQ(up):kiD up .tuple .non=Ad:=rfl
@[simp]theorem Zo9(up c k f):kiD up (.cls c) (.exc k f)=(up k).contains c:=rfl
@[simp]theorem ZnX(up k f):kiD up .verr (.exc k f)=Ab:=rfl
theorem OG{xs:Ac D}{i:Ah}{d:D}(h0:0<=i)(h:xs[i.toNat]?=Aa d):CP xs i=.ok d:=by
 unfold CP plD;obtain⟨h1,_⟩:=A5.mp h;rw[At h0,At (by omega)]
 dsimp only;rw[h]
section
variable(Z:Gam)(U:Rho)
@[simp]theorem ZtG:evSs Z U .nil=.next U:=rfl
noncomputable def GM(Z:Gam)(ss:Ss)(o:O):O:=o.seq λU'=>evSs Z U' ss
@[simp]theorem aI(s ss):evSs Z U (.cons s ss)=GM Z ss (evS Z U s):=rfl
@[simp]theorem Zxi(ss):GM Z ss (.next U)=evSs Z U ss:=rfl
@[simp]theorem Zzo(ss d b):GM Z ss (.ret d b)=.ret d b:=rfl
@[simp]theorem Zzs(ss):GM Z ss (.brk U)=.brk U:=rfl
@[simp]theorem Zxj(ss):GM Z ss (.cont U)=.cont U:=rfl
@[simp]theorem Zzr(ss x):GM Z ss (.exn x U)=.exn x U:=rfl
@[simp]theorem Zzt(ss):GM Z ss .bad=.bad:=rfl
@[simp]theorem Zzq(ss)(c:Prop)[Gb c](a b:O):GM Z ss (if c then a else b)=if c then GM Z ss a else GM Z ss b:=by split<;>rfl
@[simp]theorem Zzp(o:O):GM Z .nil o=o:=by cases o<;>rfl
noncomputable def Dz(Z:Gam)(t:Af)(body:Ss):D->Rho->O:=λx U'=>evSs Z (U'.set t (Aa (x,Ad))) body
noncomputable def whC(Z:Gam)(c:E):Rho->R Am:=λU'=>(top U' c (evE Z U' c)).bind BY
noncomputable def whB(Z:Gam)(body:Ss):Rho->O:=λU'=>evSs Z U' body
noncomputable def VI(Z:Gam)(t:Af)(body:Ss)(U:Rho)(r:R (Ac D)):O:=O.of U r λxs=>Dk (Dz Z t body) xs U
@[simp]theorem Zxl(t body xs):VI Z t body U (.ok xs)=Dk (Dz Z t body) xs U:=rfl
@[simp]theorem ZtK:evS Z U .pass=.next U:=rfl
@[simp]theorem Zxw(i e):evS Z U (.asg i Ad e)=O.of U (evE Z U e) λd=>.next (U.set i (Aa (d,Ad))):=rfl
@[simp]theorem ZtN(e):evS Z U (.expr e)=O.of U (evE Z U e) λ_=>.next U:=rfl
@[simp]theorem SY(e):evS Z U (.ret e)=O.of U (top U e (evE Z U e)) λd=>.ret d (Dq Z e||(match e with | .var i=>(match U[i]? with|some (Aa (_,o))=>o|_=>Ad)|_=>Ad)):=rfl
@[simp]theorem ZtI:evS Z U .retN=.ret .non Ad:=rfl
@[simp]theorem Zxs(c a b):evS Z U (.ife c a b)=O.of U ((top U c (evE Z U c)).bind BY) λk=>if k=Ab then evSs Z U a else evSs Z U b:=rfl
@[simp]theorem ZtL(t it body):evS Z U (.fors t it body)=VI Z t body U (G5 Z U it):=rfl
noncomputable def Uz(Z:Gam)(ts:Ac Af)(body:Ss):D->Rho->O:=λx U'=>O.of U' (ES ts x U') λU''=>evSs Z U'' body
noncomputable def Uy(Z:Gam)(ts:Ac Af)(body:Ss)(U:Rho)(r:R (Ac D)):O:=O.of U r λxs=>Dk (Uz Z ts body) xs U
@[simp]theorem Ztv(t body xs):Uy Z t body U (.ok xs)=Dk (Uz Z t body) xs U:=rfl
@[simp]theorem ZtM(t it body):evS Z U (.forT t it body)=Uy Z t body U (G5 Z U it):=rfl
noncomputable def cTT(U:Rho)(ts:Ac Af):D->R Am:=λx=>(ES ts x U).bind λ_=>.ok Ab
theorem RH(ts it f as):evS Z U (.retc ts it f as)=O.of U ((G5 Z U it).bind λxs=>(Bv (cTT U ts) (cFT Z U ts (.call f as)) xs).bind λys=>.ok (.lst ys)) λd=>.ret d Ab:=rfl
@[simp]theorem ZtP(ts e):evS Z U (.asgT ts e)=O.of U (evE Z U e) λd=>O.of U (Nj ts d U) λU'=>.next U':=rfl
theorem aS(i e):evS Z U (.asg i Ab e)=O.of U (evE Z U e) λd=>if Dq Z e=Ab then (match d with
      |.lst xs=>.next (U.set i (Aa (.lst xs,Ab)))
      |.dic xs=>.next (U.set i (Aa (.dic xs,Ab)))
      | _=>.bad) else .bad:=rfl
noncomputable def setF(U:Rho)(i:Af):D->O
 |.lst xs=>.next (U.set i (Aa (.lst xs,Ab)))
 |.dic xs=>.next (U.set i (Aa (.dic xs,Ab)))
 |_=>.bad
@[simp]theorem ZyQ(i xs):setF U i (.lst xs)=.next (U.set i (Aa (.lst xs,Ab))):=rfl
@[simp]theorem ZyR(i xs):setF U i (.dic xs)=.next (U.set i (Aa (.dic xs,Ab))):=rfl
@[simp]theorem aJ(i e):evS Z U (.asg i Ab e)=O.of U (evE Z U e) λd=>if Dq Z e=Ab then setF U i d else .bad:=by
 rw[aS]
 congr 1
@[simp]theorem Zxx(i e):evS Z U (.app i e)=O.of U (Ea U i) λxs=>O.of U (evE Z U e) λd=>if Cd (xs.length+1)=Ab then .next (U.set i (Aa (.lst (xs++[d]),Ab))) else .bad:=rfl
@[simp]theorem Zxt(i e):evS Z U (.ext i e)=O.of U (Ea U i) λxs=>O.of U (evE Z U e) λd=>O.of U (PU d) λys=>if Cd (xs.length+ys.length)=Ab then .next (U.set i (Aa (.lst (xs++ys),Ab))) else .bad:=rfl
@[simp]theorem Zxr(i):evS Z U (.rev i)=O.of U (Ea U i) λxs=>.next (U.set i (Aa (.lst xs.reverse,Ab))):=rfl
@[simp]theorem Zxu(i):evS Z U (.clr i)=O.of U (Ea U i) λ_=>.next (U.set i (Aa (.lst [],Ab))):=rfl
@[simp]theorem Zto(U:Rho)(i)(xs):Np U i (.lst xs)=.next (U.set i (Aa (.lst xs,Ad))):=rfl
theorem SZ(i):evS Z U (.rel i)=match U[i]? with
      |some (Aa (d,Ab))=>Np U i d
      |_=>.next U:=rfl
@[simp]theorem aR(body c x h):evS Z U (.tryx body c x h)=match evSs Z U body with
      | .exn y U'=>if (Z.up y.c).contains c=Ab then (match evSs Z (U'.set x (Aa (.exc y.c y.fs,Ad))) h with
          |.next U''=>.next (U''.set x Ae)
          |.ret d f=>.ret d f
          | _=>.bad) else .bad
      |o=>o:=rfl
@[simp]theorem ZtH(body c x h c' h' els):evS Z U (.try2 body c x h c' h' els)=match evSs Z U body with
      |.exn y U'=>if (Z.up y.c).contains c=Ab then hdO x y U' (λr=>evSs Z r h) else if (Z.up y.c).contains c'=Ab then hdO x y U' (λr=>evSs Z r h') else .bad
      |.next U'=>evSs Z U' els
      |o=>o:=rfl
@[simp]theorem Zxq(c body):evS Z U (.whl c body)=JE (whC Z c) (whB Z body) PZ U:=rfl
@[simp]theorem ZtJ(c as):evS Z U (.rais c as)=O.of U (noX (evA Z U as)) λxs=>O.of U (Z.xn c xs) λx=>.exn x U:=rfl
@[simp]theorem Zxv:evS Z U .brk=.brk U:=rfl
@[simp]theorem ZtO:evS Z U .cont=.cont U:=rfl
end
end Ov
namespace Ov
open PySem
theorem NU{body:D->Rho->O}(P:Af->Rho->Prop):∀(xs:Ac D)(n:Af)(U:Rho),P n U->(∀ i x,xs[i]?=Aa x->∀ U,P (n+i) U->∃ U',body x U=.next U'/\P (n+i+1) U')->∃ U',Dk body xs U=.next U'/\P (n+xs.length) U'
 |[],n,U,h,_=>⟨U,rfl,h⟩
 |x::xs,n,U,h,k=>by
  obtain⟨U1,e1,h1⟩:=k 0 x rfl U h;obtain⟨U2,e2,h2⟩:=NU P xs (n+1) U1 h1 λi y hy U hρ=>by
   have:=k (i+1) y (by simpa using hy) U (by rw[show n+(i+1)=n+1+i by omega];exact hρ)
   rw[show n+(i+1)=n+1+i by omega]at this
   exact this
  exact⟨U2,by show (body x U).turn _=_;rw[e1];exact e2,by rw[show n+(x::xs).length=n+1+xs.length by simp;omega];exact h2⟩
theorem ZL(h1:0<=lo)(h2:lo<1000000)(h3:0<=hi)(h4:hi<1000000):Ee lo hi=.ok (EW lo (hi-lo).toNat):=by
 unfold Ee;rw[At (by omega)]
theorem Ol(h3:0<=hi)(h4:hi<1000000):Ee 0 hi=.ok (EW 0 hi.toNat):=by
 rw[ZL (by omega) (by omega) h3 h4,VV]
theorem Lk(lo:Ah)(n:Af):(EW lo n).length=n:=by simp[EW]
theorem OF{n i:Af}{x:D}(h:(EW lo n)[i]?=Aa x):i<n/\x=.int (lo+(i:Ah)):=by
 have hl:=(A5.mp h).1;rw[Lk]at hl;unfold EW at h;rw[Cn,List.getElem?_range hl]at h;cases h;exact⟨hl,rfl⟩
noncomputable def Ss.take:Af->Ss->Ss
 |0,_=>.nil
 |_,.nil=>.nil
 |n+1,.cons s ss=>.cons s (ss.take n)
noncomputable def Ss.drop:Af->Ss->Ss
 |0,ss=>ss
 |_,.nil=>.nil
 |n+1,.cons _ ss=>ss.drop n
noncomputable def mkC(c:Af):Df:=⟨2,Ad,.cons (.ret (.mkob c (.call 910 (.cons (.var 0) (.cons (.var 1) .nil))))) .nil⟩
noncomputable def inC:Df:=⟨2,Ad,.cons (.ret (.tup (.cons (.var 0) (.cons (.call 17 (.cons (.var 0) (.cons (.var 1) .nil))) .nil)))) .nil⟩
end Ov
end
section
namespace Ov
noncomputable def xfD:Af->D->Am
 |0,.int i=>decide (0<=i)&&decide (i<100)
 |n+1,.tup ds=>Dl ds.length 8&&ds.all (xfD n)
 |_,_=>Ad
noncomputable def mkX(c:Af)(f:Ag):Ac D->R Ex
 |[d]=>if (xfD 1 d||xfD 2 d)=Ab then .ok ⟨c,[(f,d)]⟩ else .bad
 |_=>.bad
noncomputable def mkI(c:Af)(f:Ag):Ac D->R Ex
 |[d]=>if xfD 0 d=Ab then .ok ⟨c,[(f,d)]⟩ else .bad
 |_=>.bad
noncomputable def mkA(c:Af)(f:Ag):Ac D->R Ex
 |[d]=>if (xfD 0 d||(xfD 1 d||xfD 2 d))=Ab then .ok ⟨c,[(f,d)]⟩ else .bad
 |_=>.bad
end Ov
end
section
namespace OvC
open PySem Ov PyProof.Rows
variable{j:Ah}{Z:Gam}
noncomputable abbrev scr(ns:Ac Ah):D:=.lst (ns.map .int)
noncomputable abbrev sh(d:D):Sl:=Aa (d,Ad)
noncomputable abbrev si(i:Ah):Sl:=Aa (.int i,Ad)
noncomputable def Nh(ns:Ac Ah)(k:Ah):Ah:=if ns=[] then 0 else ns.getD (k%ns.length).toNat 0
noncomputable def Ib(ns:Ac Ah)(k:Ah):Ah:=(Nh ns k%1000003+7919*k+11)*48271%1000033
noncomputable def Pf(ns:Ac Ah)(k:Ah):Ah:=[3,5,7,11].getD (Ib ns k/16%4).toNat 0
theorem TC(ns k):0<=Ib ns k:=by unfold Ib;omega
theorem VH{P:Af->Prop}(h0:P 0)(h1:P 1)(h2:P 2)(h3:P 3):P (j%4).toNat:=by
 have:(j%4).toNat=0\/(j%4).toNat=1\/(j%4).toNat=2\/(j%4).toNat=3:=by omega
 rcases this with e|e|e|e<;>rw[e]<;>assumption
def P4(p:Ah):Prop:=p=3\/p=5\/p=7\/p=11
noncomputable def pr4(j:Ah):Ah:=[3,5,7,11].getD (j%4).toNat 0
theorem lH(j):P4 (pr4 j):=by
 unfold pr4;exact VH (P:=λj=>P4 ([3,5,7,11].getD j 0)) (.inl rfl) (.inr (.inl rfl)) (.inr (.inr (.inl rfl))) (.inr (.inr (.inr rfl)))
theorem bT(ns k):P4 (Pf ns k):=lH _
theorem P4.pos{p}(h:P4 p):0<p:=by rcases h with rfl|rfl|rfl|rfl<;>decide
theorem P4.lo{p}(h:P4 p):3<=p:=by rcases h with rfl|rfl|rfl|rfl<;>decide
theorem P4.hi{p}(h:P4 p):p<=11:=by rcases h with rfl|rfl|rfl|rfl<;>decide
theorem bP(j:Ah):CP [.int 3,.int 5,.int 7,.int 11] (j%4)=.ok (.int (pr4 j)):=by
 have h:=VH (P:=λj=>[D.int 3,D.int 5,D.int 7,D.int 11][j]?=Aa (D.int ([3,5,7,11].getD j 0))) (j:=j) rfl rfl rfl rfl
 exact OG (by omega) h
theorem MH{i:Ah}(h0:-18446744073709551616<i)(h1:i<18446744073709551616):FP i j=Ab:=by simp[FP];left;exact⟨h0,h1⟩
theorem Sy{i:Ah}(h0:-18446744073709551616<j)(h1:j<18446744073709551616):FP i j=Ab:=by simp[FP];right;exact⟨h0,h1⟩
noncomputable def Po:Df:=⟨2,Ad,(.cons (.ret (.bin .Mod (.var 1) (.var 0))) .nil)⟩
def MR(Z:Gam):Prop:=∀ p n:Ah,0<p->Z.F 1 [.int p,.int n]=.ok (.int (n%p))
theorem mK(Z:Gam)(p n:Ah)(h:0<p):Po.run Z [.int p,.int n]=.ok (.int (n%p)):=by simp[Po,Df.run,Bz,h]
noncomputable def NQ:Df:=⟨2,Ad,(.cons (.ife (.cmp .Eq (.bi .len (.cons (.var 0) .nil)) (.int 0)) (.cons (.ret (.int 0)) .nil) .nil) (.cons (.ret (.idx (.var 0) (.bin .Mod (.var 1) (.bi .len (.cons (.var 0) .nil))))) .nil))⟩
def Ua(Z:Gam):Prop:=∀(ns:Ac Ah)(k:Ah),Z.F 2 [scr ns,.int k]=.ok (.int (Nh ns k))
theorem mP(Z:Gam)(ns:Ac Ah)(k:Ah):NQ.run Z [scr ns,.int k]=.ok (.int (Nh ns k)):=by
 simp[NQ,Df.run,Bz,Nh];by_cases h:ns=[]
 .simp[h]
 .have hn:=Gx.mpr h;have hl:0<(ns.length:Ah):=by omega
  have h1:=B9 k (VU hl);have h2:=BR k hl;have h3:(k%ns.length).toNat<ns.length:=by omega
  simp[h,hn,OG (xs:=ns.map .int) (d:=.int (ns.getD (k%ns.length).toNat 0)) h1 (by simp[h3])]
noncomputable def N8:Df:=⟨2,Ad,(.cons (.ret (.bin .Mod (.bin .Mult (.bin .Add (.bin .Add (.bin .Mod (.call 2 (.cons (.var 0) (.cons (.var 1) .nil))) (.int 1000003)) (.bin .Mult (.int 7919) (.var 1))) (.int 11)) (.int 48271)) (.int 1000033))) .nil)⟩
def OZ(Z:Gam):Prop:=∀(ns:Ac Ah)(k:Ah),Z.F 3 [scr ns,.int k]=.ok (.int (Ib ns k))
theorem dE(h2:Ua Z)(ns:Ac Ah)(k:Ah):N8.run Z [scr ns,.int k]=.ok (.int (Ib ns k)):=by
 simp[N8,Df.run,Bz,h2 ns k,FP,Ib]
noncomputable def N7:Df:=⟨2,Ad,(.cons (.ret (.idx (.lst (.cons (.int 3) (.cons (.int 5) (.cons (.int 7) (.cons (.int 11) .nil))))) (.bin .Mod (.bin .FloorDiv (.call 3 (.cons (.var 0) (.cons (.var 1) .nil))) (.int 16)) (.int 4)))) .nil)⟩
def SX(Z:Gam):Prop:=∀(ns:Ac Ah)(k:Ah),Z.F 4 [scr ns,.int k]=.ok (.int (Pf ns k))
theorem dC(h:OZ Z)(ns:Ac Ah)(k:Ah):N7.run Z [scr ns,.int k]=.ok (.int (Pf ns k)):=by
 simp[N7,Df.run,Bz,h ns k,bP];rfl
noncomputable def N6:Df:=⟨3,Ad,(.cons (.ret (.and (.cons (.isi (.var 0) [.int]) (.cons (.no (.isi (.var 0) [.bool])) (.cons (.cmp2 .LtE .LtE (.var 1) (.var 0) (.var 2)) .nil))))) .nil)⟩
def iQ(Z:Gam):Prop:=∀ x a b:Ah,Z.F 6 [.int x,.int a,.int b]=.ok (.bl (decide (a<=x)&&decide (x<=b)))
theorem dA(Z:Gam)(x a b:Ah):N6.run Z [.int x,.int a,.int b]=.ok (.bl (decide (a<=x)&&decide (x<=b))):=by
 simp[N6,Df.run,Bz];split<;>simp[*]
end OvC
end
namespace Ov
open PySem PySem.Spec PyProof.Rows L2
variable{K:Fg}{mg:Ag->Ao Aj}{x:Ag}{A B:Ak->Prop}{H H' H1 H0:Hp}{a b l q:Ak}{xs ys vs:Ac V}{v:V}{d:D}{Rp Rq:Hp->V->D->Prop}{r:R D}{Q:VK}{X:Cx}{e c tg iter elt:An}{U:Rho}{i n j k:Af}{Y:L2.St}{g:D->D->R D}{op:C5}{pI:Pn}{s:Ap}{its its2:Ac Aj}{items2:Bg Aj}{h h':AG}{u:Aj}{es ifs:Ac An}{fs fi:Rho->R (Ac D)}{Q':Ao Ah->Hp->Prop}{p pos' p2 pos pos2 tpos:AD}{T:CZ}{α:Type}{D':Ends}{fc:Rho->R Am}{body:Ac AJ}{fbd:Rho->O}{as:D->Rho->R Rho}{up:Af->Ac Af}{prog:AM}{w:AA}{scope:BN}{env:Ci}{cl:Ac (Ag×Ak)}{N':Ac Ag}{ts:Ac Af}{fp:Ac Ak}{tt:TT}{te:TE}{J:It}{wi:TI}{t:Am}
noncomputable def Nv:Af->Ag
 |0 => "Triple"
 |1 => "Point"
 |2 => "Line"
 |_ => ""
noncomputable def OC(K:Fg)(c:Af):Ao Ak:=if c<3 then (match Be K AR (Nv c) with
  |some (Aa (.ref C))=>Aa C
  | _=>Ae) else Ae
noncomputable def GL:Ac (Ag×Af×Ag):=[("0.told",0, "told"),("1.told",1, "told"),("2.told",2, "told"),("0.shown",0, "shown"),("1.shown",1, "shown"),("2.shown",2, "shown")]
noncomputable def H9(K:Fg)(mg:Ag->Ao Aj)(x:Ag):Ao Aj:=match GL.lookup x with
  |some (c,m)=>(OC K c).bind λC=>(Ar K (.ref C) m).join
  |none=>mg x
theorem Mz{v:Ao Aj}(h:H9 K mg x=v)(e:GL.lookup x=Ae):mg x=v:=by
 unfold H9 at h;rw[e]at h;exact h
theorem bD{m:Ag}{c:Af}{C:Ak}{v:Aj}(h:H9 K mg x=Aa v)(e:GL.lookup x=Aa (c,m))(hC:OC K c=Aa C):Ar K (.ref C) m=Aa (Aa v):=by
 unfold H9 at h;rw[e]at h;dsimp only at h;rw[hC]at h;have h':(Ar K (.ref C) m).join=Aa v:=h;cases q:Ar K (.ref C) m with
 |none=>rw[q]at h';cases h'
 |some u=>rw[q]at h';have:u=Aa v:=h';rw[this]
abbrev ClA:=Af->Ao Ak
variable{CL:ClA}
def KL(K:Fg)(a:Ak)(xs:Ac V):Prop:=∃(o:C9)(its:Bg Aj)(n:Af),K.lookup a=Aa o/\o.cls=.type "list"/\o.dict=Ae/\o.data=.seq its n/\its.size<=sizeLine/\A2 xs its.toList
def KT(K:Fg)(a:Ak)(xs:Ac V):Prop:=∃(o:C9)(its:Bg Aj)(n:Af),K.lookup a=Aa o/\o.cls=.type "tuple"/\o.data=.seq its n/\its.size<=sizeLine/\A2 xs its.toList
section
variable(K:Fg)(CL:ClA)(H:Hp)(A:Ak->Prop)
mutual
def Rep:V->D->Prop
 |v,.non=>v=.non
 |v,.bl b=>v=.bl b
 |v,.int i=>v=.int i
 |v,.str x=>v=.str x
 |v,.tup ds=>∃ a xs,v=.ref a/\(¬ A a\/KT K a xs)/\SqT K H a xs/\Reps xs ds
 |v,.lst ds=>∃ a xs,v=.ref a/\(¬ A a\/KL K a xs)/\SqL K H a xs/\Reps xs ds
 |v,.obj c fs=>∃ a C dx vs,v=.ref a/\¬ A a/\OC K c=Aa C/\H a=Aa (.ins C dx vs)/\Repf vs fs
 |_,.dic _=>AW
 |v,.exc c fs=>∃ a C φ,v=.ref a/\¬ A a/\CL c=Aa C/\H a=Aa (.ext φ)/\(∀ h,φ h->∃ o,h.get? a=Aa o/\o.cls=.ref C)/\(fs=[]\/∃ dx vs,¬ A dx/\H dx=Aa (.xd vs)/\Repf vs fs/\∀ h,φ h->∃ o,h.get? a=Aa o/\o.dict=Aa dx/\∃ us,o.data=.fields us)
def Reps:Ac V->Ac D->Prop
 |[],[]=>Hs
 |v::vs,d::ds=>Rep v d/\Reps vs ds
 |_,_=>AW
def Repf:Ac (Ag×V)->Ac (Ag×D)->Prop
 |[],[]=>Hs
 |v::vs,d::ds=>Repp v d/\Repf vs ds
 |_,_=>AW
def Repp:Ag×V->Ag×D->Prop
 |v,(n,d)=>v.1=n/\Rep v.2 d
end
def Cr(v:V)(d:D):Prop:=Rep K CL H A v d\/∃ a xs ds,v=.ref a/\d=.lst ds/\H a=Aa (.lst xs)/\Reps K CL H A xs ds
end
def Kp(A:Ak->Prop)(H H':Hp):Prop:=∀ b o,H b=Aa o->¬ A b->H' b=Aa o
def AOk(H:Hp)(A:Ak->Prop):Prop:=∀ a,A a->∃ xs,H a=Aa (.lst xs)
theorem Kp.of(h:Az H H'):Kp A H H':=λb o e _=>h b o e
theorem AOk.same(h:AOk H A)(s:Az H H'):AOk H' A:=λa ha=>let ⟨xs,e⟩:=h a ha;⟨xs,s _ _ e⟩
theorem AOk.new{p:Ak}(h:AOk H A)(e:H p=Ae):¬ A p:=λha=>by
 obtain⟨xs,q⟩:=h p ha;rw[e]at q;cases q
section
variable{K:Fg}{CL:ClA}{H H':Hp}{A B:Ak->Prop}
theorem Uv{u:HO}(k:Kp A H H')(na:¬ A a)(h:Rd H a u):Rd H' a u:=by
 rcases h with h|⟨o,h⟩
 .exact .inl (k _ _ h na)
 .exact .inr ⟨o,k _ _ h na⟩
theorem MV(k:Kp A H H')(na:¬ A a\/KL K a xs)(h:SqL K H a xs):SqL K H' a xs:=na.elim (λna=>h.imp (Uv k na) id) .inr
theorem MU(k:Kp A H H')(na:¬ A a\/KT K a xs)(h:SqT K H a xs):SqT K H' a xs:=na.elim (λna=>h.imp (Uv k na) id) .inr
mutual
theorem Rep.kp(k:Kp A H H'):∀{v:V}(d:D),Rep K CL H A v d->Rep K CL H' A v d
 |_,.non,h=>h
 |_,.bl _,h=>h
 |_,.int _,h=>h
 |_,.str _,h=>h
 |_,.dic _,h=>h.elim
 |_,.tup ds,h=>by
  obtain⟨a,xs,e,na,s,r⟩:=h;exact⟨a,xs,e,na,by first|exact MU k na s|exact MV k na s,Reps.kp k ds r⟩
 |_,.lst ds,h=>by
  obtain⟨a,xs,e,na,s,r⟩:=h;exact⟨a,xs,e,na,by first|exact MU k na s|exact MV k na s,Reps.kp k ds r⟩
 |_,.obj c fs,h=>by
  obtain⟨a,C,dx,vs,e,na,c,s,r⟩:=h;exact⟨a,C,dx,vs,e,na,c,k _ _ s na,Repf.kp k fs r⟩
 |_,.exc c fs,h=>by
  obtain⟨a,C,φ,e,na,c,s,p,q⟩:=h;refine⟨a,C,φ,e,na,c,k _ _ s na,p,q.imp id ?_⟩;rintro⟨dx,vs,nx,s2,r,z⟩;exact⟨dx,vs,nx,k _ _ s2 nx,Repf.kp k fs r,z⟩
theorem Reps.kp(k:Kp A H H'):∀{vs:Ac V}(ds:Ac D),Reps K CL H A vs ds->Reps K CL H' A vs ds
 |[],[],h=>h
 |_::_,d::ds,h=>⟨Rep.kp k d h.1,Reps.kp k ds h.2⟩
 |[],_::_,h=>h.elim
 |_::_,[],h=>h.elim
theorem Repf.kp(k:Kp A H H'):∀{vs:Ac (Ag×V)}(ds:Ac (Ag×D)),Repf K CL H A vs ds->Repf K CL H' A vs ds
 |[],[],h=>h
 |_::_,d::ds,h=>⟨Repp.kp k d h.1,Repf.kp k ds h.2⟩
 |[],_::_,h=>h.elim
 |_::_,[],h=>h.elim
theorem Repp.kp(k:Kp A H H'):∀{v:Ag×V}(d:Ag×D),Repp K CL H A v d->Repp K CL H' A v d
 |_,(_,d),h=>⟨h.1,Rep.kp k d h.2⟩
end
mutual
theorem Rep.sub(k:∀ a,B a->A a):∀{v:V}(d:D),Rep K CL H A v d->Rep K CL H B v d
 |_,.non,h=>h
 |_,.bl _,h=>h
 |_,.int _,h=>h
 |_,.str _,h=>h
 |_,.dic _,h=>h.elim
 |_,.tup ds,h=>by
  obtain⟨a,xs,e,na,s,r⟩:=h;exact⟨a,xs,e,na.imp (λna z=>na (k _ z)) id,s,Reps.sub k ds r⟩
 |_,.lst ds,h=>by
  obtain⟨a,xs,e,na,s,r⟩:=h;exact⟨a,xs,e,na.imp (λna z=>na (k _ z)) id,s,Reps.sub k ds r⟩
 |_,.obj c fs,h=>by
  obtain⟨a,C,dx,vs,e,na,c,s,r⟩:=h;exact⟨a,C,dx,vs,e,λz=>na (k _ z),c,s,Repf.sub k fs r⟩
 |_,.exc c fs,h=>by
  obtain⟨a,C,φ,e,na,c,s,p,q⟩:=h;refine⟨a,C,φ,e,λz=>na (k _ z),c,s,p,q.imp id ?_⟩
  rintro⟨dx,vs,nx,s2,r,z⟩;exact⟨dx,vs,λz=>nx (k _ z),s2,Repf.sub k fs r,z⟩
theorem Reps.sub(k:∀ a,B a->A a):∀{vs:Ac V}(ds:Ac D),Reps K CL H A vs ds->Reps K CL H B vs ds
 |[],[],h=>h
 |_::_,d::ds,h=>⟨Rep.sub k d h.1,Reps.sub k ds h.2⟩
 |[],_::_,h=>h.elim
 |_::_,[],h=>h.elim
theorem Repf.sub(k:∀ a,B a->A a):∀{vs:Ac (Ag×V)}(ds:Ac (Ag×D)),Repf K CL H A vs ds->Repf K CL H B vs ds
 |[],[],h=>h
 |_::_,d::ds,h=>⟨Repp.sub k d h.1,Repf.sub k ds h.2⟩
 |[],_::_,h=>h.elim
 |_::_,[],h=>h.elim
theorem Repp.sub(k:∀ a,B a->A a):∀{v:Ag×V}(d:Ag×D),Repp K CL H A v d->Repp K CL H B v d
 |_,(_,d),h=>⟨h.1,Rep.sub k d h.2⟩
end
mutual
theorem Rep.wide(hp:∀ a,B a->A a\/H a=Ae):∀{v:V}(d:D),Rep K CL H A v d->Rep K CL H B v d
 |_,.non,h=>h
 |_,.bl _,h=>h
 |_,.int _,h=>h
 |_,.str _,h=>h
 |_,.dic _,h=>h.elim
 |_,.tup ds,h=>by
  obtain⟨a,xs,e,na,s,r⟩:=h;refine⟨a,xs,e,?_,s,Reps.wide hp ds r⟩;rcases s with s|s
  .refine na.imp (λna z=>(hp _ z).elim na λe=>?_) id
   rcases s with s|⟨o,s⟩<;>rw[e]at s<;>cases s
  .exact .inr s
 |_,.lst ds,h=>by
  obtain⟨a,xs,e,na,s,r⟩:=h;refine⟨a,xs,e,?_,s,Reps.wide hp ds r⟩;rcases s with s|s
  .refine na.imp (λna z=>(hp _ z).elim na λe=>?_) id
   rcases s with s|⟨o,s⟩<;>rw[e]at s<;>cases s
  .exact .inr s
 |_,.obj c fs,h=>by
  obtain⟨a,C,dx,vs,e,na,c,s,r⟩:=h;exact⟨a,C,dx,vs,e,(λz=>(hp _ z).elim na λe=>by rw[e]at s;cases s),c,s,Repf.wide hp fs r⟩
 |_,.exc c fs,h=>by
  obtain⟨a,C,φ,e,na,c,s,p,q⟩:=h;refine⟨a,C,φ,e,(λz=>(hp _ z).elim na λe=>by rw[e]at s;cases s),c,s,p,q.imp id ?_⟩
  rintro⟨dx,vs,nx,s2,r,z⟩;exact⟨dx,vs,(λz=>(hp _ z).elim nx λe=>by rw[e]at s2;cases s2),s2,Repf.wide hp fs r,z⟩
theorem Reps.wide(hp:∀ a,B a->A a\/H a=Ae):∀{vs:Ac V}(ds:Ac D),Reps K CL H A vs ds->Reps K CL H B vs ds
 |[],[],h=>h
 |_::_,d::ds,h=>⟨Rep.wide hp d h.1,Reps.wide hp ds h.2⟩
 |[],_::_,h=>h.elim
 |_::_,[],h=>h.elim
theorem Repf.wide(hp:∀ a,B a->A a\/H a=Ae):∀{vs:Ac (Ag×V)}(ds:Ac (Ag×D)),Repf K CL H A vs ds->Repf K CL H B vs ds
 |[],[],h=>h
 |_::_,d::ds,h=>⟨Repp.wide hp d h.1,Repf.wide hp ds h.2⟩
 |[],_::_,h=>h.elim
 |_::_,[],h=>h.elim
theorem Repp.wide(hp:∀ a,B a->A a\/H a=Ae):∀{v:Ag×V}(d:Ag×D),Repp K CL H A v d->Repp K CL H B v d
 |_,(_,d),h=>⟨h.1,Rep.wide hp d h.2⟩
end
theorem Rep.same(s:Az H H')(h:Rep K CL H A v d):Rep K CL H' A v d:=Rep.kp (Kp.of s) d h
theorem Reps.same{v:Ac V}{d:Ac D}(s:Az H H')(h:Reps K CL H A v d):Reps K CL H' A v d:=Reps.kp (Kp.of s) d h
theorem Cr.same{v:V}{d:D}(s:Az H H')(h:Cr K CL H A v d):Cr K CL H' A v d:=by
 rcases h with h|⟨a,xs,ds,e,e2,q,r⟩
 .exact .inl (h.same s)
 .exact .inr ⟨a,xs,ds,e,e2,s _ _ q,r.same s⟩
theorem Reps.length:∀{vs:Ac V}{ds:Ac D},Reps K CL H A vs ds->vs.length=ds.length
 |[],[],_=>rfl
 |_::_,_::_,h=>congrArg (· + 1) (Reps.length h.2)
 |[],_::_,h=>h.elim
 |_::_,[],h=>h.elim
theorem Reps.append:∀{vs ws:Ac V}{ds es:Ac D},Reps K CL H A vs ds->Reps K CL H A ws es->Reps K CL H A (vs++ws) (ds++es)
 |[],_,[],_,_,h=>h
 |_::_,_,_::_,_,h,g=>⟨h.1,Reps.append h.2 g⟩
 |[],_,_::_,_,h,_=>h.elim
 |_::_,_,[],_,h,_=>h.elim
theorem Reps.get:∀{vs:Ac V}{ds:Ac D}{i:Af}{d:D},Reps K CL H A vs ds->ds[i]?=Aa d->∃ v,vs[i]?=Aa v/\Rep K CL H A v d
 |[],[],_,_,_,e=>by simp at e
 |v::_,_::_,0,_,h,e=>by simp at e;subst e;exact⟨v,rfl,h.1⟩
 |_::_,_::_,i+1,_,h,e=>by
  obtain⟨v,q,r⟩:=Reps.get (i:=i) h.2 (by simpa using e)
  exact⟨v,by simpa using q,r⟩
 |[],_::_,_,_,h,_=>h.elim
 |_::_,[],_,_,h,_=>h.elim
theorem Reps.take:∀{vs:Ac V}{ds:Ac D}(n:Af),Reps K CL H A vs ds->Reps K CL H A (vs.take n) (ds.take n)
 |_,_,0,_=>trivial
 |[],[],_+1,_=>trivial
 |_::_,_::_,n+1,h=>⟨h.1,Reps.take n h.2⟩
 |[],_::_,_+1,h=>h.elim
 |_::_,[],_+1,h=>h.elim
theorem Reps.drop:∀{vs:Ac V}{ds:Ac D}(n:Af),Reps K CL H A vs ds->Reps K CL H A (vs.drop n) (ds.drop n)
 |_,_,0,h=>h
 |[],[],_+1,_=>trivial
 |_::_,_::_,n+1,h=>Reps.drop n h.2
 |[],_::_,_+1,h=>h.elim
 |_::_,[],_+1,h=>h.elim
theorem Reps.set{x:V}{e:D}(r:Rep K CL H A x e):∀{vs:Ac V}{ds:Ac D}(n:Af),Reps K CL H A vs ds->Reps K CL H A (vs.set n x) (ds.set n e)
 |[],[],_,_=>trivial
 |_::_,_::_,0,h=>⟨r,h.2⟩
 |_::_,_::_,n+1,h=>⟨h.1,Reps.set r n h.2⟩
 |[],_::_,_,h=>h.elim
 |_::_,[],_,h=>h.elim
end
structure Good (K:Fg) (CL:ClA) (A:Ak->Prop) (U:Rho) (Y:L2.St) (H:Hp):Prop where
 sh:∀(i:Af)(d:D),U[i]?=Aa (Aa (d,Ad))->∃ v,Y[i]?=Aa (Aa v)/\Rep K CL H A v d
 ow:∀(i:Af)(d:D),U[i]?=Aa (Aa (d,Ab))->d≠.non->∃ a xs ds,Y[i]?=Aa (Aa (.ref a))/\d=.lst ds/\A a/\H a=Aa (.lst xs)/\Reps K CL H A xs ds
 len:U.length=Y.length
theorem Good.same{K:Fg}{CL:ClA}{A:Ak->Prop}{U:Rho}{Y:L2.St}{H H':Hp}(g:Good K CL A U Y H)(s:Az H H'):Good K CL A U Y H':=
 ⟨λi d e=>let ⟨v,q,r⟩:=g.sh i d e;⟨v,q,r.same s⟩,λi d e hn=>let ⟨a,xs,ds,q,z,na,h,r⟩:=g.ow i d e hn;⟨a,xs,ds,q,z,na,s _ _ h,r.same s⟩,g.len⟩
abbrev XW:=Ex->Hp->Prop
variable{W:XW}
def AS(Rp:Hp->V->D->Prop)(W:XW)(H:Hp)(r:R D)(Q:VK):Prop:=match r with
  |.ok d=>∀ v H',Az H H'->Rp H' v d->Q v H'
  |.exn x=>∀ H',Az H H'->W x H'
  |.bad=>AW
def Hv(Rp:Hp->Ac V->Ac D->Prop)(W:XW)(H:Hp)(r:R (Ac D))(Q:Ac V->Hp->Prop):Prop:=match r with
  |.ok d=>∀ v H',Az H H'->Rp H' v d->Q v H'
  |.exn x=>∀ H',Az H H'->W x H'
  |.bad=>AW
def CK(W:XW)(H:Hp)(r:R Am)(Q:Am->Hp->Prop):Prop:=match r with
  |.ok b=>∀ H',Az H H'->Q b H'
  |.exn x=>∀ H',Az H H'->W x H'
  |.bad=>AW
theorem AS.same(s:Az H H')(h:AS Rp W H r Q):AS Rp W H' r Q:=by
 cases r with
 |ok d=>exact λv H2 s2 q=>h v H2 (s.trans s2) q
 |exn x=>exact λH2 s2=>h H2 (s.trans s2)
 |bad=>exact h
theorem CK.same{r:R Am}{Q:Am->Hp->Prop}(s:Az H H')(h:CK W H r Q):CK W H' r Q:=by
 cases r with
 |ok d=>exact λH2 s2=>h H2 (s.trans s2)
 |exn x=>exact λH2 s2=>h H2 (s.trans s2)
 |bad=>exact h
theorem AS.bind{f:D->R D}{Q':VK}(h:AS Rq W H (r.bind f) Q)(k:∀ d v H',r=.ok d->Az H H'->Rp H' v d->AS Rq W H' (f d) Q->Q' v H'):AS Rp W H r Q':=by
 cases r with
 |ok d=>exact λv H2 s2 q=>k d v H2 rfl s2 q (AS.same s2 h)
 |exn x=>exact h
 |bad=>exact h
section
variable(X:Cx)(CL:ClA)(W:XW)
def SE(e:An)(f:Rho->R D):Prop:=∀ A,PE X e (λY H Q=>AOk H A/\∃ U,Good X.K CL A U Y H/\AS (λH=>Rep X.K CL H A) W H (f U) Q)
def ST(e:An)(f:Rho->R D):Prop:=∀ A,PE X e (λY H Q=>AOk H A/\∃ U,Good X.K CL A U Y H/\AS (λH=>Cr X.K CL H A) W H (f U) Q)
def SB(e:An)(f:Rho->R Am):Prop:=∀ A,PT X e (λY H Q=>AOk H A/\∃ U,Good X.K CL A U Y H/\CK W H (f U) Q)
def SA(es:Ac An)(f:Rho->R (Ac D)):Prop:=∀ A,PA X es (λY H Q=>AOk H A/\∃ U,Good X.K CL A U Y H/\Hv (λH=>Reps X.K CL H A) W H (f U) Q)
end
theorem PE.weak{t t':TE}(h:PE X e t)(k:∀ Y H Q,t' Y H Q->t Y H Q):PE X e t':=λpI s Y H Q I q=>h pI s Y H Q I (k _ _ _ q)
theorem PT.weak{t t':TT}(h:PT X e t)(k:∀ Y H Q,t' Y H Q->t Y H Q):PT X e t':=λpI s Y H Q I q=>h pI s Y H Q I (k _ _ _ q)
theorem PA.weak{e:Ac An}{t t':TA}(h:PA X e t)(k:∀ Y H Q,t' Y H Q->t Y H Q):PA X e t':=λpos pI s Y H Q I q=>h pos pI s Y H Q I (k _ _ _ q)
noncomputable def OpD(X:Cx)(CL:ClA)(W:XW)(f:Aj->Aj->FJ Aj)(g:D->D->R D):Prop:=
 ∀ A,OpR X f (λx y H Q=>AOk H A/\∃ dx dy,Cr X.K CL H A x dx/\Cr X.K CL H A y dy/\AS (λH=>Rep X.K CL H A) W H (g dx dy) Q)
section
variable{X:Cx}{CL:ClA}{W:XW}{a b c:An}{fa fb fc:Rho->R D}{pos:AD}
theorem SE.st(h:SE X CL W a fa):ST X CL W a fa:=λA=>PE.weak (h A) λY H Q ⟨hA,U,g,p⟩=>⟨hA,U,g,by
 cases e:fa U with
 |ok d=>rw[e]at p;exact λv H' s r=>p v H' s (.inl r)
 |exn x=>rw[e]at p;exact p
 | bad=>rw[e]at p;exact p⟩
theorem SE.congr{f g:Rho->R D}(h:SE X CL W a f)(e:∀ U,g U=f U):SE X CL W a g:=λA=>PE.weak (h A) λY H Q ⟨hA,U,q,p⟩=>⟨hA,U,q,by rw[<-e];exact p⟩
theorem MZ(h:PE X a (tC v))(r:∀ H A,AOk H A->Rep X.K CL H A v d):SE X CL W a (λ_=>.ok d):=λA=>PE.weak h λY H Q ⟨hA,U,g,p⟩=>p v H (Az.refl H) (r H A hA)
theorem lZ{i j}:SE X CL W (.Constant (.int i) j pos) (λ_=>.ok (.int i)):=MZ lP λ_ _ _=>rfl
theorem Us{b j}:SE X CL W (.Constant (.bool b) j pos) (λ_=>.ok (.bl b)):=MZ sU λ_ _ _=>rfl
theorem T5{j}:SE X CL W (.Constant .none j pos) (λ_=>.ok .non):=MZ lN λ_ _ _=>rfl
theorem MW{x j}:SE X CL W (.Constant (.str x) j pos) (λ_=>.ok (.str x)):=MZ MM λ_ _ _=>rfl
theorem eW(h:FR U i=.ok d):U[i]?=Aa (Aa (d,Ad)):=by
 unfold FR at h;split at h
 .rename_i e;cases h;exact e
 .cases h
theorem R9(h:DV U i=.ok d):∃ o,U[i]?=Aa (Aa (d,o))/\(o=Ab->d≠.non):=by
 unfold DV at h;split at h
 .rename_i e;cases h;exact⟨_,e,λz=>nomatch z⟩
 .rename_i x e;cases x with
  |lst xs=>cases h;exact⟨_,e,λ_ z=>nomatch z⟩
  |_=>cases h
 .cases h
theorem Z_4{x:Ex}(h:FR U i=.exn x):AW:=by
 unfold FR at h;split at h<;>cases h
theorem Lu{x:Ex}(h:DV U i=.exn x):AW:=by
 unfold DV at h;split at h
 .cases h
 .rename_i y _;cases y<;>cases h
 .cases h
theorem jJ(h:PE X a (EX i)):SE X CL W a (λU=>FR U i):=λA=>PE.weak h λY H Q ⟨hA,U,g,p⟩=>by
 dsimp only at p;cases e:FR U i with
 |ok d=>
  rw[e]at p;obtain⟨v,q,r⟩:=g.sh i d (eW e);exact⟨v,q,p v H (Az.refl H) r⟩
 |exn x=>exact(Z_4 e).elim
 |bad=>rw[e]at p;exact p.elim
theorem II(h:PE X a (EX i)):ST X CL W a (λU=>DV U i):=λA=>PE.weak h λY H Q ⟨hA,U,g,p⟩=>by
 dsimp only at p;cases e:DV U i with
 |ok d=>
  rw[e]at p;obtain⟨o,e,hn⟩:=R9 e;cases o with
  |false=>
   obtain⟨v,q,r⟩:=g.sh i d e;exact⟨v,q,p v H (Az.refl H) (.inl r)⟩
  |true=>
   obtain⟨x,xs,ds,q,rfl,ha,hh,r⟩:=g.ow i d e (hn rfl);exact⟨_,q,p _ H (Az.refl H) (.inr ⟨x,xs,ds,rfl,rfl,hh,r⟩)⟩
 |exn x=>exact(Lu e).elim
 |bad=>rw[e]at p;exact p.elim
theorem op2(h:AOk H A/\∃ U,Good X.K CL A U Y H/\AS Rq W H ((fa U).bind λx=>(fb U).bind λy=>g x y) Q):AOk H A/\∃ U,Good X.K CL A U Y H/\AS (λH=>Cr X.K CL H A) W H (fa U) (λx H1=>AOk H1 A/\∃ U,Good X.K CL A U Y H1/\AS (λH=>Cr X.K CL H A) W H1 (fb U) (λy H2=>AOk H2 A/\∃ dx dy,Cr X.K CL H2 A x dx/\Cr X.K CL H2 A y dy/\AS Rq W H2 (g dx dy) Q)):=by
 obtain⟨hA,U,gd,p⟩:=h;refine⟨hA,U,gd,AS.bind p λdx x H1 _ s1 r1 p1=>⟨hA.same s1,U,gd.same s1,AS.bind p1 λdy y H2 _ s2 r2 p2=>⟨(hA.same s1).same s2,dx,dy,r1.same s2,r2,p2⟩⟩⟩
theorem Pb{op:Fq}(ho:OpD X CL W (B6 op) g)(ha:ST X CL W a fa)(hb:ST X CL W b fb):SE X CL W (.BinOp a op b pos) (λU=>(fa U).bind λx=>(fb U).bind λy=>g x y):=
 λA=>PE.weak (Um (ho A) (ha A) (hb A)) λY H Q h=>op2 h
theorem mC(ho:OpD X CL W (Cw op) g)(ha:ST X CL W a fa)(hb:ST X CL W b fb)(hm:GY op b=Ad):SE X CL W (.Compare a [op] [b] pos) (λU=>(fa U).bind λx=>(fb U).bind λy=>g x y):=
 λA=>PE.weak (gS (ho A) (ha A) (hb A) hm) λY H Q h=>op2 h
theorem Cr.int_of{i:Ah}(h:Cr K CL H A v (.int i)):v=.int i:=by
 rcases h with h|⟨_,_,_,_,e,_⟩
 .exact h
 .cases e
theorem Cr.str_of{i:Ag}(h:Cr K CL H A v (.str i)):v=.str i:=by
 rcases h with h|⟨_,_,_,_,e,_⟩
 .exact h
 .cases e
theorem Cr.bl_of{i:Am}(h:Cr K CL H A v (.bl i)):v=.bl i:=by
 rcases h with h|⟨_,_,_,_,e,_⟩
 .exact h
 .cases e
theorem Cr.non_of(h:Cr K CL H A v .non):v=.non:=by
 rcases h with h|⟨_,_,_,_,e,_⟩
 .exact h
 .cases e
theorem Cr.lst_of{ds:Ac D}(h:Cr K CL H A v (.lst ds)):∃ a xs,v=.ref a/\SqL K H a xs/\Reps K CL H A xs ds:=by
 rcases h with ⟨a,xs,e,_,s,r⟩|⟨a,xs,es,rfl,e,s,r⟩
 .exact⟨a,xs,e,s,r⟩
 .cases e;exact⟨a,xs,rfl,SqL.of s,r⟩
theorem Cr.tup_of{ds:Ac D}(h:Cr K CL H A v (.tup ds)):∃ a xs,v=.ref a/\(¬ A a\/KT K a xs)/\SqT K H a xs/\Reps K CL H A xs ds:=by
 rcases h with ⟨a,xs,e,n,s,r⟩|⟨_,_,_,_,e,_⟩
 .exact⟨a,xs,e,n,s,r⟩
 .cases e
theorem fT{i j:Ah}(h:FP i j=Ab):NC i j:=by
 unfold FP at h;simp only[B8,Al,AE]at h;unfold NC;omega
theorem S8{a:Ah}(h:a.natAbs<2 ^ 2000):Ww a<=2 ^ 20:=by
 unfold Ww;split
 .omega
 .rename_i hz;have h0:a.natAbs≠0:=by intro z;exact hz (by rw[Int.natAbs_eq_zero.mp z];rfl)
  have:=(Nat.log2_lt h0).mpr h;omega
theorem fS{i j:Ah}(h:(FP i j||Ni i j)=Ab):Lc i j:=by
 rcases Bool.or_eq_true_iff.mp h with h|h
 .exact(fT h).ok
 .unfold Ni at h;rw[Al,AE,AE]at h;exact .of_bits (S8 h.1) (S8 h.2)
theorem hU:OpR X (B6 .Mult) (rI Lc λi j=>.int (i*j)):=opI λ_ _ _ _ _ _ _ hc q=>mul_int q hc
theorem JN(h:Cd n=Ab):n<=sizeLine:=by
 unfold Cd at h;rw[Cj];have:=BD h;omega
theorem Sw{p:Ak}{ds:Ac D}(hA:AOk H A)(hp:H p=Ae)(r:Reps K CL H A xs ds):Rep K CL (upd H p (.lst xs)) A (.ref p) (.lst ds):=
 ⟨p,xs,rfl,.inl (hA.new hp),SqL.of DJ,r.same λb o e=>by rw[Bj (FO e hp)];exact e⟩
theorem Kx{p:Ak}{ds:Ac D}(hA:AOk H A)(hp:H p=Ae)(r:Reps K CL H A xs ds):Rep K CL (upd H p (.tup xs)) A (.ref p) (.tup ds):=
 ⟨p,xs,rfl,.inl (hA.new hp),SqT.of DJ,r.same λb o e=>by rw[Bj (FO e hp)];exact e⟩
theorem ET{p:Ak}(h:H p=Ae)(o:HO):Az H (upd H p o):=λb u q=>by rw[Bj (FO q h)];exact q
def sM(K:Fg):R2:=λx y H Q=>∃ l b xs zs,x=.ref l/\y=.ref b/\SqL K H l xs/\SqL K H b zs/\xs.length+zs.length<=sizeLine/\∀ p,H p=Ae->Q (.ref p) (upd H p (.lst (xs++zs)))
end
section
variable{X:Cx}{CL:ClA}{W:XW}
theorem Sq:OpR X (B6 .Add) (sM X.K):=by
 intro pI s Y H x y v u Q I rx ry h;obtain⟨l,b,xs,zs,rfl,rfl,hH,hB,hz,q⟩:=h;cases rx;cases ry;obtain⟨its,r,⟨o,n,e,c,dd,dt⟩,z⟩:=I.list hH;obtain⟨its2,r2,⟨o2,n2,e2,c2,dd2,dt2⟩,z2⟩:=I.list hB;have hl:=r.length;have hl2:=r2.length;obtain⟨cls,dd0,data,sl⟩:=o;obtain⟨cls2,dd02,data2,sl2⟩:=o2;simp only at c dd dt c2 dd2 dt2;subst c dd dt c2 dd2 dt2;have ea:its.toArray++its2.toArray=(its++its2).toArray:=by simp
 refine Jl ⟨_,e,rfl⟩ ⟨_,e2,rfl⟩ noFill_list_add seq_list_add PySem.F.slot_list_add PySem.F.entry_list_add (PySem.F.args_list_add_2 _ _) (list_addW l b its.toArray its2.toArray n n2 Ae Ae sl sl2 (by simp;omega)) ⟨e,e2,?_⟩
 rw[ea];exact⟨.ref _,_,I.lnew (t':=s.toks) (r.append r2) (by rw[BS];omega),rfl,q _ I.fresh⟩
theorem So:OpD X CL W (B6 .Add) (CF .Add):=by
 intro A pI s Y H x y v u Q I rx ry ⟨hA,dx,dy,hx,hy,p⟩;cases dx with
 |int i=>
  cases dy with
  |int j=>
   have ex:=hx.int_of;have ey:=hy.int_of
   subst ex ey;exact lV pI s Y H _ _ v u Q I rx ry ⟨i,j,rfl,rfl,p _ H (Az.refl H) rfl⟩
  |_=>exact p.elim
 |str i=>
  cases dy with
  |str j=>
   have ex:=hx.str_of;have ey:=hy.str_of
   subst ex ey;simp only[Fb]at p;split at p
   .rename_i h;exact Zi pI s Y H _ _ v u Q I rx ry ⟨i,j,rfl,rfl,JN h,p _ H (Az.refl H) rfl⟩
   .exact p.elim
  |_=>exact p.elim
 |lst ds=>
  cases dy with
  |lst es=>
   obtain⟨a,xs,rfl,s1,r1⟩:=hx.lst_of;obtain⟨b,ys,rfl,s2,r2⟩:=hy.lst_of;simp only[Gq]at p;split at p
   .rename_i h;refine Sq pI s Y H _ _ v u Q I rx ry ⟨a,b,xs,ys,rfl,rfl,s1,s2,by rw[r1.length,r2.length];exact JN h,λq hq=>?_⟩
    exact p _ _ (ET hq _) (Sw hA hq (r1.append r2))
   .exact p.elim
  |_=>exact p.elim
 |tup ds=>
  cases dy with
  |tup es=>
   obtain⟨a,xs,rfl,na1,s1,r1⟩:=hx.tup_of;obtain⟨b,ys,rfl,_,s2,r2⟩:=hy.tup_of;simp only[T7]at p;split at p
   .rename_i h;simp only[Al]at h;refine fL pI s Y H _ _ v u Q I rx ry ⟨a,b,xs,ys,rfl,rfl,s1,s2,?_,by rw[r1.length,r2.length];exact JN h.2,λhy0=>?_,λ_ q hq=>?_⟩
    .rintro rfl;cases ds with
     |nil=>cases h.1
     |cons _ _=>exact r1.elim
    .subst hy0;cases es with
     |nil=>rw[CC]at p;exact p _ H (Az.refl H) ⟨a,xs,rfl,na1,s1,r1⟩
     |cons _ _=>exact r2.elim
    .exact p _ _ (ET hq _) (Kx hA hq (r1.append r2))
   .exact p.elim
  |_=>exact p.elim
 |_=>exact p.elim
theorem MD{op:Fq}{C:Ah->Ah->Prop}{g:Ah->Ah->Ah}(ho:OpR X (B6 op) (rI C λi j=>.int (g i j)))(hg:∀ dx dy,(∃ i j,dx=.int i/\dy=.int j/\((C i j/\CF op dx dy=.ok (.int (g i j)))\/CF op dx dy=.bad))\/CF op dx dy=.bad):OpD X CL W (B6 op) (CF op):=by
 intro A pI s Y H x y v u Q I rx ry ⟨hA,dx,dy,hx,hy,p⟩;rcases hg dx dy with ⟨i,j,rfl,rfl,⟨c,e⟩|e⟩|e
 .have ex:=hx.int_of;have ey:=hy.int_of
  subst ex ey;rw[e]at p;exact ho pI s Y H _ _ v u Q I rx ry ⟨i,j,rfl,rfl,c,p _ H (Az.refl H) rfl⟩
 .rw[e]at p;exact p.elim
 .rw[e]at p;exact p.elim
theorem gW:OpD X CL W (B6 .Sub) (CF .Sub):=by
 intro A pI s Y H x y v u Q I rx ry ⟨hA,dx,dy,hx,hy,p⟩;cases dx with
 |int i=>
  cases dy with
  |int j=>
   have ex:=hx.int_of;have ey:=hy.int_of
   subst ex ey;exact lR pI s Y H _ _ v u Q I rx ry ⟨i,j,rfl,rfl,p _ H (Az.refl H) rfl⟩
  |_=>exact p.elim
 |_=>exact p.elim
theorem gY:OpD X CL W (B6 .Mult) (CF .Mult):=MD hU λdx dy=>by
 cases dx with
 |int i=>
  cases dy with
  |int j=>
   refine .inl ⟨i,j,rfl,rfl,?_⟩;rw[kY];split
   .rename_i h;exact .inl ⟨fS h,rfl⟩
   .exact .inr rfl
  |_=>exact .inr rfl
 |_=>exact .inr rfl
theorem cA:OpD X CL W (B6 .FloorDiv) (CF .FloorDiv):=MD hV λdx dy=>by
 cases dx with
 |int i=>
  cases dy with
  |int j=>
   refine .inl ⟨i,j,rfl,rfl,?_⟩;rw[iZ];split
   .rename_i h;exact .inl ⟨h,rfl⟩
   .exact .inr rfl
  |_=>exact .inr rfl
 |_=>exact .inr rfl
theorem gZ:OpD X CL W (B6 .Mod) (CF .Mod):=MD lT λdx dy=>by
 cases dx with
 |int i=>
  cases dy with
  |int j=>
   refine .inl ⟨i,j,rfl,rfl,?_⟩;rw[kZ];split
   .rename_i h;exact .inl ⟨h,rfl⟩
   .exact .inr rfl
  |_=>exact .inr rfl
 |_=>exact .inr rfl
theorem gX:OpD X CL W (B6 .Pow) (CF .Pow):=MD lS λdx dy=>by
 cases dx with
 |int i=>
  cases dy with
  |int j=>
   refine .inl ⟨i,j,rfl,rfl,?_⟩;rw[lI];split
   .rename_i h;exact .inl ⟨⟨h.1.1,h.1.2,by omega⟩,rfl⟩
   .exact .inr rfl
  |_=>exact .inr rfl
 |_=>exact .inr rfl
theorem ON(op:Fq):OpD X CL W (B6 op) (CF op):=by
 cases op with
 |Add=>exact So
 |Sub=>exact gW
 |Mult=>exact gY
 |FloorDiv=>exact cA
 |Mod=>exact gZ
 |Pow=>exact gX
 |_=>
  intro A pI s Y H x y v u Q I rx ry ⟨hA,dx,dy,hx,hy,p⟩;exact p.elim
noncomputable abbrev A0:Ak->Prop:=λ_=>AW
theorem Cr.plain(h:Cr K CL H A v d):Rep K CL H A0 v d:=by
 rcases h with h|⟨a,xs,ds,rfl,rfl,e,r⟩
 .exact Rep.sub (λ_ z=>z.elim) d h
 .exact⟨a,xs,rfl,.inl λz=>z.elim,SqL.of e,Reps.sub (λ_ z=>z.elim) ds r⟩
mutual
theorem aU:∀(n:Af)(d:D),flD n d=Ab->eqD d d=Ab
 |_,.non,_=>rfl
 |_,.bl b,_=>by simp
 |_,.int i,_=>by simp
 |_,.str x,_=>by simp
 |n+1,.tup ds,h=>by
  show eqDs ds ds=Ab;exact eqDs_refl n ds h
 |n+1,.lst ds,h=>by
  show eqDs ds ds=Ab;exact eqDs_refl n ds h
 |0,.tup ds,h=>by cases h
 |0,.lst ds,h=>by cases h
 |n,.obj _ _,h=>by cases n<;>cases h
 |n,.exc _ _,h=>by cases n<;>cases h
 |n,.dic _,h=>by cases n<;>cases h
theorem eqDs_refl:∀(n:Af)(ds:Ac D),ds.all (flD n)=Ab->eqDs ds ds=Ab
 |_,[],_=>rfl
 |n,d::ds,h=>by
  simp only[Dm,Al]at h;simp only[Oc,Al];exact⟨aU n d h.1,eqDs_refl n ds h.2⟩
end
theorem QW(I:Inv X pI Y H s)(h:SqL X.K H a xs)(h':SqT X.K H a ys):AW:=by
 obtain⟨its,r,⟨o,n,e,c,_,_⟩,_⟩:=I.list h;obtain⟨its',r',⟨o',e',c',_⟩,_⟩:=I.tuple h';rw[e]at e';cases e';rw[c]at c'
 injection c' with z
 exact absurd z (by decide)
mutual
theorem LB{pI:Pn}{Y:L2.St}{H:Hp}{s:Ap}(I:Inv X pI Y H s):∀(n:Af)(d e:D){v:V},flD n d=Ab->flD n e=Ab->Rep X.K CL H A0 v d->Rep X.K CL H A0 v e->d=e
 |n,.tup ds,e,v,hd,he,r,q=>by
  obtain⟨a,xs,rfl,_,s1,r1⟩:=r;cases e with
  |tup es=>
   obtain⟨b,ys,e,_,s2,r2⟩:=q;cases e;have z:=I.tuple_inj s1 s2;subst z;cases n with
   |zero=>cases hd
   |succ n=>rw[reps_inj I n ds es hd he r1 r2]
  |lst es=>
   obtain⟨b,ys,e,_,s2,r2⟩:=q;cases e;exact(QW I s2 s1).elim
  |obj=>cases n<;>cases he
  |exc=>cases n<;>cases he
  |dic=>cases n<;>cases he
  |_=>cases q
 |n,.lst ds,e,v,hd,he,r,q=>by
  obtain⟨a,xs,rfl,_,s1,r1⟩:=r;cases e with
  |lst es=>
   obtain⟨b,ys,e,_,s2,r2⟩:=q;cases e;have z:=I.list_inj s1 s2;subst z;cases n with
   |zero=>cases hd
   |succ n=>rw[reps_inj I n ds es hd he r1 r2]
  |tup es=>
   obtain⟨b,ys,e,_,s2,r2⟩:=q;cases e;exact(QW I s1 s2).elim
  |obj=>cases n<;>cases he
  |exc=>cases n<;>cases he
  |dic=>cases n<;>cases he
  |_=>cases q
 |n,.obj _ _,e,v,hd,he,r,q=>by cases n<;>cases hd
 |n,.exc _ _,e,v,hd,he,r,q=>by cases n<;>cases hd
 |n,.dic _,e,v,hd,he,r,q=>by cases n<;>cases hd
 |n,.non,e,v,hd,he,r,q=>by
  cases r;cases e with
  |tup=>obtain⟨_,_,z,_⟩:=q;cases z
  |lst=>obtain⟨_,_,z,_⟩:=q;cases z
  |obj=>cases n<;>cases he
  |exc=>cases n<;>cases he
  |dic=>cases n<;>cases he
  |_=>cases q<;>rfl
 |n,.bl b,e,v,hd,he,r,q=>by
  cases r;cases e with
  |tup=>obtain⟨_,_,z,_⟩:=q;cases z
  |lst=>obtain⟨_,_,z,_⟩:=q;cases z
  |obj=>cases n<;>cases he
  |exc=>cases n<;>cases he
  |dic=>cases n<;>cases he
  |_=>cases q<;>rfl
 |n,.int b,e,v,hd,he,r,q=>by
  cases r;cases e with
  |tup=>obtain⟨_,_,z,_⟩:=q;cases z
  |lst=>obtain⟨_,_,z,_⟩:=q;cases z
  |obj=>cases n<;>cases he
  |exc=>cases n<;>cases he
  |dic=>cases n<;>cases he
  |_=>cases q<;>rfl
 |n,.str b,e,v,hd,he,r,q=>by
  cases r;cases e with
  |tup=>obtain⟨_,_,z,_⟩:=q;cases z
  |lst=>obtain⟨_,_,z,_⟩:=q;cases z
  |obj=>cases n<;>cases he
  |exc=>cases n<;>cases he
  |dic=>cases n<;>cases he
  |_=>cases q<;>rfl
theorem reps_inj{pI:Pn}{Y:L2.St}{H:Hp}{s:Ap}(I:Inv X pI Y H s):∀(n:Af)(ds es:Ac D){xs:Ac V},ds.all (flD n)=Ab->es.all (flD n)=Ab->Reps X.K CL H A0 xs ds->Reps X.K CL H A0 xs es->ds=es
 |_,[],[],_,_,_,_,_=>rfl
 |n,d::ds,e::es,x::xs,hd,he,r,q=>by
  simp only[Dm,Al]at hd he;rw[LB I n d e hd.1 he.1 r.1 q.1,reps_inj I n ds es hd.2 he.2 r.2 q.2]
 |_,[],_::_,[],_,_,_,q=>q.elim
 |_,[],_::_,_::_,_,_,r,_=>r.elim
 |_,_::_,[],[],_,_,r,_=>r.elim
 |_,_::_,[],_::_,_,_,_,q=>q.elim
 |_,_::_,_::_,[],_,_,r,_=>r.elim
end
theorem Lr:∀{ds es:Ac D},ds.length≠es.length->eqDs ds es=Ad
 |[],[],h=>absurd rfl h
 |[],_::_,_=>rfl
 |_::_,[],_=>rfl
 |d::ds,e::es,h=>by
  simp only[Oc,Lr (ds:=ds) (es:=es) (by simpa using h),Ig]
theorem QA(n:Af)(f:Af->Am):(Ba (n+1)).all f=(f 0&&(Ba n).all λj=>f (j+1)):=by
 rw[Wf,Dm,D3];rfl
theorem Ls:∀{ds es:Ac D},ds.length=es.length->eqDs ds es=(Ba ds.length).all λj=>eqD (ds.getD j .non) (es.getD j .non)
 |[],[],_=>rfl
 |d::ds,e::es,h=>by
  rw[Oc,Ls (ds:=ds) (es:=es) (by simpa using h),A7,QA]
  rfl
 |[],_::_,h=>by cases h
 |_::_,[],h=>by cases h
theorem IG{ds:Ac D}(r:Reps K CL H A0 xs ds)(rv:A2 xs its)(h:j<its.length):∃ x,Rep K CL H A0 x (ds.getD j .non)/\Bu x its[j]:=by
 have e1:=rv.length;have e2:=r.length;have hd:ds[j]?=Aa (ds.getD j .non):=by
  rw[C4,Bc (by omega)];rfl
 obtain⟨x,hx,q⟩:=r.get hd;obtain⟨u,hu,ru⟩:=rv.get hx;refine⟨x,q,?_⟩;rw[Bc h]at hu;cases hu;exact ru
theorem HU{ds:Ac D}(h:ds.all (flD n)=Ab)(j:Af):flD n (ds.getD j .non)=Ab:=by
 rw[C4];cases e:ds[j]? with
 |none=>cases n<;>rfl
 |some d=>exact Br.mp h d (Wd e)
def CB(B:AU)(s:Ap)(u t:Aj)(k:Am):Prop:=Kd B s u t k/\El B s u t k/\Jg B s u t (!k)
section
variable{B:AU}{s:Ap}
open SeqAt
theorem qZ:CB B s .none .none Ab:=⟨RcAt.none_none,EqAt.same _,RcNeAt.none_none⟩
theorem sC(a b:Am):CB B s (.bool a) (.bool b) (a==b):=⟨RcAt.bool_bool _ _,EqAt.bool_bool _ _,RcNeAt.bool_bool _ _⟩
theorem rC(b:Am):CB B s .none (.bool b) Ad:=⟨RcAt.none_bool _,EqAt.none_bool _,RcNeAt.none_bool _⟩
theorem qJ(b:Am):CB B s (.bool b) .none Ad:=⟨RcAt.bool_none _,EqAt.bool_none _,RcNeAt.bool_none _⟩
theorem qF(a:Ah)(t:Cz)(b:Ah)(u:Cz):CB B s (.int a t) (.int b u) (a==b):=⟨RcAt.int_int _ _ _ _,EqAt.int_int _ _ _ _,RcNeAt.int_int _ _ _ _⟩
theorem qS(a:Ag)(t:Cz)(b:Ag)(u:Cz):CB B s (.str a t) (.str b u) (a==b):=⟨RcAt.str_str _ _ _ _,EqAt.str_str _ _ _ _,RcNeAt.str_str _ _ _ _⟩
theorem qC(a:Ah)(t:Cz)(b:Ag)(u:Cz):CB B s (.int a t) (.str b u) Ad:=⟨RcAt.int_str _ _ _ _,EqAt.int_str _ _ _ _,RcNeAt.int_str _ _ _ _⟩
theorem qV(a:Ag)(t:Cz)(b:Ah)(u:Cz):CB B s (.str a t) (.int b u) Ad:=⟨RcAt.str_int _ _ _ _,EqAt.str_int _ _ _ _,RcNeAt.str_int _ _ _ _⟩
theorem rB(b:Ah)(u:Cz):CB B s .none (.int b u) Ad:=⟨RcAt.none_int _ _,EqAt.none_int _ _,RcNeAt.none_int _ _⟩
theorem qD(b:Ah)(u:Cz):CB B s (.int b u) .none Ad:=⟨RcAt.int_none _ _,EqAt.int_none _ _,RcNeAt.int_none _ _⟩
theorem qY(b:Ag)(u:Cz):CB B s .none (.str b u) Ad:=⟨RcAt.none_str _ _,EqAt.none_str _ _,RcNeAt.none_str _ _⟩
theorem qT(b:Ag)(u:Cz):CB B s (.str b u) .none Ad:=⟨RcAt.str_none _ _,EqAt.str_none _ _,RcNeAt.str_none _ _⟩
theorem rZ(a:Am)(b:Ah)(u:Cz):CB B s (.bool a) (.int b u) (b2i a==b):=⟨RcAt.bool_int _ _ _,EqAt.bool_int _ _ _,RcNeAt.bool_int _ _ _⟩
theorem qG(a:Am)(b:Ah)(u:Cz):CB B s (.int b u) (.bool a) (b==b2i a):=⟨RcAt.int_bool _ _ _,EqAt.int_bool _ _ _,RcNeAt.int_bool _ _ _⟩
theorem qI(a:Am)(b:Ag)(u:Cz):CB B s (.bool a) (.str b u) Ad:=⟨RcAt.bool_str _ _ _,EqAt.bool_str _ _ _,RcNeAt.bool_str _ _ _⟩
theorem qW(a:Am)(b:Ag)(u:Cz):CB B s (.str b u) (.bool a) Ad:=⟨RcAt.str_bool _ _ _,EqAt.str_bool _ _ _,RcNeAt.str_bool _ _ _⟩
variable{l:Ak}{items:Bg Aj}
theorem rF(h:s.heap.IsList l items)(hu:B.units<BG):CB B s (.ref l) .none Ad:=⟨RcAt.list_none h hu,EqAt.list_none h hu,RcNeAt.list_none h hu⟩
theorem rA(h:s.heap.IsList l items)(hu:B.units<BG):CB B s .none (.ref l) Ad:=⟨RcAt.none_list h hu,EqAt.none_list h hu,RcNeAt.none_list h hu⟩
theorem qA(b:Am)(h:s.heap.IsList l items)(hu:B.units<BG):CB B s (.ref l) (.bool b) Ad:=⟨RcAt.list_bool b h hu,EqAt.list_bool b h hu,RcNeAt.list_bool b h hu⟩
theorem rY(b:Am)(h:s.heap.IsList l items)(hu:B.units<BG):CB B s (.bool b) (.ref l) Ad:=⟨RcAt.bool_list b h hu,EqAt.bool_list b h hu,RcNeAt.bool_list b h hu⟩
theorem rG(b:Ah)(u:Cz)(h:s.heap.IsList l items)(hu:B.units<BG):CB B s (.ref l) (.int b u) Ad:=⟨RcAt.list_int b u h hu,EqAt.list_int b u h hu,RcNeAt.list_int b u h hu⟩
theorem qE(b:Ah)(u:Cz)(h:s.heap.IsList l items)(hu:B.units<BG):CB B s (.int b u) (.ref l) Ad:=⟨RcAt.int_list b u h hu,EqAt.int_list b u h hu,RcNeAt.int_list b u h hu⟩
theorem rE(b:Ag)(u:Cz)(h:s.heap.IsList l items)(hu:B.units<BG):CB B s (.ref l) (.str b u) Ad:=⟨RcAt.list_str b u h hu,EqAt.list_str b u h hu,RcNeAt.list_str b u h hu⟩
theorem qU(b:Ag)(u:Cz)(h:s.heap.IsList l items)(hu:B.units<BG):CB B s (.str b u) (.ref l) Ad:=⟨RcAt.str_list b u h hu,EqAt.str_list b u h hu,RcNeAt.str_list b u h hu⟩
theorem qN(h:s.heap.IsTuple l items)(hu:B.units<BG):CB B s (.ref l) .none Ad:=⟨RcAt.tuple_none h hu,EqAt.tuple_none h hu,RcNeAt.tuple_none h hu⟩
theorem qX(h:s.heap.IsTuple l items)(hu:B.units<BG):CB B s .none (.ref l) Ad:=⟨RcAt.none_tuple h hu,EqAt.none_tuple h hu,RcNeAt.none_tuple h hu⟩
theorem qQ(b:Am)(h:s.heap.IsTuple l items)(hu:B.units<BG):CB B s (.ref l) (.bool b) Ad:=⟨RcAt.tuple_bool b h hu,EqAt.tuple_bool b h hu,RcNeAt.tuple_bool b h hu⟩
theorem qH(b:Am)(h:s.heap.IsTuple l items)(hu:B.units<BG):CB B s (.bool b) (.ref l) Ad:=⟨RcAt.bool_tuple b h hu,EqAt.bool_tuple b h hu,RcNeAt.bool_tuple b h hu⟩
theorem qP(b:Ah)(u:Cz)(h:s.heap.IsTuple l items)(hu:B.units<BG):CB B s (.ref l) (.int b u) Ad:=⟨RcAt.tuple_int b u h hu,EqAt.tuple_int b u h hu,RcNeAt.tuple_int b u h hu⟩
theorem qB(b:Ah)(u:Cz)(h:s.heap.IsTuple l items)(hu:B.units<BG):CB B s (.int b u) (.ref l) Ad:=⟨RcAt.int_tuple b u h hu,EqAt.int_tuple b u h hu,RcNeAt.int_tuple b u h hu⟩
theorem qM(b:Ag)(u:Cz)(h:s.heap.IsTuple l items)(hu:B.units<BG):CB B s (.ref l) (.str b u) Ad:=⟨RcAt.tuple_str b u h hu,EqAt.tuple_str b u h hu,RcNeAt.tuple_str b u h hu⟩
theorem qR(b:Ag)(u:Cz)(h:s.heap.IsTuple l items)(hu:B.units<BG):CB B s (.str b u) (.ref l) Ad:=⟨RcAt.str_tuple b u h hu,EqAt.str_tuple b u h hu,RcNeAt.str_tuple b u h hu⟩
theorem rD(h:s.heap.IsList l items)(h2:s.heap.IsTuple b items2)(hu:B.units<BG):CB B s (.ref l) (.ref b) Ad:=⟨RcAt.list_tuple h h2 hu,EqAt.list_tuple h h2 hu,RcNeAt.list_tuple h h2 hu⟩
theorem qO(h:s.heap.IsTuple l items)(h2:s.heap.IsList b items2)(hu:B.units<BG):CB B s (.ref l) (.ref b) Ad:=⟨RcAt.tuple_list h h2 hu,EqAt.tuple_list h h2 hu,RcNeAt.tuple_list h h2 hu⟩
end
end
section
variable{X:Cx}{CL:ClA}{W:XW}
theorem Jw{its:Bg Aj}(x:PlainL h a its):h.IsList a its:=let ⟨o,n,e,c,_,d⟩:=x;⟨o,e,c,n,d⟩
def Yu(X:Cx)(CL:ClA)(H:Hp)(s:Ap)(d:D)(u:Aj):Prop:=match d with
  |.non=>u=.none
  |.bl b=>u=.bool b
  |.int i=>∃ t,u=.int i t
  |.str x=>∃ t,u=.str x t
  |.tup ds=>∃ a xs its,u=.ref a/\Reps X.K CL H A0 xs ds/\A2 xs its/\s.heap.IsTuple a its.toArray
  |.lst ds=>∃ a xs its,u=.ref a/\Reps X.K CL H A0 xs ds/\A2 xs its/\s.heap.IsList a its.toArray
  |_=>AW
theorem SJ(I:Inv X pI Y H s)(hd:flD n d=Ab)(r:Rep X.K CL H A0 v d)(q:Bu v u):Yu X CL H s d u:=by
 cases d with
 |non=>cases r;exact q
 |bl b=>cases r;exact q
 |int b=>cases r;exact q
 |str b=>cases r;exact q
 |tup ds=>
  obtain⟨a,xs,rfl,_,sq,r⟩:=r;obtain⟨its,rv,p,_⟩:=I.tuple sq;cases q;exact⟨a,xs,its,rfl,r,rv,p⟩
 |lst ds=>
  obtain⟨a,xs,rfl,_,sq,r⟩:=r;obtain⟨its,rv,p,_⟩:=I.list sq;cases q;exact⟨a,xs,its,rfl,r,rv,Jw p⟩
 |obj=>cases n<;>cases hd
 |exc=>cases n<;>cases hd
 |dic=>cases n<;>cases hd
theorem cZ{B:AU}{ds es:Ac D}(hl:s.heap.IsList l its.toArray)(hb:s.heap.IsList b its2.toArray)(e1:its.length=ds.length)(e2:its2.length=es.length)(hu:B.units<BG)(hs:l=b->eqDs ds es=Ab)(he:∀ j (h1:j<its.length) (h2:j<its2.length),El B.in1 s its[j] its2[j] (eqD (ds.getD j .non) (es.getD j .non))):CB B s (.ref l) (.ref b) (eqDs ds es):=by
 have rc:Kd B s (.ref l) (.ref b) (eqDs ds es):=by
  by_cases hz:its.length=its2.length
  .have q:=SeqAt.RcAt.lists (e:=λj=>eqD (ds.getD j .non) (es.getD j .non)) hl hb (by simpa using hz) hu (λj h1 h2=>by simpa using he j (by simpa using h1) (by simpa using h2))
   rw[Ls (by omega)]
   have e:its.toArray.size=ds.length:=by simpa using e1
   rw[e]at q;exact q
  .rw[Lr (by omega)]
   exact SeqAt.RcAt.lists_lengths hl hb (by simpa using hz) hu
 have ne:Jg B s (.ref l) (.ref b) (!eqDs ds es):=by
  by_cases hz:its.length=its2.length
  .have q:=SeqAt.RcNeAt.lists (e:=λj=>eqD (ds.getD j .non) (es.getD j .non)) hl hb (by simpa using hz) hu (λj h1 h2=>by simpa using he j (by simpa using h1) (by simpa using h2))
   rw[Ls (by omega)]
   have e:its.toArray.size=ds.length:=by simpa using e1
   rw[e]at q;exact q
  .rw[Lr (by omega)]
   exact SeqAt.RcNeAt.lists_lengths hl hb (by simpa using hz) hu
 refine⟨rc,?_,ne⟩;by_cases hlb:l=b
 .rw[hs hlb,hlb];exact Xs _
 .exact Xr hlb rc
theorem cY{B:AU}{ds es:Ac D}(hl:s.heap.IsTuple l its.toArray)(hb:s.heap.IsTuple b its2.toArray)(e1:its.length=ds.length)(e2:its2.length=es.length)(hu:B.units<BG)(hs:l=b->eqDs ds es=Ab)(he:∀ j (h1:j<its.length) (h2:j<its2.length),El B.in1 s its[j] its2[j] (eqD (ds.getD j .non) (es.getD j .non))):CB B s (.ref l) (.ref b) (eqDs ds es):=by
 have rc:Kd B s (.ref l) (.ref b) (eqDs ds es):=by
  have q:=SeqAt.RcAt.tuples (e:=λj=>eqD (ds.getD j .non) (es.getD j .non)) hl hb hu (λj h1 h2=>by simpa using he j (by simpa using h1) (by simpa using h2))
  have e:its.toArray.size=ds.length:=by simpa using e1
  have e':its2.toArray.size=es.length:=by simpa using e2
  rw[e,e']at q;by_cases hz:ds.length=es.length
  .rw[Ls hz];rw[hz,Wk,Du,FX]at q;rw[hz];exact q
  .rw[Lr hz];rw[CV.mpr hz,Ig]at q;exact q
 have ne:Jg B s (.ref l) (.ref b) (!eqDs ds es):=by
  have q:=SeqAt.RcNeAt.tuples (e:=λj=>eqD (ds.getD j .non) (es.getD j .non)) hl hb hu (λj h1 h2=>by simpa using he j (by simpa using h1) (by simpa using h2))
  have e:its.toArray.size=ds.length:=by simpa using e1
  have e':its2.toArray.size=es.length:=by simpa using e2
  rw[e,e']at q;by_cases hz:ds.length=es.length
  .rw[Ls hz];rw[hz,Wk,Du,FX]at q;rw[hz];exact q
  .rw[Lr hz];rw[CV.mpr hz,Ig]at q;exact q
 refine⟨rc,?_,ne⟩;by_cases hlb:l=b
 .rw[hs hlb,hlb];exact Xs _
 .exact Xr hlb rc
theorem KH{pI:Pn}{Y:L2.St}{H:Hp}{s:Ap}(I:Inv X pI Y H s):∀(n:Af)(d e:D)(v w':V)(u t:Aj)(B:AU),flD n d=Ab->flD n e=Ab->Rep X.K CL H A0 v d->Rep X.K CL H A0 w' e->Bu v u->Bu w' t->B.units+n<BG->CB B s u t (eqD d e)
  |n,d,e,v,w',u,t,B,hd,he,r,q,rv,rw',hu=>by
    have hu0:B.units<BG:=by omega
    have sd:=SJ I hd r rv;have se:=SJ I he q rw'
    match d,e,sd,se with
    |.non,.non,s1,s2=>cases s1;cases s2;exact qZ
    |.non,.bl b,s1,s2=>cases s1;cases s2;exact rC b
    |.non,.int b,s1,s2=>cases s1;obtain⟨_,rfl⟩:=s2;exact rB b _
    |.non,.str b,s1,s2=>cases s1;obtain⟨_,rfl⟩:=s2;exact qY b _
    |.non,.tup es,s1,s2=>cases s1;obtain⟨_,_,_,rfl,_,_,p⟩:=s2;exact qX p hu0
    |.non,.lst es,s1,s2=>cases s1;obtain⟨_,_,_,rfl,_,_,p⟩:=s2;exact rA p hu0
    |.bl a,.non,s1,s2=>cases s1;cases s2;exact qJ a
    |.bl a,.bl b,s1,s2=>cases s1;cases s2;exact sC a b
    |.bl a,.int b,s1,s2=>cases s1;obtain⟨_,rfl⟩:=s2;exact rZ a b _
    |.bl a,.str b,s1,s2=>cases s1;obtain⟨_,rfl⟩:=s2;exact qI a b _
    |.bl a,.tup es,s1,s2=>cases s1;obtain⟨_,_,_,rfl,_,_,p⟩:=s2;exact qH a p hu0
    |.bl a,.lst es,s1,s2=>cases s1;obtain⟨_,_,_,rfl,_,_,p⟩:=s2;exact rY a p hu0
    |.int a,.non,s1,s2=>obtain⟨_,rfl⟩:=s1;cases s2;exact qD a _
    |.int a,.bl b,s1,s2=>obtain⟨_,rfl⟩:=s1;cases s2;exact qG b a _
    |.int a,.int b,s1,s2=>obtain⟨_,rfl⟩:=s1;obtain⟨_,rfl⟩:=s2;exact qF a _ b _
    |.int a,.str b,s1,s2=>obtain⟨_,rfl⟩:=s1;obtain⟨_,rfl⟩:=s2;exact qC a _ b _
    |.int a,.tup es,s1,s2=>obtain⟨_,rfl⟩:=s1;obtain⟨_,_,_,rfl,_,_,p⟩:=s2;exact qB a _ p hu0
    |.int a,.lst es,s1,s2=>obtain⟨_,rfl⟩:=s1;obtain⟨_,_,_,rfl,_,_,p⟩:=s2;exact qE a _ p hu0
    |.str a,.non,s1,s2=>obtain⟨_,rfl⟩:=s1;cases s2;exact qT a _
    |.str a,.bl b,s1,s2=>obtain⟨_,rfl⟩:=s1;cases s2;exact qW b a _
    |.str a,.int b,s1,s2=>obtain⟨_,rfl⟩:=s1;obtain⟨_,rfl⟩:=s2;exact qV a _ b _
    |.str a,.str b,s1,s2=>obtain⟨_,rfl⟩:=s1;obtain⟨_,rfl⟩:=s2;exact qS a _ b _
    |.str a,.tup es,s1,s2=>obtain⟨_,rfl⟩:=s1;obtain⟨_,_,_,rfl,_,_,p⟩:=s2;exact qR a _ p hu0
    |.str a,.lst es,s1,s2=>obtain⟨_,rfl⟩:=s1;obtain⟨_,_,_,rfl,_,_,p⟩:=s2;exact qU a _ p hu0
    |.tup ds,.non,s1,s2=>cases s2;obtain⟨_,_,_,rfl,_,_,p⟩:=s1;exact qN p hu0
    |.tup ds,.bl b,s1,s2=>cases s2;obtain⟨_,_,_,rfl,_,_,p⟩:=s1;exact qQ b p hu0
    |.tup ds,.int b,s1,s2=>obtain⟨_,rfl⟩:=s2;obtain⟨_,_,_,rfl,_,_,p⟩:=s1;exact qP b _ p hu0
    |.tup ds,.str b,s1,s2=>obtain⟨_,rfl⟩:=s2;obtain⟨_,_,_,rfl,_,_,p⟩:=s1;exact qM b _ p hu0
    |.tup ds,.lst es,s1,s2=>obtain⟨_,_,_,rfl,_,_,p⟩:=s1;obtain⟨_,_,_,rfl,_,_,p2⟩:=s2;exact qO p p2 hu0
    |.lst ds,.non,s1,s2=>cases s2;obtain⟨_,_,_,rfl,_,_,p⟩:=s1;exact rF p hu0
    |.lst ds,.bl b,s1,s2=>cases s2;obtain⟨_,_,_,rfl,_,_,p⟩:=s1;exact qA b p hu0
    |.lst ds,.int b,s1,s2=>obtain⟨_,rfl⟩:=s2;obtain⟨_,_,_,rfl,_,_,p⟩:=s1;exact rG b _ p hu0
    |.lst ds,.str b,s1,s2=>obtain⟨_,rfl⟩:=s2;obtain⟨_,_,_,rfl,_,_,p⟩:=s1;exact rE b _ p hu0
    |.lst ds,.tup es,s1,s2=>obtain⟨_,_,_,rfl,_,_,p⟩:=s1;obtain⟨_,_,_,rfl,_,_,p2⟩:=s2;exact rD p p2 hu0
    |.tup ds,.tup es,s1,s2=>
      match n,hd,he,hu with
      |n+1,hd,he,hu=>
        obtain⟨a,xs,its,rfl,r1,v1,p1⟩:=s1;obtain⟨b,ys,its2,rfl,r2,v2,p2⟩:=s2;have l1:=v1.length;have l2:=r1.length;have l3:=v2.length;have l4:=r2.length
        refine cY p1 p2 (by omega) (by omega) hu0 (λhab=>?_) λj h1 h2=>?_
        · have e1:v=.ref a:=Bu.inj rv rfl;have e2:w'=.ref b:=Bu.inj rw' rfl;subst e1 e2 hab;have z:=LB I (n+1) _ _ hd he r q
          injection z with z
          rw[z];exact eqDs_refl n es he
        · obtain⟨x,rx,qx⟩:=IG r1 v1 h1;obtain⟨y,ry,qy⟩:=IG r2 v2 h2;exact(KH I n _ _ x y _ _ B.in1 (HU hd j) (HU he j) rx ry qx qy (by show B.units+1+n<BG;omega)).2.1
    |.lst ds,.lst es,s1,s2=>
      match n,hd,he,hu with
      |n+1,hd,he,hu=>
        obtain⟨a,xs,its,rfl,r1,v1,p1⟩:=s1;obtain⟨b,ys,its2,rfl,r2,v2,p2⟩:=s2;have l1:=v1.length;have l2:=r1.length;have l3:=v2.length;have l4:=r2.length
        refine cZ p1 p2 (by omega) (by omega) hu0 (λhab=>?_) λj h1 h2=>?_
        · have e1:v=.ref a:=Bu.inj rv rfl;have e2:w'=.ref b:=Bu.inj rw' rfl;subst e1 e2 hab;have z:=LB I (n+1) _ _ hd he r q
          injection z with z
          rw[z];exact eqDs_refl n es he
        · obtain⟨x,rx,qx⟩:=IG r1 v1 h1;obtain⟨y,ry,qy⟩:=IG r2 v2 h2;exact(KH I n _ _ x y _ _ B.in1 (HU hd j) (HU he j) rx ry qx qy (by show B.units+1+n<BG;omega)).2.1
    |.obj _ _,_,s1,_=>exact s1.elim
    |.exc _ _,_,s1,_=>exact s1.elim
    |.dic _,_,s1,_=>exact s1.elim
    |_,.obj _ _,_,s2=>exact s2.elim
    |_,.exc _ _,_,s2=>exact s2.elim
    |_,.dic _,_,s2=>exact s2.elim
end
section
variable{X:Cx}{CL:ClA}{W:XW}
theorem MO(I:Inv X pI Y H s){ds:Ac D}(B:AU)(hd:flD n d=Ab)(hs:ds.all (flD n)=Ab)(r:Reps X.K CL H A0 xs ds)(rv:A2 xs its)(q:Rep X.K CL H A0 v d)(qv:Bu v u)(hu:B.units+n<BG):∃ e:Aj->Am,(∀ y,y∈its.toArray->El B s y u (e y))/\its.toArray.any e=ds.any λy=>eqD y d:=by
 have l1:=rv.length;have l2:=r.length
 have key:∀ y,y∈its->∃ k:Am,El B s y u k/\∀ j (h:j<its.length),its[j]=y->eqD (ds.getD j .non) d=k:=λy hy=>by
  obtain⟨j,hj,rfl⟩:=E7 hy;obtain⟨x,rx,qx⟩:=IG r rv hj;refine⟨eqD (ds.getD j .non) d,(KH I n _ _ x v _ _ B (HU hs j) hd rx q qx qv hu).2.1,λj' hj' e=>?_⟩
  obtain⟨x',rx',qx'⟩:=IG r rv hj';rw[e]at qx';have z:=Bu.inj qx qx';subst z;rw[LB I n _ _ (HU hs j') (HU hs j) rx' rx]
 have key2:∀ y,∃ k:Am,y∈its->El B s y u k/\∀ j (h:j<its.length),its[j]=y->eqD (ds.getD j .non) d=k:=λy=>by
  by_cases hy:y∈its
  .obtain⟨k,hk⟩:=key y hy;exact⟨k,λ_=>hk⟩
  .exact⟨Ab,λh=>absurd h hy⟩
 refine⟨λy=>Hf (key2 y),λy hy=>(Dd (key2 y) (by simpa using hy)).1,?_⟩
 rw[Eh];simp only[List.any_toArray,D4];constructor
 .rintro⟨y,hy,hk⟩;obtain⟨j,hj,rfl⟩:=E7 hy;have z:=(Dd (key2 its[j]) hy).2 j hj rfl;rw[hk]at z;refine⟨ds.getD j .non,?_,z⟩;rw[C4,Bc (by omega)]
  exact Dr _
 .rintro⟨y,hy,hk⟩;obtain⟨j,hj,rfl⟩:=E7 hy;have hj':j<its.length:=by omega
  refine⟨its[j],Dr _,?_⟩;have z:=(Dd (key2 its[j]) (Dr _)).2 j hj' rfl;rw[<-z,C4,Bc hj];exact hk
theorem Mx{g:Ah->Ah->Am}(ho:OpR X (Cw op) (rI0 λi j=>.bl (g i j)))(hg:∀ dx dy,(∃ i j,dx=.int i/\dy=.int j/\Bp op dx dy=.ok (.bl (g i j)))\/Bp op dx dy=.bad):OpD X CL W (Cw op) (Bp op):=by
 intro A pI s Y H x y v u Q I rx ry ⟨hA,dx,dy,hx,hy,p⟩;rcases hg dx dy with ⟨i,j,rfl,rfl,e⟩|e
 .have ex:=hx.int_of;have ey:=hy.int_of
  subst ex ey;rw[e]at p;exact ho pI s Y H _ _ v u Q I rx ry ⟨i,j,rfl,rfl,p _ H (Az.refl H) rfl⟩
 .rw[e]at p;exact p.elim
theorem TD{x:V}(h:Cr X.K CL H A x d)(hd:d≠.non):x≠.non:=by
 rintro rfl;have h:=h.plain;cases d with
 |non=>exact hd rfl
 |tup=>obtain⟨_,_,e,_⟩:=h;cases e
 |lst=>obtain⟨_,_,e,_⟩:=h;cases e
 |obj=>obtain⟨_,_,_,_,e,_⟩:=h;cases e
 |exc=>obtain⟨_,_,_,e,_⟩:=h;cases e
 |dic=>exact h.elim
 |_=>cases h
theorem Kw(hu:X.A.units+64<BG)(op:C5):OpD X CL W (Cw op) (Bp op):=by
 cases op with
 |Eq=>
  intro A pI s Y H x y v u Q I rx ry ⟨hA,dx,dy,hx,hy,p⟩;rw[tG]at p;split at p
  .rename_i h;simp only[Al]at h;exact(KH I 5 dx dy x y v u X.A h.1 h.2 hx.plain hy.plain rx ry (by omega)).1 X.prog X.w X.xe _ ⟨.bl _,H,I,rfl,p _ H (Az.refl H) rfl⟩
  .exact p.elim
 |NotEq=>
  intro A pI s Y H x y v u Q I rx ry ⟨hA,dx,dy,hx,hy,p⟩;rw[rQ]at p;split at p
  .rename_i h;simp only[Al]at h;exact(KH I 5 dx dy x y v u X.A h.1 h.2 hx.plain hy.plain rx ry (by omega)).2.2 X.prog X.w X.xe _ ⟨.bl _,H,I,rfl,p _ H (Az.refl H) rfl⟩
  .exact p.elim
 |Lt=>
  refine Mx sY λdx dy=>?_
  cases dx with
  |int i=>
   cases dy with
   |int j=>exact .inl ⟨i,j,rfl,rfl,rfl⟩
   |_=>exact .inr rfl
  |_=>exact .inr rfl
 |LtE=>
  refine Mx rK λdx dy=>?_
  cases dx with
  |int i=>
   cases dy with
   |int j=>exact .inl ⟨i,j,rfl,rfl,rfl⟩
   |_=>exact .inr rfl
  |_=>exact .inr rfl
 |Gt=>
  refine Mx rL λdx dy=>?_
  cases dx with
  |int i=>
   cases dy with
   |int j=>exact .inl ⟨i,j,rfl,rfl,rfl⟩
   |_=>exact .inr rfl
  |_=>exact .inr rfl
 |GtE=>
  refine Mx rM λdx dy=>?_
  cases dx with
  |int i=>
   cases dy with
   |int j=>exact .inl ⟨i,j,rfl,rfl,rfl⟩
   |_=>exact .inr rfl
  |_=>exact .inr rfl
 |In=>
  intro A pI s Y H x y v u Q I rx ry ⟨hA,dx,dy,hx,hy,p⟩;cases dy with
  |lst es=>
   rw[Ie]at p;split at p
   .rename_i h;simp only[Al]at h;obtain⟨a,xs,e,_,sq,r⟩:=hy.plain;subst e;cases ry;obtain⟨its,rv,pl,_⟩:=I.list sq;obtain⟨e,he,ha⟩:=MO I (n:=5) X.A.in1 h.1 h.2 r rv hx.plain rx (by show X.A.units+1+5<BG;omega)
    refine SeqAt.in_listAt e (Jw pl) he ?_;rw[ha];exact⟨.bl _,H,I,rfl,p _ H (Az.refl H) rfl⟩
   .exact p.elim
  |tup es=>
   rw[YE]at p;split at p
   .rename_i h;simp only[Al]at h;obtain⟨a,xs,e,_,sq,r⟩:=hy.plain;subst e;cases ry;obtain⟨its,rv,pl,_⟩:=I.tuple sq;obtain⟨e,he,ha⟩:=MO I (n:=5) X.A.in1 h.1 h.2 r rv hx.plain rx (by show X.A.units+1+5<BG;omega)
    refine SeqAt.in_tupleAt e pl he ?_;rw[ha];exact⟨.bl _,H,I,rfl,p _ H (Az.refl H) rfl⟩
   .exact p.elim
  |dic kvs=>exact hy.plain.elim
  |_=>exact p.elim
 |NotIn=>
  intro A pI s Y H x y v u Q I rx ry ⟨hA,dx,dy,hx,hy,p⟩;cases dy with
  |lst es=>
   rw[LP]at p;split at p
   .rename_i h;simp only[Al]at h;obtain⟨a,xs,e,_,sq,r⟩:=hy.plain;subst e;cases ry;obtain⟨its,rv,pl,_⟩:=I.list sq;obtain⟨e,he,ha⟩:=MO I (n:=5) X.A.in1 h.1 h.2 r rv hx.plain rx (by show X.A.units+1+5<BG;omega)
    refine SeqAt.notIn_listAt e (Jw pl) he ?_;rw[ha];exact⟨.bl _,H,I,rfl,p _ H (Az.refl H) rfl⟩
   .exact p.elim
  |tup es=>
   rw[rP]at p;split at p
   .rename_i h;simp only[Al]at h;obtain⟨a,xs,e,_,sq,r⟩:=hy.plain;subst e;cases ry;obtain⟨its,rv,pl,_⟩:=I.tuple sq;obtain⟨e,he,ha⟩:=MO I (n:=5) X.A.in1 h.1 h.2 r rv hx.plain rx (by show X.A.units+1+5<BG;omega)
    refine SeqAt.notIn_tupleAt e pl he ?_;rw[ha];exact⟨.bl _,H,I,rfl,p _ H (Az.refl H) rfl⟩
   .exact p.elim
  |_=>exact p.elim
 |Is=>
  intro A pI s Y H x y v u Q I rx ry ⟨hA,dx,dy,hx,hy,p⟩;cases dy with
  |non=>
   have ey:=hy.non_of;subst ey;refine lU pI s Y H _ _ v u Q I rx ry ⟨rfl,?_⟩;cases dx with
   |non=>
    have ex:=hx.non_of;subst ex;exact p _ H (Az.refl H) rfl
   |exc=>exact p.elim
   |dic=>exact p.elim
   |_=>rw[CU (TD hx (by simp))];exact p _ H (Az.refl H) rfl
  |bl b=>
   cases dx with
   |bl a=>
    have ey:=hy.bl_of;have ex:=hx.bl_of;subst ex ey;cases rx;cases ry;refine wpAny_is_plain rfl ⟨.bl (a==b),H,I,?_,p _ H (Az.refl H) rfl⟩;cases a<;>cases b<;>rfl
   |_=>exact p.elim
  |_=>cases dx<;>exact p.elim
 |IsNot=>
  intro A pI s Y H x y v u Q I rx ry ⟨hA,dx,dy,hx,hy,p⟩;cases dy with
  |non=>
   have ey:=hy.non_of;subst ey;refine hJ pI s Y H _ _ v u Q I rx ry ⟨rfl,?_⟩;cases dx with
   |non=>
    have ex:=hx.non_of;subst ex;exact p _ H (Az.refl H) rfl
   |exc=>exact p.elim
   |dic=>exact p.elim
   |_=>rw[CU (TD hx (by simp))];exact p _ H (Az.refl H) rfl
  |bl b=>
   cases dx with
   |bl a=>
    have ey:=hy.bl_of;have ex:=hx.bl_of;subst ex ey;cases rx;cases ry;refine wpAny_isNot_plain rfl ⟨.bl (!(a==b)),H,I,?_,p _ H (Az.refl H) rfl⟩;cases a<;>cases b<;>rfl
   |_=>exact p.elim
  |_=>cases dx<;>exact p.elim
end
section
variable{X:Cx}{CL:ClA}{W:XW}{a b c:An}{fa fb fc:Rho->R D}{pos:AD}
theorem CK.bind{f:D->R Am}{Q:Am->Hp->Prop}{Q':VK}(h:CK W H (r.bind f) Q)(k:∀ d v H',r=.ok d->Az H H'->Rp H' v d->CK W H' (f d) Q->Q' v H'):AS Rp W H r Q':=by
 cases r with
 |ok d=>exact λv H2 s2 q=>k d v H2 rfl s2 q (CK.same s2 h)
 |exn x=>exact h
 |bad=>exact h
theorem CK.bindB{r:R Am}{f:Am->R Am}{Q:Am->Hp->Prop}{Q':Am->Hp->Prop}(h:CK W H (r.bind f) Q)(k:∀ b H',r=.ok b->Az H H'->CK W H' (f b) Q->Q' b H'):CK W H r Q':=by
 cases r with
 |ok d=>exact λH2 s2=>k d H2 rfl s2 (CK.same s2 h)
 |exn x=>exact h
 |bad=>exact h
theorem Hv.bind{Rp:Hp->Ac V->Ac D->Prop}{r:R (Ac D)}{f:Ac D->R D}{Q':Ac V->Hp->Prop}(h:AS Rq W H (r.bind f) Q)(k:∀ d v H',r=.ok d->Az H H'->Rp H' v d->AS Rq W H' (f d) Q->Q' v H'):Hv Rp W H r Q':=by
 cases r with
 |ok d=>exact λv H2 s2 q=>k d v H2 rfl s2 q (AS.same s2 h)
 |exn x=>exact h
 |bad=>exact h
theorem jL(ha:ST X CL W a fa):SE X CL W (.UnaryOp .USub a pos) (λU=>(fa U).bind λx=>unD .USub x):=λA=>PE.weak (sR kR (ha A)) λY H Q ⟨hA,U,g,p⟩=>⟨hA,U,g,AS.bind p λd v H1 _ s1 r1 p1=>by
 cases d with
 |int i=>
  have e:=r1.int_of;subst e;exact⟨i,rfl,p1 _ H1 (Az.refl H1) rfl⟩
 | _=>exact p1.elim⟩
theorem Mp{f:Am->R D}(h:AS Rq W H ((DA d).bind f) Q):∃ c,d=.bl c/\AS Rq W H (f c) Q:=by
 cases d with
 |bl c=>exact⟨c,rfl,h⟩
 |_=>exact h.elim
theorem T4(ha:ST X CL W a fa):SE X CL W (.UnaryOp .Not a pos) (λU=>(fa U).bind λx=>(DA x).bind λb=>.ok (.bl (!b))):=λA=>PE.weak (lM (ha A)) λY H Q ⟨hA,U,g,p⟩=>⟨hA,U,g,AS.bind p λd v H1 _ s1 r1 p1=>by
 obtain⟨c,rfl,p2⟩:=Mp p1;exact⟨c,r1.bl_of,p2 _ H1 (Az.refl H1) rfl⟩⟩
theorem Pa{op}(ha:SE X CL W a fa):SE X CL W (.BoolOp op [a] pos) fa:=λA=>lK (ha A)
theorem To{rest:Ac An}(ha:SE X CL W a fa)(hb:SE X CL W (.BoolOp .And (b::rest) pos) fb):SE X CL W (.BoolOp .And (a::b::rest) pos) (λU=>(fa U).bind λx=>(DA x).bind λc=>if c=Ab then fb U else .ok (.bl Ad)):=
 λA=>PE.weak (lQ (ha A) (hb A)) λY H Q ⟨hA,U,g,p⟩=>⟨hA,U,g,AS.bind p λd v H1 _ s1 r1 p1=>by
  obtain⟨c,rfl,p2⟩:=Mp p1;refine⟨c,r1,?_⟩;cases c with
  |true=>exact⟨hA.same s1,U,g.same s1,p2⟩
  | false=>exact p2 _ H1 (Az.refl H1) rfl⟩
theorem qK{rest:Ac An}(ha:SE X CL W a fa)(hb:SE X CL W (.BoolOp .Or (b::rest) pos) fb):SE X CL W (.BoolOp .Or (a::b::rest) pos) (λU=>(fa U).bind λx=>(DA x).bind λc=>if c=Ab then .ok (.bl Ab) else fb U):=
 λA=>PE.weak (sS (ha A) (hb A)) λY H Q ⟨hA,U,g,p⟩=>⟨hA,U,g,AS.bind p λd v H1 _ s1 r1 p1=>by
  obtain⟨c,rfl,p2⟩:=Mp p1;refine⟨c,r1,?_⟩;cases c with
  |false=>exact⟨hA.same s1,U,g.same s1,p2⟩
  | true=>exact p2 _ H1 (Az.refl H1) rfl⟩
theorem ZQ{op':C5}(hu:X.A.units+64<BG)(ha:ST X CL W a fa)(hb:ST X CL W b fb)(hc:ST X CL W c fc)(hm:Jm [op,op'] [b,c]=Ad):SE X CL W (.Compare a [op,op'] [b,c] pos) (λU=>(fa U).bind λx=>(fb U).bind λy=>(Bp op x y).bind λz=>(DA z).bind λk=>if k=Ab then (fc U).bind λu=>Bp op' y u else .ok (.bl Ad)):=
 λA=>PE.weak (bZ (Kw hu op A) (Kw hu op' A) (ha A) (hb A) (hc A) hm) λY H Q ⟨hA,U,g,p⟩=>⟨hA,U,g,AS.bind p λdx x H1 _ s1 r1 p1=>⟨hA.same s1,U,g.same s1,AS.bind p1 λdy y H2 _ s2 r2 p2=>
  ⟨(hA.same s1).same s2,dx,dy,r1.same s2,r2,AS.bind p2 λdz z H3 _ s3 r3 p3=>by
   obtain⟨k,rfl,p4⟩:=Mp p3;refine⟨k,r3,?_⟩;cases k with
   |false=>exact p4 _ H3 (Az.refl H3) rfl
   | true=>exact⟨((hA.same s1).same s2).same s3,U,((g.same s1).same s2).same s3,AS.bind p4 λdu u H4 _ s4 r4 p5=>⟨(((hA.same s1).same s2).same s3).same s4,dy,du,(r2.same s3).same s4,r4,p5⟩⟩⟩⟩⟩
theorem getL_at{xs:Ac D}{i:Ah}(h:CP xs i=.ok d):∃ k,plD xs.length i=Aa k/\xs[k]?=Aa d:=by
 unfold CP at h;split at h
 .rename_i k e;split at h
  .rename_i d' e';cases h;exact⟨k,e,e'⟩
  .cases h
 .cases h
theorem Kt{xs:Ac D}{i:Ah}{x:Ex}(h:CP xs i=.exn x):AW:=by
 unfold CP at h;split at h
 .split at h<;>cases h
 .cases h
theorem Ta{ds:Ac D}{i:Ah}(r:Reps K CL H A xs ds)(h:CP ds i=.ok d):∃ v,atI xs i=Aa v/\Rep K CL H A v d:=by
 obtain⟨k,e,q⟩:=getL_at h;obtain⟨v,hv,rv⟩:=r.get q;refine⟨v,?_,rv⟩;unfold atI;have:ixN xs.length i=Aa k:=by rw[r.length];exact e
 rw[this];exact hv
theorem iI{z:Ag}{i:Ah}(h:CP (FU z) i=.ok d):∃ c,atI z.cps.toList i=Aa c/\d=.str ⟨#[c]⟩:=by
 obtain⟨k,e,q⟩:=getL_at h;unfold FU at e q;rw[Bo]at e;rw[Cn]at q;cases hc:z.cps.toList[k]? with
 |none=>rw[hc]at q;cases q
 |some c=>
  rw[hc]at q;refine⟨c,?_,(Bl q).symm⟩;unfold atI;have:ixN z.cps.toList.length i=Aa k:=e;rw[this];exact hc
theorem QM(h:Cd n=Ab):n<=sizeLine:=by
 unfold Cd at h;have:=BD h;rw[Cj];omega
theorem mB(hs:O1 b)(ha:ST X CL W a fa)(hb:ST X CL W b fb):SE X CL W (.Subscript a b pos) (λU=>(fa U).bind λx=>(fb U).bind λy=>FS x y):=
 λA=>PE.weak (sT (r:=rIx X.K) nW (ha A) (hb A) hs) λY H Q h=>by
  obtain⟨hA,U,g,h⟩:=op2 h;refine⟨hA,U,g,?_⟩;cases e:fa U with
  |bad=>rw[e]at h;exact h
  |exn x=>rw[e]at h;exact h
  |ok dx0=>
   rw[e]at h;intro x H1 s1 r1;obtain⟨hA1,U1,g1,h1⟩:=h x H1 s1 r1;refine⟨hA1,U1,g1,?_⟩;cases e1:fb U1 with
   |bad=>rw[e1]at h1;exact h1
   |exn x=>rw[e1]at h1;exact h1
   |ok dy0=>
    rw[e1]at h1;intro y H2 s2 r2;obtain⟨hA2,dx,dy,rx,ry,p⟩:=h1 y H2 s2 r2;cases dy with
    |int i=>
     have ey:=ry.int_of;subst ey;cases dx with
     |lst ds=>
      obtain⟨q,xs,rfl,sq,r⟩:=rx.lst_of;rw[tK]at p;cases e2:CP ds i with
      |ok d=>
       rw[e2]at p;obtain⟨v,hv,rv⟩:=Ta r e2;exact .inl ⟨q,xs,i,v,rfl,rfl,sq,hv,p v H2 (Az.refl H2) rv⟩
      |exn x=>exact(Kt e2).elim
      |bad=>rw[e2]at p;exact p.elim
     |tup ds=>
      obtain⟨q,xs,rfl,_,sq,r⟩:=rx.tup_of;rw[tJ]at p;cases e2:CP ds i with
      |ok d=>
       rw[e2]at p;obtain⟨v,hv,rv⟩:=Ta r e2;exact .inr (.inl ⟨q,xs,i,v,rfl,rfl,sq,hv,p v H2 (Az.refl H2) rv⟩)
      |exn x=>exact(Kt e2).elim
      |bad=>rw[e2]at p;exact p.elim
     |str z=>
      have ex:=rx.str_of;subst ex;have p':AS (λH=>Rep X.K CL H A) W H2 (if Cd z.length=Ab then CP (FU z) i else .bad) Q:=p
      split at p'
      .rename_i hz;cases e2:CP (FU z) i with
       |ok d=>
        rw[e2]at p';obtain⟨c,hc,rfl⟩:=iI e2;exact .inr (.inr ⟨z,i,c,rfl,rfl,QM hz,hc,p' _ H2 (Az.refl H2) rfl⟩)
       |exn x=>exact(Kt e2).elim
       |bad=>rw[e2]at p';exact p'.elim
      .exact p'.elim
     |dic=>exact rx.plain.elim
     |_=>exact p.elim
    |_=>cases dx<;>first|exact p.elim|exact rx.plain.elim
theorem Tr:SA X CL W [] (λ_=>.ok []):=λA=>PA.weak Ft λY H Q ⟨hA,U,g,p⟩=>p [] H (Az.refl H) trivial
theorem SM(ha:SE X CL W a fa)(hs:SA X CL W es fs)(hst:As (a::es) X.env=(Ad,eval a X.env)::As es X.env):SA X CL W (a::es) (λU=>(fa U).bind λx=>(fs U).bind λxs=>.ok (x::xs)):=
 λA=>PA.weak (DT (ha A) (hs A) hst) λY H Q ⟨hA,U,g,p⟩=>by
  dsimp only at p;refine⟨hA,U,g,?_⟩;cases e:fa U with
  |bad=>rw[e]at p;exact p
  |exn x=>rw[e]at p;exact p
  |ok d=>
   rw[e]at p;intro v H1 s1 r1;refine⟨hA.same s1,U,g.same s1,?_⟩;cases e1:fs U with
   |bad=>rw[R.bind_ok,e1]at p;exact p
   |exn x=>rw[R.bind_ok,e1]at p;exact λH2 s2=>p H2 (s1.trans s2)
   |ok ds=>
    rw[R.bind_ok,e1]at p;exact λvs H2 s2 r2=>p (v::vs) H2 (s1.trans s2) ⟨r1.same s2,r2⟩
theorem TZ(hs:SA X CL W es fs)(hz:∀ U ds,fs U=.ok ds->ds.length<=100000):SE X CL W (.Tuple es k pos) (λU=>(fs U).bind λxs=>.ok (.tup xs)):=
 λA=>PE.weak (Tw (hs A)) λY H Q ⟨hA,U,g,p⟩=>⟨hA,U,g,Hv.bind p λds vs H1 e s1 r1 p1=>⟨by
  rw[r1.length,Cj];have:=hz U ds e;omega,λq hq=>p1 _ _ (ET hq _) (Kx (hA.same s1) hq r1)⟩⟩
def J7(W:XW)(H:Hp)(r:R (Ao Ah))(Q:Ao Ah->Hp->Prop):Prop:=match r with
  |.ok o=>∀ H',Az H H'->Q o H'
  |.exn x=>∀ H',Az H H'->W x H'
  |.bad=>AW
theorem J7.bind{r:R (Ao Ah)}{f:Ao Ah->R D}(h:AS Rq W H (r.bind f) Q)(k:∀ o H',r=.ok o->Az H H'->AS Rq W H' (f o) Q->Q' o H'):J7 W H r Q':=by
 cases r with
 |ok d=>exact λH2 s2=>k d H2 rfl s2 (AS.same s2 h)
 |exn x=>exact h
 |bad=>exact h
def SO(X:Cx)(CL:ClA)(W:XW)(e:Ao An)(f:Rho->R (Ao Ah)):Prop:=∀ A,PO X e (λY H Q=>AOk H A/\∃ U,Good X.K CL A U Y H/\J7 W H (f U) Q)
theorem PO.weak{e:Ao An}{t t':TO}(h:PO X e t)(k:∀ Y H Q,t' Y H Q->t Y H Q):PO X e t':=λpI s Y H Q I q=>h pI s Y H Q I (k _ _ _ q)
theorem dW:SO X CL W Ae (λ_=>.ok Ae):=λA=>PO.weak gP λY H Q ⟨hA,U,g,p⟩=>p H (Az.refl H)
theorem dU(ha:ST X CL W a fa):SO X CL W (Aa a) (λU=>(fa U).bind λd=>(Fv d).bind λi=>.ok (Aa i)):=λA=>PO.weak (gO (ha A)) λY H Q ⟨hA,U,g,p⟩=>by
 dsimp only at p;refine⟨hA,U,g,?_⟩;cases e:fa U with
 |bad=>rw[e]at p;exact p
 |exn x=>rw[e]at p;exact p
 |ok d=>
  rw[e]at p;intro v H1 s1 r1;cases d with
  |int i=>exact⟨i,r1.int_of,p H1 s1⟩
  |_=>exact p.elim
theorem S3{ds:Ac D}(lo hi:Ao Ah)(r:Reps K CL H A xs ds):Reps K CL H A (JC xs lo hi) (EL ds lo hi):=by
 unfold JC EL;have e:∀ d o,HT.sIx xs.length d o=IP ds.length d o:=λd o=>by rw[r.length];cases o<;>rfl
 rw[e,e,r.length];exact(r.drop _).take _
end
section
variable{X:Cx}{CL:ClA}{W:XW}{a b c:An}{fa fb fc:Rho->R D}{pos:AD}
def F6(K:Fg)(CL:ClA)(H:Hp)(A:Ak->Prop):Ac V->Ac D->Prop
 |[],[]=>Hs
 |v::vs,d::ds=>Cr K CL H A v d/\F6 K CL H A vs ds
 |_,_=>AW
theorem F6.same{K:Fg}{H H':Hp}{A:Ak->Prop}(s:Az H H'):∀{vs:Ac V}{ds:Ac D},F6 K CL H A vs ds->F6 K CL H' A vs ds
 |[],[],h=>h
 |_::_,_::_,h=>⟨h.1.same s,F6.same s h.2⟩
 |[],_::_,h=>h.elim
 |_::_,[],h=>h.elim
theorem F6.one(h:F6 K CL H A vs [d]):∃ v,vs=[v]/\Cr K CL H A v d:=by
 cases vs with
 |nil=>exact h.elim
 |cons v vs=>
  cases vs with
  |nil=>exact⟨v,rfl,h.1⟩
  |cons=>exact h.2.elim
theorem F6.two{e:D}(h:F6 K CL H A vs [d,e]):∃ v w',vs=[v,w']/\Cr K CL H A v d/\Cr K CL H A w' e:=by
 cases vs with
 |nil=>exact h.elim
 |cons v vs=>
  cases vs with
  |nil=>exact h.2.elim
  |cons w' vs=>
   cases vs with
   |nil=>exact⟨v,w',rfl,h.1,h.2.1⟩
   |cons=>exact h.2.2.elim
def SAT(X:Cx)(CL:ClA)(W:XW)(es:Ac An)(f:Rho->R (Ac D)):Prop:=∀ A,PA X es (λY H Q=>AOk H A/\∃ U,Good X.K CL A U Y H/\Hv (λH=>F6 X.K CL H A) W H (f U) Q)
theorem cW:SAT X CL W [] (λ_=>.ok []):=λA=>PA.weak Ft λY H Q ⟨hA,U,g,p⟩=>p [] H (Az.refl H) trivial
theorem ZT(ha:ST X CL W a fa)(hs:SAT X CL W es fs)(hst:As (a::es) X.env=(Ad,eval a X.env)::As es X.env):SAT X CL W (a::es) (λU=>(fa U).bind λx=>(fs U).bind λxs=>.ok (x::xs)):=
 λA=>PA.weak (DT (ha A) (hs A) hst) λY H Q ⟨hA,U,g,p⟩=>by
  dsimp only at p;refine⟨hA,U,g,?_⟩;cases e:fa U with
  |bad=>rw[e]at p;exact p
  |exn x=>rw[e]at p;exact p
  |ok d=>
   rw[e]at p;intro v H1 s1 r1;refine⟨hA.same s1,U,g.same s1,?_⟩;cases e1:fs U with
   |bad=>rw[R.bind_ok,e1]at p;exact p
   |exn x=>rw[R.bind_ok,e1]at p;exact λH2 s2=>p H2 (s1.trans s2)
   |ok ds=>
    rw[R.bind_ok,e1]at p;exact λvs H2 s2 r2=>p (v::vs) H2 (s1.trans s2) ⟨r1.same s2,r2⟩
def Jy(X:Cx)(CL:ClA)(W:XW)(f:Aj)(g:Ac D->R D):Prop:=∀ A,Hw X f (λxs H Q=>AOk H A/\∃ ds,F6 X.K CL H A xs ds/\AS (λH=>Rep X.K CL H A) W H (g ds) Q)
theorem MX{id:CZ}{g:Ac D->R D}(hc:Jy X CL W (.builtin id) g)(hg:Gl X x)(hm:X.mg x=Ae)(hv:CY x=Aa (.builtin id))(ha:SAT X CL W (e::es) fs)(hn:x≠"__name__")(hdb:(x==("__debug__" : Ag))=Ad)(he:As (e::es) X.env=(Ad,eval e X.env)::As es X.env)(hpl:∀ pos,(BA pos (As es X.env)).any (·.1)=Ad):SE X CL W (.Call (.Name x p) (e::es) [] pos) (λU=>(fs U).bind g):=λA=>PE.weak (Kn (hc A) hg hm hv (ha A) hn hdb he (hpl _)) λY H Q ⟨hA,U,gd,q⟩=>⟨hA,U,gd,Hv.bind q λds vs H1 _ s1 r1 p1=>⟨hA.same s1,ds,r1,p1⟩⟩
theorem Tn{g:Ac D->R D}(hc:Jy X CL W (.type T) g)(hg:Gl X x)(hm:X.mg x=Ae)(hv:CY x=Aa (.type T))(ha:SAT X CL W (e::es) fs)(hn:x≠"__name__")(hdb:(x==("__debug__" : Ag))=Ad)(he:As (e::es) X.env=(Ad,eval e X.env)::As es X.env)(hpl:∀ pos,(BA pos (As es X.env)).any (·.1)=Ad):SE X CL W (.Call (.Name x p) (e::es) [] pos) (λU=>(fs U).bind g):=λA=>PE.weak (Rg (hc A) hg hm hv (ha A) hn hdb he (hpl _)) λY H Q ⟨hA,U,gd,q⟩=>⟨hA,U,gd,Hv.bind q λds vs H1 _ s1 r1 p1=>⟨hA.same s1,ds,r1,p1⟩⟩
theorem oU:Jy X CL W (.builtin "len") (biD .len):=by
  intro A pI s Y H xs us Q I r ⟨hA,ds,rs,p⟩
  match ds,rs,p with
  |[.lst es],rs,p=>
    obtain⟨v,rfl,rv⟩:=rs.one;obtain⟨q,ys,rfl,sq,ry⟩:=rv.lst_of;exact QI pI s Y H _ us Q I r ⟨q,ys,rfl,.inl sq,p _ H (Az.refl H) (by rw[ry.length];rfl)⟩
  |[.tup es],rs,p=>
    obtain⟨v,rfl,rv⟩:=rs.one;obtain⟨q,ys,rfl,_,sq,ry⟩:=rv.tup_of;exact QI pI s Y H _ us Q I r ⟨q,ys,rfl,.inr sq,p _ H (Az.refl H) (by rw[ry.length];rfl)⟩
  |[.str x],rs,p=>
    obtain⟨v,rfl,rv⟩:=rs.one;have e:=rv.str_of;subst e;have p':AS (λH=>Rep X.K CL H A) W H (if Cd x.length=Ab then .ok (.int x.length) else .bad) Q:=p
    split at p'
    · rename_i h;exact YX pI s Y H _ us Q I r ⟨x,rfl,JN h,p' _ H (Az.refl H) rfl⟩
    · exact p'.elim
  |[],_,p=>exact p.elim
  |[.non],_,p=>exact p.elim
  |[.bl _],_,p=>exact p.elim
  |[.int _],_,p=>exact p.elim
  |[.obj _ _],_,p=>exact p.elim
  |[.exc _ _],_,p=>exact p.elim
  |[.dic _],rs,p=>first|exact p.elim|(obtain⟨v,rfl,rv⟩:=rs.one;exact rv.plain.elim)
  |x::_::_,_,p=>cases x<;>exact p.elim
theorem Ri:∀(is:Ac Ah)(i:Ah),Ic i is∈i::is/\∀ a∈i::is,Ic i is<=a
 |[],i=>⟨AF,λa h=>by rw[List.mem_singleton]at h;rw[h];exact VQ _⟩
 |j::r,i=>by
  obtain⟨h1,h2⟩:=Ri r (if j<i then j else i)
  refine⟨?_,λa h=>?_⟩
  .show Ic (if j<i then j else i) r∈_
   rcases AI.mp h1 with e|e
   .rw[e];split
    .exact Aw _ AF
    .exact AF
   .exact Aw _ (Aw _ e)
  .show Ic (if j<i then j else i) r<=a
   have h0:=h2 _ AF;rcases AI.mp h with e|e
   .subst e;refine VR h0 ?_;split<;>omega
   .rcases AI.mp e with e|e
    .subst e;refine VR h0 ?_;split<;>omega
    .exact h2 a (Aw _ e)
theorem QQ:∀{is:Ac Ah}{its:Ac Aj},A2 (is.map V.int) its->∃ xs:Bg (Ah×Cz),its.toArray=Le xs/\xs.toList.map (·.1)=is
 |[],_,h=>by cases h;exact⟨#[],by simp[Le],rfl⟩
 |i::is,_,h=>by
  cases h with
  |cons h1 h2=>
   obtain⟨t,rfl⟩:=h1;obtain⟨xs,e1,e2⟩:=QQ h2;refine⟨((i,t)::xs.toList).toArray,?_,?_⟩
   .apply Array.toList_inj.mp
    have e1':=congrArg Ja e1;simp[Le]at e1' ⊢;exact e1'
   .simp[e2]
theorem aM(hc:X.calm=Ab):Hw X (.builtin "min") (λxs H Q=>∃ a i is,xs=[.ref a]/\SqL X.K H a ((i::is).map V.int)/\Q (.int (Ic i is)) H):=by
 intro pI s Y H xs us Q I r h;obtain⟨a,i,is,rfl,sq,q⟩:=h;obtain⟨u,rfl,ru⟩:=Hy r;cases ru;obtain⟨its,rv,pl,hz⟩:=I.list sq;obtain⟨ys,e1,e2⟩:=QQ rv;have hsz:0<ys.size:=by
  have:=congrArg V8 e2;simp at this;omega
 have hl:=pl.isList;rw[e1]at hl;refine min_intList (I.ok.hd hc) hl hsz λv h' tk hv hk=>?_
 obtain⟨t,rfl⟩:=intItems_at hv;obtain⟨h1,h2⟩:=argBest_lt (Ix ys) (ys.size-1);have nm:∀ j,j<ys.size->Ix ys j∈i::is:=λj hj=>by
  rw[<-e2];unfold Ix;rw[Cm hj];simp only[Wp,Option.getD_some];exact List.mem_map.mpr ⟨ys[j],by simp,rfl⟩
 have nx:∀ x∈i::is,∃ j,j<ys.size/\Ix ys j=x:=λx hx=>by
  rw[<-e2]at hx;obtain⟨y,hy,rfl⟩:=Wc.mp hx;obtain⟨j,hj,ej⟩:=Array.mem_iff_getElem.mp (VL.mp hy);refine⟨j,hj,?_⟩;unfold Ix;rw[Cm hj,ej];rfl
 obtain⟨m1,m2⟩:=Ri is i;have em:Ix ys (argBest (λi j=>decide (Ix ys i<Ix ys j)) (ys.size-1))=Ic i is:=by
  refine Int.le_antisymm ?_ (m2 _ (nm _ (by omega)))
  obtain⟨j,hj,ej⟩:=nx _ m1;rw[<-ej];exact h2 j (by omega)
 rw[em];exact⟨.int (Ic i is),H,I.kept hk,⟨_,rfl⟩,q⟩
theorem QR{K:Fg}{CL:ClA}{H:Hp}{A:Ak->Prop}:∀{es:Ac D}{is:Ac Ah}{ys:Ac V},IM es=Aa is->Reps K CL H A ys es->ys=is.map V.int
 |[],_,[],h,_=>by cases h;rfl
 |[],_,_::_,_,r=>r.elim
 |_::_,_,[],_,r=>r.elim
 |e::es,is,y::ys,h,r=>by
  cases e with
  |int i=>
   have h':(IM es).map (i :: ·)=Aa is:=h;cases e2:IM es with
   |none=>rw[e2]at h';cases h'
   |some js=>
    rw[e2]at h';cases h';have ih:=QR e2 r.2;have e1:y=.int i:=r.1;rw[ih,e1];rfl
  |_=>cases h
theorem ZE(ds:Ac D)(hl:∀ es,ds≠[.lst es]):(∃ i j,ds=[.int i,.int j])\/biD .min ds=.bad:=by
 rcases ds with _|⟨x,_|⟨y,_|⟨z,r⟩⟩⟩
 .exact .inr rfl
 .cases x with
  |lst es=>exact absurd rfl (hl es)
  |_=>exact .inr rfl
 .cases x with
  |int i=>
   cases y with
   |int j=>exact .inl ⟨i,j,rfl⟩
   |_=>exact .inr rfl
  |_=>exact .inr rfl
 .cases x with
  |int i=>cases y<;>exact .inr rfl
  |_=>exact .inr rfl
theorem oS(hc:X.calm=Ab):Jy X CL W (.builtin "min") (biD .min):=by
  intro A pI s Y H xs us Q I r ⟨hA,ds,rs,p⟩;by_cases hls:∃ es,ds=[.lst es]
  · obtain⟨es,rfl⟩:=hls;obtain⟨v,rfl,rv⟩:=rs.one;obtain⟨a,ys,rfl,sq,ry⟩:=rv.lst_of;have p':AS (Rep X.K CL · A) W H (match IM es with
      |some (i::is)=>R.ok (.int (Ic i is))
      | _=>.bad) Q:=p
    cases e1:IM es with
    |none=>rw[e1]at p';exact p'.elim
    |some is=>
      cases is with
      |nil=>rw[e1]at p';exact p'.elim
      |cons i is=>
        rw[e1]at p';have ey:=QR e1 ry;subst ey;exact aM hc pI s Y H _ us Q I r ⟨a,i,is,rfl,sq,p' _ H (Az.refl H) rfl⟩
  rcases ZE ds (λes z=>hls ⟨es,z⟩) with ⟨i,j,rfl⟩|e
  · obtain⟨v,w',rfl,rv,rw'⟩:=rs.two;have e1:=rv.int_of;have e2:=rw'.int_of
    subst e1 e2;exact aN hc pI s Y H _ us Q I r ⟨i,j,rfl,p _ H (Az.refl H) rfl⟩
  · rw[e]at p;exact p.elim
theorem cT:Jy X CL W (.type "tuple") (biD .tuple):=by
  intro A pI s Y H xs us Q I r ⟨hA,ds,rs,p⟩
  match ds,rs,p with
  |[.lst es],rs,p=>
    obtain⟨v,rfl,rv⟩:=rs.one;obtain⟨q,ys,rfl,sq,ry⟩:=rv.lst_of;exact Qz pI s Y H _ us Q I r ⟨q,ys,rfl,.inl ⟨sq,λl hl=>p _ _ (ET hl _) (Kx hA hl ry)⟩⟩
  |[.tup es],rs,p=>
    obtain⟨v,rfl,rv⟩:=rs.one;obtain⟨q,ys,rfl,na,sq,ry⟩:=rv.tup_of;exact Qz pI s Y H _ us Q I r ⟨q,ys,rfl,.inr ⟨sq,p _ H (Az.refl H) ⟨q,ys,rfl,na,sq,ry⟩⟩⟩
  |[],_,p=>exact p.elim
  |[.non],_,p=>exact p.elim
  |[.bl _],_,p=>exact p.elim
  |[.int _],_,p=>exact p.elim
  |[.str _],_,p=>exact p.elim
  |[.obj _ _],_,p=>exact p.elim
  |[.exc _ _],_,p=>exact p.elim
  |[.dic _],rs,p=>first|exact p.elim|(obtain⟨v,rfl,rv⟩:=rs.one;exact rv.plain.elim)
  |x::_::_,_,p=>cases x<;>exact p.elim
end
section
variable{X:Cx}{CL:ClA}{W:XW}{a b c:An}{fa fb fc:Rho->R D}{pos:AD}
theorem SB.congr{f g:Rho->R Am}(h:SB X CL W a f)(e:∀ U,g U=f U):SB X CL W a g:=λA=>PT.weak (h A) λY H Q ⟨hA,U,q,p⟩=>⟨hA,U,q,by rw[<-e];exact p⟩
theorem mE{f:Rho->R Am}(ha:SB X CL W a f):SB X CL W (.UnaryOp .Not a pos) (λU=>(f U).bind λb=>.ok (!b)):=λA=>PT.weak (lG (ha A)) λY H Q ⟨hA,U,g,p⟩=>⟨hA,U,g,CK.bindB p λb H1 _ s1 p1=>p1 H1 (Az.refl H1)⟩
def SW(X:Cx)(CL:ClA)(W:XW)(e:An)(f:Rho->R Am):Prop:=∀ A,PW X e (λY H Q=>AOk H A/\∃ U,Good X.K CL A U Y H/\CK W H (f U) Q)
theorem PW.weak{t t':TT}(h:PW X e t)(k:∀ Y H Q,t' Y H Q->t Y H Q):PW X e t':=λwh pI s Y H Q I q=>h wh pI s Y H Q I (k _ _ _ q)
theorem SW.sb{f:Rho->R Am}(h:SW X CL W a f):SB X CL W a f:=λA=>PW.pt (h A)
theorem SW.congr{f g:Rho->R Am}(h:SW X CL W a f)(e:∀ U,g U=f U):SW X CL W a g:=λA=>PW.weak (h A) λY H Q ⟨hA,U,q,p⟩=>⟨hA,U,q,by rw[<-e];exact p⟩
theorem dI{f:Rho->R Am}(ha:SB X CL W a f):SW X CL W (.BoolOp .And [a] pos) f:=λA=>gF (ha A)
theorem jT{f:Rho->R Am}(ha:SB X CL W a f):SW X CL W (.BoolOp .Or [a] pos) f:=λA=>lE (ha A)
theorem jU{f g:Rho->R Am}{rest:Ac An}(ha:SB X CL W a f)(hb:SW X CL W (.BoolOp .And (b::rest) pos) g):SW X CL W (.BoolOp .And (a::b::rest) pos) (λU=>(f U).bind λc=>if c=Ab then g U else .ok Ad):=
 λA=>PW.weak (lF (ha A) (hb A)) λY H Q ⟨hA,U,gd,p⟩=>⟨hA,U,gd,CK.bindB p λc H1 _ s1 p1=>by
  cases c with
  |true=>exact⟨hA.same s1,U,gd.same s1,p1⟩
  | false=>exact p1 H1 (Az.refl H1)⟩
theorem pV{f g:Rho->R Am}{rest:Ac An}(ha:SB X CL W a f)(hb:SW X CL W (.BoolOp .Or (b::rest) pos) g):SW X CL W (.BoolOp .Or (a::b::rest) pos) (λU=>(f U).bind λc=>if c=Ab then .ok Ab else g U):=
 λA=>PW.weak (sO (ha A) (hb A)) λY H Q ⟨hA,U,gd,p⟩=>⟨hA,U,gd,CK.bindB p λc H1 _ s1 p1=>by
  cases c with
  |false=>exact⟨hA.same s1,U,gd.same s1,p1⟩
  | true=>exact p1 H1 (Az.refl H1)⟩
theorem mF(ho:OpD X CL W (Cw op) g)(ha:ST X CL W a fa)(hb:ST X CL W b fb)(hm:GY op b=Ad):SB X CL W (.Compare a [op] [b] pos) (λU=>(fa U).bind λx=>(fb U).bind λy=>(g x y).bind DA):=
 λA=>PT.weak (gJ (ho A) (ha A) (hb A) hm) λY H Q ⟨hA,U,gd,p⟩=>⟨hA,U,gd,CK.bind p λdx x H1 _ s1 r1 p1=>⟨hA.same s1,U,gd.same s1,CK.bind p1 λdy y H2 _ s2 r2 p2=>
  ⟨(hA.same s1).same s2,dx,dy,r1.same s2,r2,CK.bind p2 λdz z H3 _ s3 r3 p3=>by
   cases dz with
   |bl k=>exact⟨k,r3,p3 H3 (Az.refl H3)⟩
   | _=>exact p3.elim⟩⟩⟩
theorem ZS{op':C5}(hu:X.A.units+64<BG)(ha:ST X CL W a fa)(hb:ST X CL W b fb)(hc:ST X CL W c fc)(hm:Jm [op,op'] [b,c]=Ad):SB X CL W (.Compare a [op,op'] [b,c] pos) (λU=>(fa U).bind λx=>(fb U).bind λy=>(Bp op x y).bind λz=>(DA z).bind λk=>if k=Ab then (fc U).bind λu=>(Bp op' y u).bind DA else .ok Ad):=
  λA=>PT.weak (bR (Kw hu op A) (Kw hu op' A) (ha A) (hb A) (hc A) hm) λY H Q ⟨hA,U,g,p⟩=>⟨hA,U,g,CK.bind p λdx x H1 _ s1 r1 p1=>⟨hA.same s1,U,g.same s1,CK.bind p1 λdy y H2 _ s2 r2 p2=>
    ⟨(hA.same s1).same s2,dx,dy,r1.same s2,r2,CK.bind p2 λdz z H3 _ s3 r3 p3=>by
      cases dz with
      |bl k=>
        refine⟨k,r3,?_⟩;cases k with
        |false=>exact⟨Ad,rfl,p3 H3 (Az.refl H3)⟩
        | true=>exact⟨((hA.same s1).same s2).same s3,U,((g.same s1).same s2).same s3,CK.bind p3 λdu u H4 _ s4 r4 p5=>⟨(((hA.same s1).same s2).same s3).same s4,dy,du,(r2.same s3).same s4,r4,CK.bind p5 λdv v H5 _ s5 r5 p6=>by
            cases dv with
            |bl k'=>exact⟨k',r5,p6 H5 (Az.refl H5)⟩
            | _=>exact p6.elim⟩⟩
      | _=>exact p3.elim⟩⟩⟩
theorem mD(ha:ST X CL W a fa)(he:∀ whole,Ik a X.env whole=(do let v <-whole;standAt a.pos;holding [v] (truthy v))):SB X CL W a (λU=>(fa U).bind BY):=
 λA=>PT.weak (ZW (ha A) he) λY H Q ⟨hA,U,g,p⟩=>⟨hA,U,g,CK.bind p λd v H1 _ s1 r1 p1=>by
  cases d with
  |non=>
   have e:=r1.non_of;subst e;exact⟨Ad,rfl,p1 H1 (Az.refl H1)⟩
  |bl b=>
   have e:=r1.bl_of;subst e;exact⟨b,rfl,p1 H1 (Az.refl H1)⟩
  |int i=>
   have e:=r1.int_of;subst e;exact⟨_,rfl,p1 H1 (Az.refl H1)⟩
  |str x=>
   have e:=r1.str_of;subst e;have p2:CK W H1 (if Cd x.length=Ab then .ok (x.length != 0) else .bad) Q:=p1
   split at p2
   .rename_i h;refine⟨_,⟨JN h,rfl⟩,?_⟩;have e:((x.length:Ah) != 0)=(x.length != 0):=by
     rw[Eh];simp
    rw[e];exact p2 H1 (Az.refl H1)
   .exact p2.elim
  |tup ds=>
   obtain⟨q,xs,rfl,_,sq,r⟩:=r1.tup_of;refine⟨_,.inr (.inl ⟨xs,sq,rfl⟩),?_⟩;have e:xs.isEmpty=ds.isEmpty:=by
    have:=r.length;cases xs<;>cases ds<;>first|rfl|cases this
   rw[e];exact p1 H1 (Az.refl H1)
  |lst ds=>
   obtain⟨q,xs,rfl,sq,r⟩:=r1.lst_of;refine⟨_,.inl ⟨xs,sq,rfl⟩,?_⟩;have e:xs.isEmpty=ds.isEmpty:=by
    have:=r.length;cases xs<;>cases ds<;>first|rfl|cases this
   rw[e];exact p1 H1 (Az.refl H1)
  | _=>exact p1.elim⟩
noncomputable def Ys(K:Fg)(CL:ClA)(H:Hp)(A:Ak->Prop)(cls:Aj)(dx:Ao Ak)(x:Ex):Prop:=
 ∃ C,CL x.c=Aa C/\cls=.ref C/\(x.fs=[]\/∃ d vs,dx=Aa d/\¬ A d/\H d=Aa (.xd vs)/\Repf K CL H A vs x.fs)
def Fe(K:Fg)(CL:ClA)(H:Hp)(cls:Aj)(dx:Ao Ak)(x:Ex):Prop:=∀ A,AOk H A->Ys K CL H A cls dx x
end
structure Fr where
 f:Ak->HO->Prop
 pin:Af->Ak->Ac V->Prop
variable{Fz:Fr}
instance:CoeFun Fr λ_=>Ak->HO->Prop:=⟨Fr.f⟩
def Bq(B:Ak->Prop)(U:Rho)(Y:L2.St):Ak->Prop:=λa=>B a\/∃(j:Af)(d:D),U[j]?=Aa (Aa (d,Ab))/\Y[j]?=Aa (Aa (.ref a))
structure Sx (K:Fg) (CL:ClA) (Fz:Fr) (B:Ak->Prop) (U:Rho) (Y:L2.St) (H:Hp):Prop where
 good:Good K CL (Bq B U Y) U Y H
 aok:AOk H (Bq B U Y)
 new:∀(j:Af)(d:D)(a:Ak),U[j]?=Aa (Aa (d,Ab))->Y[j]?=Aa (Aa (.ref a))->(∀ o,¬ Fz a o)/\¬ B a
 dis:∀(i j:Af)(d e:D)(a:Ak),U[i]?=Aa (Aa (d,Ab))->U[j]?=Aa (Aa (e,Ab))->Y[i]?=Aa (Aa (.ref a))->Y[j]?=Aa (Aa (.ref a))->i=j
 same:∀ b o,Fz b o->H b=Aa o
 len:U.length=Y.length
 pin:∀ j:Af,U[j]?=Aa (Aa (.non,Ab))->∃ a xs,Fz.pin j a xs/\Y[j]?=Aa (Aa (.ref a))/\H a=Aa (.lst xs)
def Bx(K:Fg)(CL:ClA)(Fz:Fr)(B:Ak->Prop)(W:XW)(o:O)(D:Ends):Prop:=match o with
  |.next U=>∀ Y H,Sx K CL Fz B U Y H->D.nx Y H
  |.brk U=>∀ Y H,Sx K CL Fz B U Y H->D.bk Y H
  |.cont U=>∀ Y H,Sx K CL Fz B U Y H->D.ct Y H
  |.ret d fr=>∀ v H,(∀ b o,Fz b o->H b=Aa o)->Rep K CL H B v d->(fr=Ab->∀ ds,d=.lst ds->∃ a xs,v=.ref a/\(∀ o,¬ Fz a o)/\H a=Aa (.lst xs)/\Reps K CL H (λb=>B b\/b=a) xs ds)->D.rt v H
  |.exn x _=>∀ H,(∀ b o,Fz b o->H b=Aa o)->W x H
  |.bad=>AW
section
variable{K:Fg}{CL:ClA}{Fz Fy:Fr}{B:Ak->Prop}{U:Rho}{Y:L2.St}{H H':Hp}
theorem Sx.mono(k:∀ b o,Fz b o->Fy b o)(kp:∀ j a xs,Fy.pin j a xs->Fz.pin j a xs)(x:Sx K CL Fy B U Y H):Sx K CL Fz B U Y H:=⟨x.good,x.aok,λj d a h1 h2=>⟨λo z=>(x.new j d a h1 h2).1 o (k _ _ z),(x.new j d a h1 h2).2⟩,x.dis,λb o z=>x.same b o (k _ _ z),x.len,λj h=>let ⟨a,xs,h1,h2⟩:=x.pin j h;⟨a,xs,kp _ _ _ h1,h2⟩⟩
theorem Sx.grow(x:Sx K CL Fz B U Y H)(s:Az H H'):Sx K CL Fz B U Y H':=⟨x.good.same s,x.aok.same s,x.new,x.dis,λb o z=>s _ _ (x.same b o z),x.len,λj h=>let ⟨a,xs,h1,h2,h3⟩:=x.pin j h;⟨a,xs,h1,h2,s _ _ h3⟩⟩
theorem BQ{l:Ac α}{v:α}(h:i≠j):(l.set i v)[j]?=l[j]?:=by rw[Ge h]
theorem Gp{l:Ac α}{v w':α}(h:(l.set i v)[i]?=Aa w'):w'=v:=by
 rw[FE]at h;cases e:l[i]? with
 |none=>rw[e]at h;cases h
 |some x=>rw[e]at h;cases h;rfl
theorem Sx.set(x:Sx K CL Fz B U Y H){v:V}{d:D}(i:Af)(r:Rep K CL H (Bq B U Y) v d):Sx K CL Fz B (U.set i (Aa (d,Ad))) (Y.set i (Aa v)) H:=by
 have own:∀(j:Af)(e:D),(U.set i (Aa (d,Ad)))[j]?=Aa (Aa (e,Ab))->i≠j/\U[j]?=Aa (Aa (e,Ab)):=λj e h=>by
  by_cases hj:i=j
  .subst hj;have:=Gp h;cases this
  .exact⟨hj,by rw[BQ hj]at h;exact h⟩
 have sub:∀ a,Bq B (U.set i (Aa (d,Ad))) (Y.set i (Aa v)) a->Bq B U Y a:=λa h=>by
  rcases h with h|⟨j,e,h1,h2⟩
  .exact .inl h
  .obtain⟨hj,h1⟩:=own j e h1;rw[BQ hj]at h2;exact .inr ⟨j,e,h1,h2⟩
 refine⟨⟨λj e h=>?_,λj e h hn=>?_,by rw[AV,AV];exact x.len⟩,λa h=>x.aok a (sub a h),λj e a h1 h2=>?_,λj k e f a h1 h2 h3 h4=>?_,x.same,by rw[AV,AV];exact x.len,λj h=>?_⟩
 .by_cases hj:i=j
  .subst hj;have e1:=Gp h;cases e1;refine⟨v,?_,Rep.sub sub _ r⟩;have hl:i<Y.length:=by
    rw[<-x.len];have:=(A5.mp h).1;simpa using this
   rw[Cu hl]
  .rw[BQ hj]at h;obtain⟨w',q,rw'⟩:=x.good.sh j e h;exact⟨w',by rw[BQ hj];exact q,Rep.sub sub _ rw'⟩
 .obtain⟨hj,h1⟩:=own j e h;obtain⟨a,xs,ds,q,z,ha,hh,rr⟩:=x.good.ow j e h1 hn;exact⟨a,xs,ds,by rw[BQ hj];exact q,z,.inr ⟨j,e,h,by rw[BQ hj];exact q⟩,hh,Reps.sub sub _ rr⟩
 .obtain⟨hj,h1⟩:=own j e h1;rw[BQ hj]at h2;exact x.new j e a h1 h2
 .obtain⟨hj,h1⟩:=own j e h1;obtain⟨hk,h2⟩:=own k f h2;rw[BQ hj]at h3;rw[BQ hk]at h4;exact x.dis j k e f a h1 h2 h3 h4
 .obtain⟨hj,h1⟩:=own j _ h;obtain⟨a,xs,p1,p2,p3⟩:=x.pin j h1;exact⟨a,xs,p1,by rw[BQ hj];exact p2,p3⟩
end
section
variable{X:Cx}{CL:ClA}{W:XW}{pos:AD}{e:An}{fe:Rho->R D}
def SS(X:Cx)(CL:ClA)(W:XW)(st:AJ)(f:Rho->O):Prop:=∀ Fz B,PS X st (λD Y H=>∃ U,Sx X.K CL Fz B U Y H/\Bx X.K CL Fz B W (f U) D)
def SSs(X:Cx)(CL:ClA)(W:XW)(st:Ac AJ)(f:Rho->O):Prop:=∀ Fz B,PSs X st (λD Y H=>∃ U,Sx X.K CL Fz B U Y H/\Bx X.K CL Fz B W (f U) D)
theorem PS.weak{e:AJ}{t t':TS}(h:PS X e t)(k:∀ D Y H,t' D Y H->t D Y H):PS X e t':=λpI s Y H D I q=>h pI s Y H D I (k _ _ _ q)
theorem PSs.weak{e:Ac AJ}{t t':TS}(h:PSs X e t)(k:∀ D Y H,t' D Y H->t D Y H):PSs X e t':=λpI s Y H D I q=>h pI s Y H D I (k _ _ _ q)
theorem Bx.ex{f:D->O}(x:Sx X.K CL Fz B U Y H)(h:Bx X.K CL Fz B W (O.of U r f) D')(k:∀ d v H',r=.ok d->Az H H'->Rp H' v d->Sx X.K CL Fz B U Y H'->Bx X.K CL Fz B W (f d) D'->Q v H'):AS Rp W H r Q:=by
 cases r with
 |ok d=>exact λv H' s r=>k d v H' rfl s r (x.grow s) h
 |exn y=>exact λH' s=>h H' λb o z=>s _ _ (x.same b o z)
 |bad=>exact h
theorem Bx.exB{r:R Am}{f:Am->O}{Q:Am->Hp->Prop}(x:Sx X.K CL Fz B U Y H)(h:Bx X.K CL Fz B W (O.of U r f) D')(k:∀ b H',r=.ok b->Az H H'->Sx X.K CL Fz B U Y H'->Bx X.K CL Fz B W (f b) D'->Q b H'):CK W H r Q:=by
 cases r with
 |ok d=>exact λH' s=>k d H' rfl s (x.grow s) h
 |exn y=>exact λH' s=>h H' λb o z=>s _ _ (x.same b o z)
 |bad=>exact h
theorem dQ:SS X CL W (.Pass pos) (λU=>.next U):=λFz B=>PS.weak gN λD Y H ⟨U,x,p⟩=>p Y H x
theorem dS(he:SE X CL W e fe)(hs:CS e Ae pos.line X.env=pure Ad):SS X CL W (.Expr e pos) (λU=>O.of U (fe U) λ_=>.next U):=λFz B pI s Y H D I ⟨U,x,p⟩=>
 LC (he (Bq B U Y)) hs pI s Y H D I ⟨x.aok,U,x.good,Bx.ex x p λd v H' _ s r x' q=>q Y H' x'⟩
theorem kB{n:Ag}(hN:X.N.Nodup)(hi:X.N[i]?=Aa n)(hx:Loc X.env.scope n)(he:SE X CL W e fe)(hs:CS e (Aa (.Name n pos')) pos.line X.env=pure Ad)(hf:X.fn n=Ab\/X.env.scope.names.lookup n=Aa .local):SS X CL W (.Assign [.Name n pos'] e pos) (λU=>O.of U (fe U) λd=>.next (U.set i (Aa (d,Ad)))):=λFz B pI s Y H D I ⟨U,x,p⟩=>
 MY hN hi hx (he (Bq B U Y)) hs hf pI s Y H D I ⟨x.aok,U,x.good,Bx.ex x p λd v H' _ s r x' q=>q _ H' (x'.set i r)⟩
theorem dP(he:SE X CL W e fe):SS X CL W (.Return (Aa e) pos) (λU=>O.of U (fe U) λd=>.ret d Ad):=λFz B pI s Y H D I ⟨U,x,p⟩=>
 Pe (he (Bq B U Y)) pI s Y H D I ⟨x.aok,U,x.good,Bx.ex x p λd v H' _ s r x' q=>q v H' x'.same (Rep.sub (λa h=>.inl h) _ r) λz=>nomatch z⟩
theorem pK{a b:Ac AJ}{fa fb:Rho->O}(hc:SB X CL W c fc)(ha:SSs X CL W a fa)(hb:SSs X CL W b fb):SS X CL W (.If c a b pos) (λU=>O.of U (fc U) λk=>if k=Ab then fa U else fb U):=λFz B pI s Y H D I ⟨U,x,p⟩=>
 sQ (hc (Bq B U Y)) (ha Fz B) (hb Fz B) pI s Y H D I ⟨x.aok,U,x.good,Bx.exB x p λk H' _ s x' q=>by
  cases k with
  |true=>exact⟨U,x',q⟩
  | false=>exact⟨U,x',q⟩⟩
theorem RW:SSs X CL W [] (λU=>.next U):=λFz B=>PSs.weak gK λD Y H ⟨U,x,p⟩=>p Y H x
theorem OI{st:AJ}{rest:Ac AJ}{f g:Rho->O}(h1:SS X CL W st f)(h2:SSs X CL W rest g):SSs X CL W (st::rest) (λU=>(f U).seq g):=λFz B=>PSs.weak (Ot (h1 Fz B) (h2 Fz B)) λD Y H ⟨U,x,p⟩=>⟨U,x,by
 dsimp only at p;cases e:f U with
 |next U'=>rw[e]at p;exact λY' H' x'=>⟨U',x',p⟩
 |ret d b=>rw[e]at p;exact p
 |brk U'=>rw[e]at p;exact p
 |cont U'=>rw[e]at p;exact p
 |exn y U'=>rw[e]at p;exact p
 | bad=>rw[e]at p;exact p⟩
end
def IU(K:Fg)(CL:ClA)(A:Ak->Prop)(ds:Ac D)(J:It)(H1:Hp):Prop:=∀ H,Kp A H1 H->∀ i:Af,(ds.length<=i->J.stop i H)/\∀ d,ds[i]?=Aa d->J.go i H/\∀ x H',J.yld i H x H'->Az H H'/\∀ B,(∀ a,B a->A a\/H1 a=Ae)->AOk H B->Rep K CL H' B x d
def EU(K:Fg)(CL:ClA)(A:Ak->Prop)(W:XW)(H:Hp)(r:R (Ac D))(Q:It->Hp->Prop):Prop:=match r with
  |.ok ds=>∀ J H',Az H H'->IU K CL A ds J H'->ds.length<=sizeLine->Q J H'
  |.exn x=>∀ H',Az H H'->W x H'
  |.bad=>AW
def SI(X:Cx)(CL:ClA)(W:XW)(tg iter:An)(f:Rho->R (Ac D)):Prop:=∀ A,PI X tg iter (λY H R=>AOk H A/\∃ U,Good X.K CL A U Y H/\EU X.K CL A W H (f U) R)
theorem PI.weak{t t':TI}(h:PI X tg e t)(k:∀ Y H Q,t' Y H Q->t Y H Q):PI X tg e t':=λpI s Y H Q I q=>h pI s Y H Q I (k _ _ _ q)
section
variable{X:Cx}{CL:ClA}{W:XW}{pos p:AD}{tg e a b:An}{fe fa fb:Rho->R D}
theorem EU.ex{f:D->R (Ac D)}{Q:It->Hp->Prop}{Q':VK}(h:EU X.K CL A W H (r.bind f) Q)(k:∀ d v H',r=.ok d->Az H H'->Rp H' v d->EU X.K CL A W H' (f d) Q->Q' v H'):AS Rp W H r Q':=by
  cases r with
  | ok d=>exact λv H' s q=>k d v H' rfl s q (by
      have h':EU X.K CL A W H (f d) Q:=h;cases e:f d with
      |ok ds=>rw[e]at h';exact λJ H2 s2 y z=>h' J H2 (s.trans s2) y z
      |exn y=>rw[e]at h';exact λH2 s2=>h' H2 (s.trans s2)
      | bad=>rw[e]at h';exact h')
  |exn y=>exact h
  |bad=>exact h
theorem Oj{x:V}(r:Rep K CL H1 A x d)(k:Kp A H1 H)(hB:∀ a,B a->A a\/H1 a=Ae):Rep K CL H B x d:=by
 have r1:Rep K CL H1 (λa=>A a\/B a) x d:=Rep.wide (λa ha=>ha.elim .inl (hB a)) _ r
 have r2:Rep K CL H (λa=>A a\/B a) x d:=Rep.kp (λb o e na=>k b o e λz=>na (.inl z)) _ r1
 exact Rep.sub (λa ha=>.inr ha) _ r2
theorem YZ{ds:Ac D}(na:¬ A q\/KL K q xs)(s:SqL K H q xs)(r:Reps K CL H A xs ds):IU K CL A ds (Itl K q) H:=λH' k i=>by
 have s':=MV k na s;refine⟨λh=>⟨xs,s',by rw[r.length];exact h⟩,λd hd=>?_⟩
 obtain⟨v,hv,rv⟩:=r.get hd;exact⟨⟨xs,v,s',hv⟩,λx H2 ⟨e,y⟩=>by
  subst e;have:=y xs s';rw[hv]at this;cases this;exact⟨Az.refl _,λB hB _=>Oj rv k hB⟩⟩
theorem ZX{ds:Ac D}(na:¬ A q\/KT K q xs)(s:SqT K H q xs)(r:Reps K CL H A xs ds):IU K CL A ds (Itt K q) H:=λH' k i=>by
 have s':=MU k na s;refine⟨λh=>⟨xs,s',by rw[r.length];exact h⟩,λd hd=>?_⟩
 obtain⟨v,hv,rv⟩:=r.get hd;exact⟨⟨xs,v,s',hv⟩,λx H2 ⟨e,y⟩=>by
  subst e;have:=y xs s';rw[hv]at this;cases this;exact⟨Az.refl _,λB hB _=>Oj rv k hB⟩⟩
theorem RO(lo:Ah)(n:Af):IU K CL A (EW lo n) (Itr lo n) H:=λH' k i=>by
 refine⟨λh=>by rw[Lk]at h;exact h,λd hd=>?_⟩
 obtain⟨h1,rfl⟩:=OF hd;exact⟨h1,λx H2 ⟨e,y⟩=>by
  subst e y;exact⟨Az.refl _,λ_ _ _=>rfl⟩⟩
theorem lJ{l:An}{tl:TE}(hl:PE X l tl):PI X tg l (λY H R=>tl Y H λx H1=>(∃ a,x=.ref a/\(∃ xs,SqL X.K H1 a xs/\(xs.length<=sizeLine->R (Itl X.K a) H1)))\/∃ a,x=.ref a/\(∃ xs,SqT X.K H1 a xs/\(xs.length<=sizeLine->R (Itt X.K a) H1))):=by
 intro pI s Y H R I h;refine thn (hl pI s Y H _ I h) λv s1 ⟨x,H1,I1,r1,q1⟩=>?_
 rcases q1 with ⟨a,e,xs,hq,q⟩|⟨a,e,xs,hq,q⟩
 .subst e;cases r1;obtain⟨its,rv,p,hz⟩:=I1.list hq;refine FL p.isList ?_;refine⟨s1.heap.objs.size,[s1.heap.objs.size],_,_,H1,rfl,I1.kept (t':=s1.toks) λb o e=>Au _ e,Zf a _,⟨_,A3 _ rfl,rfl,rfl⟩,λb hb=>?_,q hz⟩
  have e:b=s1.heap.objs.size:=by simpa using hb
  subst e;exact I1.fpOk (AL _) (I1.hok.fresh (AL _))
 .subst e;cases r1;obtain⟨its,rv,p,hz⟩:=I1.tuple hq;refine GU (show s1.heap.IsTuple a its.toArray from p) ?_
  refine⟨s1.heap.objs.size,[s1.heap.objs.size],_,_,H1,rfl,I1.kept (t':=s1.toks) λb o e=>Au _ e,Y_1 a _,⟨_,A3 _ rfl,rfl,rfl⟩,λb hb=>?_,q hz⟩
  have e:b=s1.heap.objs.size:=by simpa using hb
  subst e;exact I1.fpOk (AL _) (I1.hok.fresh (AL _))
theorem tY(he:SE X CL W e fe):SI X CL W tg e (λU=>(fe U).bind Ey):=λA=>PI.weak (lJ (he A)) λY H R ⟨hA,U,g,p⟩=>⟨hA,U,g,EU.ex p λd v H1 _ s1 r1 p1=>by
 cases d with
 |lst ds=>
  obtain⟨q,xs,rfl,na,sq,r⟩:=r1;exact .inl ⟨q,rfl,xs,sq,λhz=>p1 _ H1 (Az.refl H1) (YZ na sq r) (by rw[<-r.length];exact hz)⟩
 |tup ds=>
  obtain⟨q,xs,rfl,na,sq,r⟩:=r1;exact .inr ⟨q,rfl,xs,sq,λhz=>p1 _ H1 (Az.refl H1) (ZX na sq r) (by rw[<-r.length];exact hz)⟩
 | _=>exact p1.elim⟩
theorem Re{lo hi:Ah}{ds:Ac D}(h:Ee lo hi=.ok ds):(-(2 ^ 62)<=lo/\lo<2 ^ 62)/\(-(2 ^ 62)<=hi/\hi<2 ^ 62)/\ds=EW lo (hi-lo).toNat/\(EW lo (hi-lo).toNat).length<=sizeLine:=by
 unfold Ee at h;split at h
 .rename_i q;cases h;exact⟨by omega,by omega,rfl,by rw[Lk,Cj];omega⟩
 .cases h
theorem QO{lo hi:Ah}{x:Ex}(h:Ee lo hi=.exn x):AW:=by
 unfold Ee at h;split at h<;>cases h
theorem jI(ha:ST X CL W a fa)(hg:Gl X "range")(hm:X.mg "range" = Ae)(hs:As [a] X.env=[(Ad,eval a X.env)]):SI X CL W tg (.Call (.Name "range" p) [a] [] pos) (λU=>(fa U).bind λx=>(Fv x).bind λj=>Ee 0 j):=
 λA=>PI.weak (ZP hg hm (DT (ha A) Ft hs) hs) λY H R ⟨hA,U,g,q⟩=>⟨hA,U,g,EU.ex q λd v H1 _ s1 r1 p1=>by
  cases d with
  |int j=>
   have e:=r1.int_of;subst e;have p2:EU X.K CL A W H1 (Ee 0 j) R:=p1;cases e2:Ee 0 j with
   |ok ds=>
    rw[e2]at p2;obtain⟨_,h2,rfl,hz⟩:=Re e2;exact⟨j,rfl,h2.1,h2.2,p2 _ H1 (Az.refl H1) (by rw[VV];exact RO 0 j.toNat) hz⟩
   |exn y=>exact(QO e2).elim
   |bad=>rw[e2]at p2;exact p2.elim
  | _=>exact p1.elim⟩
theorem dY(ha:ST X CL W a fa)(hb:ST X CL W b fb)(hg:Gl X "range")(hm:X.mg "range" = Ae)(hs:As [a,b] X.env=[(Ad,eval a X.env),(Ad,eval b X.env)])(hs2:As [b] X.env=[(Ad,eval b X.env)]):
  SI X CL W tg (.Call (.Name "range" p) [a,b] [] pos) (λU=>(fa U).bind λx=>(fb U).bind λy=>(Fv x).bind λi=>(Fv y).bind λj=>Ee i j):=
 λA=>PI.weak (ZO hg hm (DT (ha A) (DT (hb A) Ft hs2) (by rw[hs,hs2])) hs hs2) λY H R ⟨hA,U,g,q⟩=>⟨hA,U,g,EU.ex q λd v H1 _ s1 r1 p1=>⟨hA.same s1,U,g.same s1,EU.ex p1 λd2 v2 H2 _ s2 r2 p2=>by
  cases d with
  |int i=>
   cases d2 with
   |int j=>
    have e:=r1.int_of;have e':=r2.int_of
    subst e e';have p3:EU X.K CL A W H2 (Ee i j) R:=p2;cases e2:Ee i j with
    |ok ds=>
     rw[e2]at p3;obtain⟨h1,h2,rfl,hz⟩:=Re e2;exact⟨i,j,rfl,⟨h1.1,h1.2,h2.1,h2.2⟩,p3 _ H2 (Az.refl H2) (RO _ _) hz⟩
    |exn y=>exact(QO e2).elim
    |bad=>rw[e2]at p3;exact p3.elim
   |_=>exact p2.elim
  | _=>exact p2.elim⟩⟩
theorem Bx.exI{r:R (Ac D)}{f:Ac D->O}{Q:It->Hp->Prop}(x:Sx X.K CL Fz B U Y H)(h:Bx X.K CL Fz B W (O.of U r f) D')(k:∀ ds J H',r=.ok ds->Az H H'->IU X.K CL A ds J H'->ds.length<=sizeLine->Sx X.K CL Fz B U Y H'->Bx X.K CL Fz B W (f ds) D'->Q J H'):EU X.K CL A W H r Q:=by
 cases r with
 |ok d=>exact λJ H' s y z=>k d J H' rfl s y z (x.grow s) h
 |exn y=>exact λH' s=>h H' λb o z=>s _ _ (x.same b o z)
 |bad=>exact h
theorem Bx.turn{Fy:Fr}{o:O}{g:Rho->O}{N:L2.St->Hp->Prop}(hf:∀ b q,Fz b q->Fy b q)(hp:∀ j a xs,Fy.pin j a xs->Fz.pin j a xs)(h:Bx K CL Fz B W (o.turn g) D')(k:∀ U' Y' H',Sx K CL Fy B U' Y' H'->Bx K CL Fz B W (g U') D'->N Y' H'):Bx K CL Fy B W o {D' with nx:=N,ct:=N,bk:=D'.nx}:=by
 cases o with
 |next U'=>exact λY' H' x=>k U' Y' H' x h
 |cont U'=>exact λY' H' x=>k U' Y' H' x h
 |brk U'=>exact λY' H' x=>h Y' H' (x.mono hf hp)
 |ret d b=>exact λv H' s r n=>h v H' (λb o z=>s b o (hf b o z)) r λz ds e=>let ⟨a,xs,h1,h2,h3⟩:=n z ds e;⟨a,xs,h1,λo q=>h2 o (hf a o q),h3⟩
 |exn y U'=>exact λH' s=>h H' (λb o z=>s b o (hf b o z))
 |bad=>exact h
noncomputable def Fd(ts:Ac Af)(U:Rho):Rho:=ts.foldl (λU t=>U.set t Ae) U
def GT(K:Fg)(CL:ClA)(as:D->Rho->R Rho)(g:TG):Prop:=∀ Fz B U Y H v d U' Q,Sx K CL Fz B U Y H->Rep K CL H (Bq B U Y) v d->as d U=.ok U'->(∀ Y',Sx K CL Fz B U' Y' H->Q Y' H)->g v Y H Q
theorem iV(i:Af):GT K CL (λd U=>.ok (U.set i (Aa (d,Ad)))) (FQ i):=λFz B U Y H v d U' Q x r e k=>by
 cases e;exact k _ (x.set i r)
theorem TJ{K:Fg}{Fz:Fr}{B:Ak->Prop}{H:Hp}:∀(ts:Ac Af)(ds:Ac D)(vs:Ac V)(U U':Rho)(Y:L2.St)(Q:L2.St->Hp->Prop),Sx K CL Fz B U Y H->Reps K CL H (Bq B U Y) vs ds->EI ts ds U=Aa U'->(∀ Y',Sx K CL Fz B U' Y' H->Q Y' H)->(ts.foldr (λt u=>IN (FQ t) u) IR) vs Y H Q
 |[],[],[],U,U',Y,Q,x,_,e,k=>by
  cases e;exact⟨rfl,k Y x⟩
 |t::ts,d::ds,v::vs,U,U',Y,Q,x,r,e,k=>by
  refine⟨v,vs,rfl,TJ ts ds vs _ U' _ Q (x.set t r.1) (Reps.sub (λa ha=>?_) ds r.2) e k⟩
  rcases ha with ha|⟨j,c,h1,h2⟩
  .exact .inl ha
  .by_cases hj:t=j
   .subst hj;have:=Gp h1;cases this
   .rw[BQ hj]at h1 h2;exact .inr ⟨j,c,h1,h2⟩
 |[],_::_,_,_,_,_,_,_,_,e,_=>by cases e
 |_::_,[],_,_,_,_,_,_,_,e,_=>by cases e
 |[],[],_::_,_,_,_,_,_,r,_,_=>r.elim
 |_::_,_::_,[],_,_,_,_,_,r,_,_=>r.elim
theorem N1:∀(ts:Ac Af)(ds:Ac D)(U U':Rho),EI ts ds U=Aa U'->ds.length=ts.length
 |[],[],_,_,_=>rfl
 |_::ts,_::ds,_,_,e=>congrArg (· + 1) (N1 ts ds _ _ e)
 |[],_::_,_,_,e=>by cases e
 |_::_,[],_,_,e=>by cases e
theorem TH(ts:Ac Af):GT K CL (ES ts) (LZ K ts.length (ts.foldr (λt u=>IN (FQ t) u) IR)):=λFz B U Y H v d U' Q x r e k=>by
 cases d with
 |tup ds=>
  obtain⟨a,xs,rfl,na,sq,rs⟩:=r;rw[QT]at e;cases e2:EI ts ds U with
  |none=>rw[e2]at e;cases e
  |some U2=>
   rw[e2]at e;cases e;exact⟨a,xs,rfl,sq,by rw[rs.length];exact N1 _ _ _ _ e2,TJ ts ds xs U _ Y Q x rs e2 k⟩
 |_=>cases e
theorem TX{g:TG}(hp:DX (model X.prog X.w) X.A X.env X.xe)(hc:X.calm=Ab)(hGT:GT X.K CL as g)(hg:PG X tg g)(hit:SI X CL W tg iter fi)(hb:SSs X CL W body fbd)(hs:∀ x,B4 iter X.env x=pure x)(hax:∀ d U x,as d U≠.exn x):SS X CL W (.For tg iter body [] pos) (λU=>O.of U (fi U) λxs=>Dk (λx U'=>O.of U' (as x U') fbd) xs U):=λFz B pI s Y H D I ⟨U,x,p⟩=>by
 refine Tt hp hc (hit (Bq B U Y)) hg (tb:=λD Y H=>∃ Fy,(λD Y H=>∃ U,Sx X.K CL Fy B U Y H/\Bx X.K CL Fy B W (fbd U) D) D Y H) (λpI s Y H D I ⟨Fy,q⟩=>hb Fy B pI s Y H D I q) hs pI s Y H D I ⟨x.aok,U,x.good,Bx.exI x p λds J H1 _ s1 y _ x1 q=>?_⟩
 let Fy:Fr:=⟨λb o=>H1 b=Aa o/\¬ ∃(j:Af)(d:Ov.D),U[j]?=Aa (Aa (d,Ab))/\Y[j]?=Aa (Aa (.ref b)),Fz.pin⟩
 have hfy:∀ b o,Fz b o->Fy b o:=λb o z=>⟨x1.same b o z,λ⟨j,d,h1,h2⟩=>(x1.new j d b h1 h2).1 o z⟩
 have xy:Sx X.K CL Fy B U Y H1:=⟨x1.good,x1.aok,λj d a h1 h2=>⟨λo z=>z.2 ⟨j,d,h1,h2⟩,(x1.new j d a h1 h2).2⟩,x1.dis,λb o z=>z.1,x1.len,x1.pin⟩
 refine⟨λk m Y' H'=>m=ds.length-k/\k<=ds.length/\∃ U',Sx X.K CL Fy B U' Y' H'/\Bx X.K CL Fz B W (Dk (λx U'=>O.of U' (as x U') fbd) (ds.drop k) U') D,⟨ds.length,by simp,DW _,U,xy,q⟩,?_⟩
 rintro k m Y' H' ⟨rfl,hk,U',x',q'⟩;have kp:Kp (Bq B U Y) H1 H':=λb o e na=>x'.same b o ⟨e,λz=>na (.inr z)⟩
 obtain⟨yst,ygo⟩:=y H' kp k;by_cases hlt:k<ds.length
 .have hd:ds[k]?=Aa ds[k]:=Bc hlt;obtain⟨hgo,hyl⟩:=ygo _ hd;refine .inr ⟨hgo,λY'' H''=>∃ U'',Sx X.K CL Fy B U'' Y'' H''/\Bx X.K CL Fz B W (Dk (λx U'=>O.of U' (as x U') fbd) (ds.drop (k+1)) U'') D,λY'' H'' z=>⟨ds.length-(k+1),by omega,rfl,hlt,z⟩,λv H2 hv=>?_⟩
  obtain⟨e2,rv⟩:=hyl v H2 hv;rw[DL hlt]at q';have q2:Bx X.K CL Fz B W ((O.of U' (as ds[k] U') fbd).turn (Dk (λx U'=>O.of U' (as x U') fbd) (ds.drop (k+1)))) D:=q'
  have rv':Rep X.K CL H2 (Bq B U' Y') v ds[k]:=rv _ (λa ha=>by
    rcases ha with ha|⟨j,d,h1,h2⟩
    .exact .inl (.inl ha)
    .cases e:H1 a with
     |none=>exact .inr rfl
     |some o=>
      by_cases ho:∃(j:Af)(d:Ov.D),U[j]?=Aa (Aa (d,Ab))/\Y[j]?=Aa (Aa (.ref a))
      .exact .inl (.inr ho)
      .exact absurd ⟨e,ho⟩ ((x'.new j d a h1 h2).1 o)) x'.aok
  cases ea:as ds[k] U' with
  |bad=>rw[ea]at q2;exact q2.elim
  |exn z=>exact absurd ea (hax _ _ z)
  |ok U2=>
   rw[ea,O.of_ok]at q2;exact hGT Fy B U' Y' H2 v ds[k] U2 _ (x'.grow e2) rv' ea λY3 x3=>⟨Fy,U2,x3,Bx.turn hfy (λ_ _ _ z=>z) q2 λU3 Y3 H3 x3 q3=>⟨U3,x3,q3⟩⟩
 .have hk':ds.length<=k:=by omega
  rw[Ep hk']at q';exact .inl ⟨yst hk',q' Y' H' (x'.mono hfy λ_ _ _ z=>z)⟩
theorem aA(n:Af)(hp:DX (model X.prog X.w) X.A X.env X.xe)(hc:SB X CL W c fc)(hb:SSs X CL W body fbd):SS X CL W (.While c body [] pos) (λU=>JE fc fbd n U):=λFz B pI s Y H D I ⟨U,x,p⟩=>by
 refine bS hp (tc:=λY H Q=>∃ A,AOk H A/\∃ U,Good X.K CL A U Y H/\CK W H (fc U) Q) (λpI s Y H Q I ⟨A,q⟩=>hc A pI s Y H Q I q) (hb Fz B) pI s Y H D I ⟨λm Y' H'=>∃ U',Sx X.K CL Fz B U' Y' H'/\Bx X.K CL Fz B W (JE fc fbd m U') D,⟨n,U,x,p⟩,?_⟩
 rintro m Y' H' ⟨U',x',q⟩;cases m with
 |zero=>exact q.elim
 |succ m=>
  refine⟨Bq B U' Y',x'.aok,U',x'.good,Bx.exB x' (f:=λb=>if b=Ab then (fbd U').turn (JE fc fbd m) else .next U') (D':=D) (by rw[JE]at q;exact q) λb H1 _ s1 x1 q1=>?_⟩
  cases b with
  |false=>exact q1 Y' H1 x1
  |true=>
   refine⟨λY'' H''=>∃ U'',Sx X.K CL Fz B U'' Y'' H''/\Bx X.K CL Fz B W (JE fc fbd m U'') D,λY'' H'' z=>⟨m,by omega,z⟩,U',x1,Bx.turn (λ_ _ z=>z) (λ_ _ _ z=>z) q1 λU3 Y3 H3 x3 q3=>⟨U3,x3,q3⟩⟩
end
section
variable{X:Cx}{CL:ClA}{W:XW}{a b c:An}{fa fb fc:Rho->R D}{pos:AD}
noncomputable def tyK:Ki->Ao CZ
 |.int=>Aa "int"
 |.bool=>Aa "bool"
 |.str=>Aa "str"
 |.list=>Aa "list"
 |.tuple=>Aa "tuple"
 |_=>Ae
noncomputable def Ph:D->Am
 |.obj _ _=>Ad
 |.exc _ _=>Ad
 |.dic _=>Ad
 |_=>Ab
theorem oA{k:Ki}{Q:Vq}{E:Vq}(I:Inv X pI Y H s)(r:Cr X.K CL H A v d)(q:Bu v u)(hT:tyK k=Aa T)(hd:Ph d=Ab)(h:∀ s',Inv X pI Y H s'->Q (.bool (kiD up k d)) s'):
  Av (model X.prog X.w) X.A (call (.builtin "isinstance") [u,.type T]) Q E s:=by
 have r':=r.plain;have it:=λt=>h _ (I.tok t)
 cases d with
 |obj=>cases hd
 |exc=>cases hd
 |dic=>cases hd
 |non=>
  cases r';cases q;cases k<;>simp only[tyK]at hT<;>cases hT
  .exact IsiPair.NoneType_int (it _)
  .exact IsiPair.NoneType_bool (it _)
  .exact IsiPair.NoneType_str (it _)
  .exact IsiPair.NoneType_list (it _)
  .exact IsiPair.NoneType_tuple (it _)
 |bl b=>
  cases r';cases q;cases k<;>simp only[tyK]at hT<;>cases hT
  .exact IsiPair.bool_int (h _ I)
  .exact IsiPair.bool_bool (h _ I)
  .exact IsiPair.bool_str (it _)
  .exact IsiPair.bool_list (it _)
  .exact IsiPair.bool_tuple (it _)
 |int i=>
  cases r';obtain⟨t,rfl⟩:=q;cases k<;>simp only[tyK]at hT<;>cases hT
  .exact IsiPair.int_int (h _ I)
  .exact IsiPair.int_bool (it _)
  .exact IsiPair.int_str (it _)
  .exact IsiPair.int_list (it _)
  .exact IsiPair.int_tuple (it _)
 |str x=>
  cases r';obtain⟨t,rfl⟩:=q;cases k<;>simp only[tyK]at hT<;>cases hT
  .exact IsiPair.str_int (it _)
  .exact IsiPair.str_bool (it _)
  .exact IsiPair.str_str (h _ I)
  .exact IsiPair.str_list (it _)
  .exact IsiPair.str_tuple (it _)
 |tup ds=>
  obtain⟨p,xs,rfl,_,sq,rr⟩:=r';obtain⟨its,rv,pt,_⟩:=I.tuple sq;cases q;have pt':s.heap.IsTuple p its.toArray:=pt;cases k<;>simp only[tyK]at hT<;>cases hT
  .exact IsiPair.isTuple_int pt' (λ_ _ e=>e) (it _)
  .exact IsiPair.isTuple_bool pt' (λ_ _ e=>e) (it _)
  .exact IsiPair.isTuple_str pt' (λ_ _ e=>e) (it _)
  .exact IsiPair.isTuple_list pt' (λ_ _ e=>e) (it _)
  .exact IsiPair.isTuple_tuple pt' (λ_ _ e=>e) (h _ I)
 |lst ds=>
  obtain⟨p,xs,rfl,_,sq,rr⟩:=r';obtain⟨its,rv,pl,_⟩:=I.list sq;cases q;have pt':s.heap.IsList p its.toArray:=Jw pl;cases k<;>simp only[tyK]at hT<;>cases hT
  .exact IsiPair.isList_int pt' (λ_ _ e=>e) (it _)
  .exact IsiPair.isList_bool pt' (λ_ _ e=>e) (it _)
  .exact IsiPair.isList_str pt' (λ_ _ e=>e) (it _)
  .exact IsiPair.isList_list pt' (λ_ _ e=>e) (h _ I)
  .exact IsiPair.isList_tuple pt' (λ_ _ e=>e) (it _)
theorem ZH{k:Ki}(hT:tyK k=Aa T)(p:AS Rp W H (EA up [k] d) Q):Ph d=Ab/\AS Rp W H (.ok (.bl (kiD up k d))) Q:=by
 cases k<;>simp only[tyK]at hT<;>cases hT<;>cases d<;>first|exact p.elim|exact⟨rfl,by simpa using p⟩
theorem lY{k:Ki}(hT:tyK k=Aa T)(hg:Gl X "isinstance")(hm:X.mg "isinstance" = Ae)(hg2:Gl X x)(hm2:X.mg x=Ae)(hv:CY x=Aa (.type T))(hn:x≠"__name__")(hdb:(x==("__debug__" : Ag))=Ad)(ha:ST X CL W a fa)(he:As [a,.Name x p2] X.env=(Ad,eval a X.env)::As [.Name x p2] X.env):SE X CL W (.Call (.Name "isinstance" p) [a,.Name x p2] [] pos) (λU=>(fa U).bind λx=>EA up [k] x):=λA=>
 PE.weak (Kn (r:=λxs H Q=>∃ y d,xs=[y,.ty T]/\Cr X.K CL H A y d/\Ph d=Ab/\Q (.bl (kiD up k d)) H) (λpI s Y H xs us Q I r ⟨y,d,e,ry,hd,q⟩=>by
   subst e;obtain⟨u,w',rfl,r1,r2⟩:=J3 r;cases r2;exact oA I ry r1 hT hd λs' I'=>⟨.bl _,H,I',rfl,q⟩)
  hg hm Fk (DT (ha A) (DT (SU (v:=.ty T) hg2 hm2 hv rfl hn hdb) Ft rfl) he) (by decide) (by decide) he rfl) λY H Q ⟨hA,U,g,q⟩=>⟨hA,U,g,AS.bind q λd v H1 _ s1 r1 p1=>by
   obtain⟨hd,p2⟩:=ZH hT p1;exact⟨v,d,rfl,r1,hd,p2 _ H1 (Az.refl H1) rfl⟩⟩
theorem OU{b:Am}{A':AU}{E:Vq}{Q:Am->Ap->Prop}(r:Rep X.K CL H A v d)(q:Bu v u)(h:Ez d=.ok b)(hq:Q b s):Av (model prog w) A' (truthy u) Q E s:=by
 cases d with
 |non=>
  cases r;cases q;cases h;exact truthy_none hq
 |bl k=>
  cases r;cases q;cases h;exact Cy hq
 |int i=>
  cases r;obtain⟨t,rfl⟩:=q;cases h;exact truthy_int hq
 |_=>cases h
theorem QG:∀{ds:Ac D}{b:Am},Hu ds=.ok b->(∀ j,j<ds.length->∃ c,Ez (ds.getD j .non)=.ok c)/\b=(Ba ds.length).all λj=>match Ez (ds.getD j .non) with
  |.ok c=>c
  |_=>Ad
 |[],b,h=>by cases h;exact⟨λj hj=>absurd hj (Wm _),rfl⟩
 |d::ds,b,h=>by
  rw[QV]at h;cases e:Ez d with
  |bad=>rw[e]at h;cases h
  |exn x=>rw[e]at h;cases h
  |ok c=>
   rw[e,R.bind_ok]at h;cases e2:Hu ds with
   |bad=>rw[e2]at h;cases h
   |exn x=>rw[e2]at h;cases h
   |ok c2=>
    rw[e2,R.bind_ok]at h;cases h;obtain⟨h1,h2⟩:=QG e2;refine⟨λj hj=>?_,?_⟩
    .cases j with
     |zero=>exact⟨c,e⟩
     |succ j=>exact h1 j (by simpa using hj)
    .rw[A7,QA,h2];show (c&&_)=((match Ez d with | .ok c=>c|_=>Ad)&&_)
     rw[e];rfl
theorem QF:∀{ds:Ac D}{b:Am},Gr ds=.ok b->(∀ j,j<ds.length->∃ c,Ez (ds.getD j .non)=.ok c)/\b=(Ba ds.length).any λj=>match Ez (ds.getD j .non) with
  |.ok c=>c
  |_=>Ad
 |[],b,h=>by cases h;exact⟨λj hj=>absurd hj (Wm _),rfl⟩
 |d::ds,b,h=>by
  rw[QU]at h;cases e:Ez d with
  |bad=>rw[e]at h;cases h
  |exn x=>rw[e]at h;cases h
  |ok c=>
   rw[e,R.bind_ok]at h;cases e2:Gr ds with
   |bad=>rw[e2]at h;cases h
   |exn x=>rw[e2]at h;cases h
   |ok c2=>
    rw[e2,R.bind_ok]at h;cases h;obtain⟨h1,h2⟩:=QF e2;refine⟨λj hj=>?_,?_⟩
    .cases j with
     |zero=>exact⟨c,e⟩
     |succ j=>exact h1 j (by simpa using hj)
    .rw[A7,Wf,GX,Gd,h2];show (c||_)=((match Ez d with | .ok c=>c|_=>Ad)||_)
     rw[e];rfl
theorem OW{ds:Ac D}(r:Reps X.K CL H A0 xs ds)(rv:A2 xs its){v:Aj}(h:its.toArray[j]?=Aa v):j<ds.length/\∃ x,Rep X.K CL H A0 x (ds.getD j .non)/\Bu x v:=by
 have h':its[j]?=Aa v:=by simpa using h
 obtain⟨hj,e⟩:=A5.mp h';obtain⟨x,rx,q⟩:=IG r rv hj;have l1:=rv.length;have l2:=r.length
 exact⟨by omega,x,rx,by rw[<-e];exact q⟩
theorem Pw{o:C9}(k:∀ b q,b∉[h.objs.size]->(h.push o).get? b=Aa q->h'.get? b=Aa q):∀ b q,h.get? b=Aa q->h'.get? b=Aa q:=λb q e=>k b q (by
 intro z;have:=Bf.mp z;rw[this]at e;exact absurd (AK e) (Bw _)) (Au _ e)
theorem oW(hc:X.calm=Ab):Jy X CL W (.builtin "all") (biD .all):=by
  intro A pI s Y H xs us Q I r ⟨hA,ds,rs,p⟩
  match ds,rs,p with
  |[.lst es],rs,p=>
    obtain⟨v,rfl,rv⟩:=rs.one;obtain⟨q,ys,e,_,sq,ry⟩:=rv.plain;subst e;obtain⟨u,rfl,ru⟩:=Hy r;cases ru;rw[tS]at p;cases e1:Hu es with
    |bad=>rw[e1]at p;exact p.elim
    |exn x=>
      exfalso
      have:∀(es:Ac D) x,Hu es≠.exn x:=by
        intro es
        induction es with
        |nil=>intro x h;cases h
        |cons d ds ih=>
          intro x h;rw[QV]at h;cases e:Ez d with
          |bad=>rw[e]at h;cases h
          |exn y=>cases d<;>cases e
          |ok c=>
            rw[e,R.bind_ok]at h;cases e2:Hu ds with
            |bad=>rw[e2]at h;cases h
            |exn y=>exact ih y e2
            |ok c2=>rw[e2]at h;cases h
      exact this es x e1
    |ok b=>
      rw[e1,R.bind_ok]at p;obtain⟨h1,h2⟩:=QG e1;obtain⟨its,rvv,pl,_⟩:=I.list sq;have hlt:q<s.heap.objs.size:=by obtain⟨o,n,e,_⟩:=pl;exact AK e
      have hl:its.toArray.size=es.length:=by rw[AN,<-rvv.length,ry.length]
      refine call_all_walk (FL (Jw pl) ⟨s.heap.objs.size,_,_,_,_,_,(λj=>match Ez (es.getD j .non) with | .ok c=>c|_=>Ad),rfl,X7 (A:=X.A.in1) (I.ok.hd hc) s.heap.objs.size q (Bm hlt) its.toArray,⟨⟨_,A3 _ rfl,rfl,rfl⟩,(Jw pl).push _⟩,λj v s' Q' E' hv hQ=>?_,λh' tk k=>?_⟩)
      · obtain⟨hj,x,rx,qx⟩:=OW ry rvv hv;obtain⟨c,ec⟩:=h1 j hj;exact OU rx qx ec (by dsimp only at hQ;rw[ec]at hQ;exact hQ)
      · rw[hl,<-h2];exact⟨.bl b,H,I.kept (Pw k),rfl,p _ H (Az.refl H) rfl⟩
  |[],_,p=>exact p.elim
  |[.non],_,p=>exact p.elim
  |[.bl _],_,p=>exact p.elim
  |[.int _],_,p=>exact p.elim
  |[.str _],_,p=>exact p.elim
  |[.tup _],_,p=>exact p.elim
  |[.obj _ _],_,p=>exact p.elim
  |[.exc _ _],_,p=>exact p.elim
  |[.dic _],_,p=>exact p.elim
  |x::_::_,_,p=>cases x<;>exact p.elim
theorem Tb(hc:X.calm=Ab){es:Ac D}(I:Inv X pI Y H s)(sq:SqL X.K H q ys\/SqT X.K H q ys)(ry:Reps X.K CL H A0 ys es)(p:AS (λH=>Rep X.K CL H A) W H ((Gr es).bind λb=>.ok (.bl b)) Q):Av (model X.prog X.w) X.A (call (.builtin "any") [.ref q]) (EP X pI Y Q) X.xe s:=by
 cases e1:Gr es with
 |bad=>rw[e1]at p;exact p.elim
 |exn x=>
  exfalso
  clear p
  have:∀(es:Ac D) x,Gr es≠.exn x:=by
   intro es
   induction es with
   |nil=>intro x h;cases h
   |cons d ds ih=>
    intro x h;rw[QU]at h;cases e:Ez d with
    |bad=>rw[e]at h;cases h
    |exn y=>cases d<;>cases e
    |ok c=>
     rw[e,R.bind_ok]at h;cases e2:Gr ds with
     |bad=>rw[e2]at h;cases h
     |exn y=>exact ih y e2
     |ok c2=>rw[e2]at h;cases h
  exact this es x e1
 |ok b=>
  rw[e1,R.bind_ok]at p;obtain⟨h1,h2⟩:=QF e1;rcases sq with sq|sq
  .obtain⟨its,rvv,pl,_⟩:=I.list sq;have hlt:q<s.heap.objs.size:=by obtain⟨o,n,e,_⟩:=pl;exact AK e
   have hl:its.toArray.size=es.length:=by rw[AN,<-rvv.length,ry.length]
   refine call_any_walk (FL (Jw pl) ⟨s.heap.objs.size,_,_,_,_,_,(λj=>match Ez (es.getD j .non) with | .ok c=>c|_=>Ad),rfl,X7 (A:=X.A.in1) (I.ok.hd hc) s.heap.objs.size q (Bm hlt) its.toArray,⟨⟨_,A3 _ rfl,rfl,rfl⟩,(Jw pl).push _⟩,λj v s' Q' E' hv hQ=>?_,λh' tk k=>?_⟩)
   .obtain⟨hj,x,rx,qx⟩:=OW ry rvv hv;obtain⟨c,ec⟩:=h1 j hj;exact OU rx qx ec (by dsimp only at hQ;rw[ec]at hQ;exact hQ)
   .rw[hl,<-h2];exact⟨.bl b,H,I.kept (Pw k),rfl,p _ H (Az.refl H) rfl⟩
  .obtain⟨its,rvv,pl,_⟩:=I.tuple sq;have pl':s.heap.IsTuple q its.toArray:=pl;have hlt:q<s.heap.objs.size:=by obtain⟨o,e,_⟩:=pl';exact AK e
   have hl:its.toArray.size=es.length:=by rw[AN,<-rvv.length,ry.length]
   refine call_any_walk (GU pl' ⟨s.heap.objs.size,_,_,_,_,_,(λj=>match Ez (es.getD j .non) with | .ok c=>c|_=>Ad),rfl,Walks.tuple (A:=X.A.in1) (I.ok.hd hc) s.heap.objs.size q (Bm hlt) its.toArray,⟨⟨_,A3 _ rfl,rfl,rfl⟩,pl'.push _⟩,λj v s' Q' E' hv hQ=>?_,λh' tk k=>?_⟩)
   .obtain⟨hj,x,rx,qx⟩:=OW ry rvv hv;obtain⟨c,ec⟩:=h1 j hj;exact OU rx qx ec (by dsimp only at hQ;rw[ec]at hQ;exact hQ)
   .rw[hl,<-h2];exact⟨.bl b,H,I.kept (Pw k),rfl,p _ H (Az.refl H) rfl⟩
theorem oV(hc:X.calm=Ab):Jy X CL W (.builtin "any") (biD .any):=by
  intro A pI s Y H xs us Q I r ⟨hA,ds,rs,p⟩
  match ds,rs,p with
  |[.lst es],rs,p=>
    obtain⟨v,rfl,rv⟩:=rs.one;obtain⟨q,ys,e,_,sq,ry⟩:=rv.plain;subst e;obtain⟨u,rfl,ru⟩:=Hy r;cases ru;exact Tb hc I (.inl sq) ry p
  |[.tup es],rs,p=>
    obtain⟨v,rfl,rv⟩:=rs.one;obtain⟨q,ys,e,_,sq,ry⟩:=rv.plain;subst e;obtain⟨u,rfl,ru⟩:=Hy r;cases ru;exact Tb hc I (.inr sq) ry p
  |[],_,p=>exact p.elim
  |[.non],_,p=>exact p.elim
  |[.bl _],_,p=>exact p.elim
  |[.int _],_,p=>exact p.elim
  |[.str _],_,p=>exact p.elim
  |[.obj _ _],_,p=>exact p.elim
  |[.exc _ _],_,p=>exact p.elim
  |[.dic _],_,p=>exact p.elim
  |x::_::_,_,p=>cases x<;>exact p.elim
end
section
variable(K:Fg)(CL:ClA)
def tT(H0:Hp)(A:Ak->Prop)(H:Hp)(v:V)(d:D):Prop:=∀ ds,d=.lst ds->∃ a xs,v=.ref a/\H0 a=Ae/\H a=Aa (.lst xs)/\Reps K CL H (λb=>A b\/b=a) xs ds
def DB(fr:Am)(H0:Hp)(A:Ak->Prop)(H:Hp)(v:V)(d:D):Prop:=Rep K CL H A v d/\(fr=Ab->tT K CL H0 A H v d)
end
section
variable{X:Cx}{CL:ClA}{W:XW}{a b c:An}{fa fb fc:Rho->R D}{pos:AD}
def SC(X:Cx)(CL:ClA)(W:XW)(fr:Am)(e:An)(f:Rho->R D):Prop:=∀ A,PE X e (λY H Q=>AOk H A/\∃ U,Good X.K CL A U Y H/\AS (DB X.K CL fr H A) W H (f U) Q)
theorem SC.se{fr:Am}(h:SC X CL W fr a fa):SE X CL W a fa:=λA=>PE.weak (h A) λY H Q ⟨hA,U,g,p⟩=>⟨hA,U,g,by
 cases e:fa U with
 |ok d=>rw[e]at p;exact λv H' s r=>p v H' s r.1
 |exn x=>rw[e]at p;exact p
 | bad=>rw[e]at p;exact p⟩
theorem SE.sc(h:SE X CL W a fa):SC X CL W Ad a fa:=λA=>PE.weak (h A) λY H Q ⟨hA,U,g,p⟩=>⟨hA,U,g,by
 cases e:fa U with
 |ok d=>rw[e]at p;exact λv H' s r=>p v H' s ⟨r,λz=>nomatch z⟩
 |exn x=>rw[e]at p;exact p
 | bad=>rw[e]at p;exact p⟩
theorem SC.congr{fr:Am}{f g:Rho->R D}(h:SC X CL W fr a f)(e:∀ U,g U=f U):SC X CL W fr a g:=λA=>PE.weak (h A) λY H Q ⟨hA,U,q,p⟩=>⟨hA,U,q,by rw[<-e];exact p⟩
theorem Jr{p:Ak}{ds:Ac D}(s:Az H0 H)(hA:AOk H A)(hp:H p=Ae)(r:Reps K CL H A xs ds):DB K CL Ab H0 A (upd H p (.lst xs)) (.ref p) (.lst ds):=
 ⟨Sw hA hp r,λ_ ds' e=>by
  cases e;exact⟨p,xs,rfl,s.free hp,DJ,(Reps.wide (λa ha=>ha.imp id λe=>by rw[e];exact hp) _ r).same (ET hp _)⟩⟩
theorem OL{fr:Am}(r:Rep K CL H A v d)(h:∀ ds,d≠.lst ds):DB K CL fr H0 A H v d:=⟨r,λ_ ds e=>absurd e (h ds)⟩
theorem O2(hs:SA X CL W es fs)(hz:∀ U ds,fs U=.ok ds->ds.length<=100000):SC X CL W Ab (.List es pos) (λU=>(fs U).bind λxs=>.ok (.lst xs)):=
 λA=>PE.weak (lO (hs A)) λY H Q ⟨hA,U,g,p⟩=>⟨hA,U,g,Hv.bind p λds vs H1 e s1 r1 p1=>⟨by
  rw[r1.length,Cj];have:=hz U ds e;omega,λq hq=>p1 _ _ (ET hq _) (Jr s1 (hA.same s1) hq r1)⟩⟩
theorem AS.bindF{fr:Am}{f:D->R D}{Q':VK}(h:AS (DB K CL fr H A) W H (r.bind f) Q)(k:∀ d v H',r=.ok d->Az H H'->Rp H' v d->AS (DB K CL fr H A) W H' (f d) Q->Q' v H'):AS Rp W H r Q':=by
 cases r with
 |ok d=>exact λv H2 s2 q=>k d v H2 rfl s2 q (AS.same s2 h)
 |exn x=>exact h
 |bad=>exact h
theorem Hv.bindF{Rp:Hp->Ac V->Ac D->Prop}{r:R (Ac D)}{f:Ac D->R D}{Q':Ac V->Hp->Prop}(h:AS Rq W H (r.bind f) Q)(k:∀ d v H',r=.ok d->Az H H'->Rp H' v d->AS Rq W H' (f d) Q->Q' v H'):Hv Rp W H r Q':=by
 cases r with
 |ok d=>exact λv H2 s2 q=>k d v H2 rfl s2 q (AS.same s2 h)
 |exn x=>exact h
 |bad=>exact h
theorem J7.bindF{r:R (Ao Ah)}{f:Ao Ah->R D}(h:AS Rq W H (r.bind f) Q)(k:∀ o H',r=.ok o->Az H H'->AS Rq W H' (f o) Q->Q' o H'):J7 W H r Q':=by
 cases r with
 |ok d=>exact λH2 s2=>k d H2 rfl s2 (AS.same s2 h)
 |exn x=>exact h
 |bad=>exact h
def Vg:V->Ao Ah->Ao Ah->Hp->VK->Prop:=λx l h H Q=>∃ z,x=.str z/\(DK z l h).length<=sizeLine/\Q (.str (DK z l h)) H
theorem Sj{v:Aj}{o:Ao Ah}(h:GR v o):∃ p:Ao (Ah×Cz),v=partValue p/\p.map (·.1)=o:=by
 cases h with
 |none=>exact⟨Ae,rfl,rfl⟩
 |int i t=>exact⟨Aa (i,t),rfl,rfl⟩
theorem kI:SlR X Vg:=by
 intro pI s Y H x v vl vu lo hi sl Q I rx hs pl pu h;obtain⟨z,rfl,hz,q⟩:=h;obtain⟨t,rfl⟩:=rx;obtain⟨l,rfl,el⟩:=Sj pl;obtain⟨u,rfl,eu⟩:=Sj pu;refine⟨"str",_,PySem.F.slot_str_getitem.lookup,FB _ _ _,?_⟩;refine wpAny_getItem_str_slice (l:=l) (u:=u) (st:=Ae) hs rfl ?_;subst el eu;unfold sliceMade slicePicked;unfold DK at hz q;by_cases c:((EN (l.map (·.1)) (u.map (·.1)) 1 z.length).length==z.length)=Ab
 .rw[At c]at q;rw[At (by rw[Al];exact⟨rfl,c⟩)]
  exact⟨.str z,H,I,⟨t,rfl⟩,q⟩
 .rw[AC c]at q hz;rw[AC (by rw[Al];exact λh=>c h.2)]
  exact⟨hz,.str _,H,I.tok _,⟨_,rfl⟩,q⟩
theorem rH{lo hi:Ao An}{fl fh:Rho->R (Ao Ah)}(ha:ST X CL W a fa)(hl:SO X CL W lo fl)(hh:SO X CL W hi fh):SC X CL W Ab (.Subscript a (.Slice lo hi Ae p2) pos) (λU=>(fa U).bind λx=>(fl U).bind λl=>(fh U).bind λh=>slD x l h):=
 λA=>PE.weak (bV (r:=λx l h H Q=>Vh X.K x l h H Q\/(Vf X.K x l h H Q\/Vg x l h H Q)) (SlR.or dX (SlR.or kH kI)) (ha A) (hl A) (hh A)) λY H Q ⟨hA,U,g,p⟩=>⟨hA,U,g,AS.bindF p λdx x H1 _ s1 r1 p1=>⟨hA.same s1,U,g.same s1,J7.bindF p1 λl H2 _ s2 p2=>⟨(hA.same s1).same s2,U,(g.same s1).same s2,J7.bindF p2 λh H3 _ s3 p3=>by
  cases dx with
  |lst ds=>
   obtain⟨q,xs,rfl,sq,r⟩:=((r1.same s2).same s3).lst_of;exact .inl ⟨q,xs,rfl,sq,λt ht=>p3 _ _ (ET ht _) (Jr ((s1.trans s2).trans s3) (((hA.same s1).same s2).same s3) ht (S3 l h r))⟩
  |tup ds=>
   obtain⟨q,xs,rfl,_,sq,r⟩:=((r1.same s2).same s3).tup_of;rw[tX]at p3;split at p3
   .exact p3.elim
   .rename_i hw;refine .inr (.inl ⟨q,xs,rfl,sq,?_,λt ht=>p3 _ _ (ET ht _) (OL (Kx (((hA.same s1).same s2).same s3) ht (S3 l h r)) (by intro _ z;cases z))⟩)
    rintro⟨h1,h2⟩;refine hw ?_;have e:∀ d o,HT.sIx xs.length d o=IP ds.length d o:=λd o=>by rw[r.length];cases o<;>rfl
    rw[e]at h1 h2;rw[r.length]at h2;simp[h1,h2]
  |str z=>
   have e:=((r1.same s2).same s3).str_of;subst e;have p4:AS (DB X.K CL Ab H A) W H3 (if (Cd z.length&&Cd (DK z l h).length)=Ab then .ok (.str (DK z l h)) else .bad) Q:=p3
   split at p4
   .rename_i hk;rw[Al]at hk;exact .inr (.inr ⟨z,rfl,QM hk.2,p4 _ H3 (Az.refl H3) (OL rfl (by intro _ z;cases z))⟩)
   .exact p4.elim
  | _=>exact p3.elim⟩⟩⟩
noncomputable def OpN(X:Cx)(CL:ClA)(W:XW)(f:Aj->Aj->FJ Aj)(g:D->D->R D):Prop:=
 ∀ A H0,OpR X f (λx y H Q=>Az H0 H/\AOk H A/\∃ dx dy,Cr X.K CL H A x dx/\Cr X.K CL H A y dy/\AS (DB X.K CL Ab H0 A) W H (g dx dy) Q)
theorem gU:OpN X CL W (B6 .Add) (CF .Add):=by
 intro A H0 pI s Y H x y v u Q I rx ry ⟨s0,hA,dx,dy,hx,hy,p⟩;have key:(∀ ds,dx≠.lst ds)->EP X pI Y Q=EP X pI Y Q->Av (model X.prog X.w) X.A (B6 .Add v u) (EP X pI Y Q) X.xe s:=λhd _=>by
  refine So (W:=W) A pI s Y H x y v u Q I rx ry ⟨hA,dx,dy,hx,hy,?_⟩;cases e:CF .Add dx dy with
  |bad=>rw[e]at p;exact p
  |exn x=>rw[e]at p;exact p
  |ok d=>
   rw[e]at p;refine λv' H' s' r'=>p v' H' s' (OL r' λds z=>?_)
   subst z;cases dx with
   |lst ds=>exact hd _ rfl
   |tup xs=>
    cases dy with
    |tup ys=>rw[T7]at e;split at e<;>cases e
    |_=>cases e
   |str xs=>
    cases dy with
    |str ys=>rw[Fb]at e;split at e<;>cases e
    |_=>cases e
   |int i=>cases dy<;>cases e
   |_=>cases e
 cases dx with
 |lst ds=>
  cases dy with
  |lst es=>
   obtain⟨a,xs,rfl,s1,r1⟩:=hx.lst_of;obtain⟨b,ys,rfl,s2,r2⟩:=hy.lst_of;simp only[Gq]at p;split at p
   .rename_i h;refine Sq pI s Y H _ _ v u Q I rx ry ⟨a,b,xs,ys,rfl,rfl,s1,s2,by rw[r1.length,r2.length];exact JN h,λq hq=>?_⟩
    exact p _ _ (ET hq _) (Jr s0 hA hq (r1.append r2))
   .exact p.elim
  |_=>exact p.elim
 |_=>exact key (by intro _ z;cases z) rfl
theorem kG(ha:ST X CL W a fa)(hb:ST X CL W b fb):SC X CL W Ab (.BinOp a .Add b pos) (λU=>(fa U).bind λx=>(fb U).bind λy=>CF .Add x y):=
 λA pI s Y H Q I h=>by
  obtain⟨hA,U,g,p⟩:=h;exact Um (gU (W:=W) A H) (ha A) (hb A) pI s Y H Q I ⟨hA,U,g,AS.bindF p λdx x H1 _ s1 r1 p1=>⟨hA.same s1,U,g.same s1,AS.bind (Rq:=DB X.K CL Ab H A) p1 λdy y H2 _ s2 r2 p2=>⟨s1.trans s2,(hA.same s1).same s2,dx,dy,r1.same s2,r2,p2⟩⟩⟩
def UV(X:Cx)(CL:ClA)(W:XW)(f:Aj)(g:Ac D->R D):Prop:=∀ A H0,Hw X f (λxs H Q=>Az H0 H/\AOk H A/\∃ ds,F6 X.K CL H A xs ds/\AS (DB X.K CL Ab H0 A) W H (g ds) Q)
theorem jE:UV X CL W (.type "list") (biD .list):=by
  intro A H0 pI s Y H xs us Q I r ⟨s0,hA,ds,rs,p⟩
  match ds,rs,p with
  |[.lst es],rs,p=>
    obtain⟨v,rfl,rv⟩:=rs.one;obtain⟨q,ys,rfl,sq,ry⟩:=rv.lst_of;exact QH pI s Y H _ us Q I r ⟨q,ys,rfl,.inl sq,λl hl=>p _ _ (ET hl _) (Jr s0 hA hl ry)⟩
  |[.tup es],rs,p=>
    obtain⟨v,rfl,rv⟩:=rs.one;obtain⟨q,ys,rfl,_,sq,ry⟩:=rv.tup_of;exact QH pI s Y H _ us Q I r ⟨q,ys,rfl,.inr sq,λl hl=>p _ _ (ET hl _) (Jr s0 hA hl ry)⟩
  |[],_,p=>exact p.elim
  |[.non],_,p=>exact p.elim
  |[.bl _],_,p=>exact p.elim
  |[.int _],_,p=>exact p.elim
  |[.str _],_,p=>exact p.elim
  |[.obj _ _],_,p=>exact p.elim
  |[.exc _ _],_,p=>exact p.elim
  |[.dic _],_,p=>exact p.elim
  |x::_::_,_,p=>cases x<;>exact p.elim
theorem kF{g:Ac D->R D}(hc:UV X CL W (.type T) g)(hg:Gl X x)(hm:X.mg x=Ae)(hv:CY x=Aa (.type T))(ha:SAT X CL W (e::es) fs)(hn:x≠"__name__")(hdb:(x==("__debug__" : Ag))=Ad)(he:As (e::es) X.env=(Ad,eval e X.env)::As es X.env)(hpl:∀ pos,(BA pos (As es X.env)).any (·.1)=Ad):SC X CL W Ab (.Call (.Name x p) (e::es) [] pos) (λU=>(fs U).bind g):=λA pI s Y H Q I ⟨hA,U,gd,q⟩=>
 Rg (hc A H) hg hm hv (ha A) hn hdb he (hpl _) pI s Y H Q I ⟨hA,U,gd,Hv.bindF q λds vs H1 _ s1 r1 p1=>⟨s1,hA.same s1,ds,r1,p1⟩⟩
mutual
theorem PF{K:Fg}{H:Hp}{A:Ak->Prop}(hA:AOk H A):∀(n:Af)(d:D){v:V},nlD n d=Ab->Rep K CL H A0 v d->Rep K CL H A v d
 |_,.non,_,_,h=>h
 |_,.bl _,_,_,h=>h
 |_,.int _,_,_,h=>h
 |_,.str _,_,_,h=>h
 |0,.tup _,_,hn,_=>by cases hn
 |n+1,.tup ds,_,hn,h=>by
  obtain⟨a,xs,e,_,s,r⟩:=h;refine⟨a,xs,e,?_,s,nls_up hA n ds hn r⟩;rcases s with s|s
  .refine .inl λz=>?_
   obtain⟨ys,q⟩:=hA a z;rcases s with s|⟨o,s⟩<;>rw[q]at s<;>cases s
  .exact .inr s
 |n,.lst _,_,hn,_=>by cases n<;>cases hn
 |n,.obj _ _,_,hn,_=>by cases n<;>cases hn
 |n,.exc _ _,_,hn,_=>by cases n<;>cases hn
 |n,.dic _,_,hn,_=>by cases n<;>cases hn
theorem nls_up{K:Fg}{H:Hp}{A:Ak->Prop}(hA:AOk H A):∀(n:Af)(ds:Ac D){vs:Ac V},ds.all (nlD n)=Ab->Reps K CL H A0 vs ds->Reps K CL H A vs ds
 |_,[],[],_,h=>h
 |n,d::ds,_::_,hn,h=>by
  simp only[Dm,Al]at hn;exact⟨PF hA n d hn.1 h.1,nls_up hA n ds hn.2 h.2⟩
 |_,[],_::_,_,h=>h.elim
 |_,_::_,[],_,h=>h.elim
end
theorem Th{fr:Am}(hA0:AOk H0 A)(s:Az H0 H)(hc:FT fr d=Ab)(r:DB K CL fr H0 A0 H v d):DB K CL fr H0 A H v d:=by
 have hA:=hA0.same s;cases d with
 |lst ds=>
  have hc':(fr&&ds.all (nlD 5))=Ab:=hc;rw[Al]at hc';obtain⟨a,xs,e,h0,h1,rs⟩:=r.2 hc'.1 ds rfl;have hA2:AOk H (λb=>A b\/b=a):=λb hb=>hb.elim (hA b) λe=>by rw[e];exact⟨xs,h1⟩
  have rs':=nls_up hA2 5 ds hc'.2 (Reps.sub (λ_ z=>z.elim) _ rs)
  refine⟨⟨a,xs,e,.inl (hA0.new h0),SqL.of h1,Reps.sub (λ_ z=>.inl z) _ rs'⟩,λ_ ds' e'=>?_⟩
  cases e';exact⟨a,xs,e,h0,h1,rs'⟩
 |_=>exact⟨PF hA 5 _ hc r.1,λ_ _ z=>nomatch z⟩
def spD(K:Fg)(CL:ClA)(n:Af)(fr:Am)(F:Ac D->R D):Sp:=λvs H Q E=>∃(ds:Ac D)(A:Ak->Prop),vs.length=n/\AOk H A/\Reps K CL H A vs ds/\(match F ds with
  |.ok d=>∀ v H',Az H H'->DB K CL fr H A H' v d->Q v H'
  |.exn x=>∀ cls dx H',Az H H'->Fe K CL H' cls dx x->E cls dx H'
  | .bad=>AW)
def EKW(K:Fg)(CL:ClA)(A:Ak->Prop)(W:XW):XK:=λcls dx H'=>∃ x,Fe K CL H' cls dx x/\W x H'
theorem F6.plain{K:Fg}{H:Hp}{A:Ak->Prop}:∀{vs:Ac V}{ds:Ac D},F6 K CL H A vs ds->Reps K CL H A0 vs ds
 |[],[],h=>trivial
 |_::_,_::_,h=>⟨h.1.plain,F6.plain h.2⟩
 |[],_::_,h=>h.elim
 |_::_,[],h=>h.elim
theorem eJ{CX:CXT}{fr:Am}{f:Ak}{fd:BE}{ps:Ac Ag}{F:Ac D->R D}{ft:Rho->R (Ac D)}{sh:Rho->Am}(G:FnOk X.prog X.w X.K X.mg X.base CX k f fd ps (spD X.K CL n fr F))(hr:Room k X.A)(hg:Gl X x)(hm:X.mg x=Aa (.ref f))(hk:Bi X.K (.ref f)=Ab)(hb:EK X.K fd ps [])(hx:∀ A,IH CX X (EKW X.K CL A W))(ha:SA X CL W (e::es) fs)(hat:SAT X CL W (e::es) ft)(hst:∀ U,sh U=Ab->ft U=fs U)(hn:∀ U ds,ft U=.ok ds->ds.length=n)(hdb:(x==("__debug__" : Ag))=Ad)(he:As (e::es) X.env=(Ad,eval e X.env)::As es X.env)(hpl:∀ pos,(BA pos (As es X.env)).any (·.1)=Ad):SC X CL W fr (.Call (.Name x p) (e::es) [] pos) (λU=>(ft U).bind λds=>(F ds).bind λd=>if sh U=Ab then .ok d else if FT fr d=Ab then .ok d else .bad):=λA pI s Y H Q I ⟨hA,U,gd,q⟩=>by
 dsimp only at q;by_cases hs:sh U=Ab
 .rw[hst U hs]at q;refine SR G hr hg hm hk hb .nil (hx A) (ha A) hdb he (hpl _) pI s Y H Q I ⟨hA,U,gd,?_⟩;cases e1:fs U with
  |bad=>rw[e1]at q;exact q
  |exn y=>rw[e1]at q;exact q
  |ok ds=>
   rw[e1]at q;intro vs H1 s1 r1;refine⟨ds,A,by rw[CC,r1.length];exact hn U ds (by rw[hst U hs];exact e1),hA.same s1,by rw[CC];exact r1,?_⟩
   have q':AS (DB X.K CL fr H A) W H ((F ds).bind λd=>if sh U=Ab then .ok d else if FT fr d=Ab then .ok d else .bad) Q:=q
   cases e2:F ds with
   |ok d=>
    rw[e2,R.bind_ok,At hs]at q';exact λv H2 s2 r2=>q' v H2 (s1.trans s2) ⟨r2.1,λz ds' e'=>let ⟨a,xs,z1,z2,z3⟩:=r2.2 z ds' e';⟨a,xs,z1,s1.free z2,z3⟩⟩
   |exn y=>rw[e2]at q';exact λcls dx H2 s2 xr=>⟨y,xr,q' H2 (s1.trans s2)⟩
   |bad=>rw[e2]at q';exact q'.elim
 .refine SR G hr hg hm hk hb .nil (hx A0) (hat A) hdb he (hpl _) pI s Y H Q I ⟨hA,U,gd,?_⟩;cases e1:ft U with
  |bad=>rw[e1]at q;exact q
  |exn y=>rw[e1]at q;exact q
  |ok ds=>
   rw[e1]at q;intro vs H1 s1 r1;refine⟨ds,A0,by rw[CC,r1.plain.length];exact hn U ds e1,λ_ z=>z.elim,by rw[CC];exact r1.plain,?_⟩
   have q':AS (DB X.K CL fr H A) W H ((F ds).bind λd=>if sh U=Ab then .ok d else if FT fr d=Ab then .ok d else .bad) Q:=q
   cases e2:F ds with
   |ok d=>
    rw[e2,R.bind_ok,AC hs]at q';split at q'
    .rename_i hc;exact λv H2 s2 r2=>q' v H2 (s1.trans s2) (Th hA (s1.trans s2) hc ⟨r2.1,λz ds' e'=>let ⟨a,xs,z1,z2,z3⟩:=r2.2 z ds' e';⟨a,xs,z1,s1.free z2,z3⟩⟩)
    .exact q'.elim
   |exn y=>rw[e2]at q';exact λcls dx H2 s2 xr=>⟨y,xr,q' H2 (s1.trans s2)⟩
   |bad=>rw[e2]at q';exact q'.elim
end
theorem NW(env:Ci):∀(ns:Ac (Ag×D7))(acc:Ac (Ag×Ak)),(∀ x∈ns,x.2=.free->∃ c,env.cells.lookup x.1=Aa c)->(∀ x c,acc.lookup x=Aa c->env.cells.lookup x=Aa c) ->
  ∃ cl,(forIn ns acc fun(x:Ag×D7)(cs:Ac (Ag×Ak))=>(if (x.2==.free)=Ab then do let c <-cellOf env x.1;pure (Ei ((x.1,c)::cs)) else pure (Ei cs):FJ (ForInStep (Ac (Ag×Ak)))))=pure cl /\
   (∀ x c,cl.lookup x=Aa c->env.cells.lookup x=Aa c)/\(∀ x,((x,DH)∈ns\/∃ c,acc.lookup x=Aa c)->∃ c,cl.lookup x=Aa c)
 |[],acc,_,h2=>⟨acc,by rw[V5],h2,λx hx=>hx.elim (λz=>nomatch z) id⟩
 |(n,k)::r,acc,h1,h2=>by
  rw[List.forIn_cons];by_cases hk:k=.free
  .subst hk;obtain⟨c,hc⟩:=h1 (n,.free) AF rfl;obtain⟨cl,e,p,q⟩:=NW env r ((n,c)::acc) (λx hx=>h1 x (Aw _ hx)) (λx d hd=>by
    rw[Cf]at hd;split at hd
    .rename_i hx;cases hd;rw[eq_of_beq hx];exact hc
    .exact h2 x d hd)
   refine⟨cl,?_,p,λx hx=>q x ?_⟩
   .have e1:cellOf env n=pure c:=by unfold cellOf;dsimp only at hc;rw[hc]
    rw[At (by rfl),e1]
    exact e
   .rcases hx with hx|⟨d,hd⟩
    .rcases AI.mp hx with z|z
     .cases z;exact .inr ⟨c,by simp[Cf]⟩
     .exact .inl z
    .by_cases hxn:x=n
     .exact .inr ⟨c,by subst hxn;simp[Cf]⟩
     .exact .inr ⟨d,by rw[Cf];rw[CV.mpr hxn];exact hd⟩
  .obtain⟨cl,e,p,q⟩:=NW env r acc (λx hx=>h1 x (Aw _ hx)) h2
   refine⟨cl,?_,p,λx hx=>q x ?_⟩
   .rw[AC (by simpa using hk)]
    exact e
   .rcases hx with hx|hx
    .rcases AI.mp hx with z|z
     .cases z;exact absurd rfl hk
     .exact .inl z
    .exact .inr hx
theorem NV(h:∀ x∈scope.names,x.2=.free->∃ c,env.cells.lookup x.1=Aa c):∃ cl,closureFor scope env=pure cl/\(∀ x c,cl.lookup x=Aa c->env.cells.lookup x=Aa c)/\∀ x,(x,DH)∈scope.names->∃ c,cl.lookup x=Aa c:=by
 obtain⟨cl,e,p,q⟩:=NW env scope.names [] h (λx c z=>by simp at z)
 refine⟨cl,?_,p,λx hx=>q x (.inl hx)⟩
 unfold closureFor
 first
  |exact e
  |(simp only[bind_pure];exact e)
  |(rw[show (forIn scope.names ([]:Ac (Ag×Ak)) _:FJ _)=pure cl from e];rfl)
theorem Of:∀(names:Ac (Ag×D7))(h:AG)(acc:Ac (Ag×Ak))(x:Ag)(c:Ak),(CQ h.objs.size names acc).lookup x=Aa c->acc.lookup x=Aa c\/((x,BL)∈names/\h.objs.size<=c/\(GS h names).IsCell c Ae)
 |[],_,_,_,_,e=>.inl e
 |(n,k)::r,h,acc,x,c,e=>by
  unfold CQ at e;unfold GS;by_cases hk:(k==BL)=Ab
  .rw[At hk]at e ⊢;have hs:h.objs.size+1=(h.push { cls:=.type "cell",data:=.cell Ae }).objs.size:=(Dt ..).symm;rw[hs]at e;rcases Of r _ _ x c e with q|⟨q1,q2,q3⟩
   .rw[Cf]at q;cases hx:x==n with
    |true=>
     rw[hx]at q;cases q;refine .inr ⟨?_,AL _,?_⟩
     .rw[eq_of_beq hx,eq_of_beq hk];exact AF
     .exact⟨_,HN r _ _ _ (A3 _ rfl),rfl⟩
    |false=>rw[hx]at q;exact .inl q
   .exact .inr ⟨Aw _ q1,by omega,q3⟩
  .rw[AC hk]at e ⊢;rcases Of r h acc x c e with q|⟨q1,q2,q3⟩
   .exact .inl q
   .exact .inr ⟨Aw _ q1,q2,q3⟩
theorem Og:∀(names:Ac (Ag×D7))(h:AG)(acc:Ac (Ag×Ak)),(∀ x y c,acc.lookup x=Aa c->acc.lookup y=Aa c->x=y)->(∀ x c,acc.lookup x=Aa c->c<h.objs.size)->∀ x y c,(CQ h.objs.size names acc).lookup x=Aa c->(CQ h.objs.size names acc).lookup y=Aa c->x=y
 |[],_,_,i,_,x,y,c,e1,e2=>i x y c e1 e2
 |(n,k)::r,h,acc,i,b,x,y,c,e1,e2=>by
  unfold CQ at e1 e2;by_cases hk:(k==BL)=Ab
  .rw[At hk]at e1 e2;have hs:h.objs.size+1=(h.push { cls:=.type "cell",data:=.cell Ae }).objs.size:=(Dt ..).symm;rw[hs]at e1 e2;have look:∀ z d,BZ z ((n,h.objs.size)::acc)=Aa d->(z=n/\d=h.objs.size)\/(z≠n/\acc.lookup z=Aa d):=λz d q=>by
    rw[Cf]at q;cases hx:z==n with
    |true=>rw[hx]at q;cases q;exact .inl ⟨eq_of_beq hx,rfl⟩
    |false=>rw[hx]at q;exact .inr ⟨λe=>by rw[e]at hx;simp at hx,q⟩
   refine Og r _ _ (λz z' d q q'=>?_) (λz d q=>?_) x y c e1 e2
   .rcases look z d q with ⟨rfl,q1⟩|⟨_,q1⟩<;>rcases look z' d q' with ⟨rfl,q2⟩|⟨_,q2⟩
    .rfl
    .exact absurd (b _ _ q2) (by rw[q1];exact Bw _)
    .exact absurd (b _ _ q1) (by rw[q2];exact Bw _)
    .exact i _ _ _ q1 q2
   .rw[<-hs];rcases look z d q with ⟨_,q1⟩|⟨_,q1⟩
    .rw[q1];exact F0 _
    .exact G7 (b _ _ q1)
  .rw[AC hk]at e1 e2;exact Og r h acc i b x y c e1 e2
theorem NX:∀(names:Ac (Ag×D7))(n:Af)(acc:Ac (Ag×Ak))(x:Ag),(x,BL)∉names->(CQ n names acc).lookup x=acc.lookup x
 |[],_,_,_,_=>rfl
 |(m,k)::r,n,acc,x,hx=>by
  unfold CQ;have hr:(x,BL)∉r:=λz=>hx (Aw _ z)
  by_cases hk:(k==BL)=Ab
  .rw[At hk,NX r _ _ x hr,Cf];cases q:x==m with
   |true=>exact absurd (by rw[eq_of_beq q,eq_of_beq hk];exact AF) hx
   |false=>rfl
  .rw[AC hk];exact NX r n acc x hr
theorem Oh(n0:Af):∀(names:Ac (Ag×D7))(n:Af)(acc:Ac (Ag×Ak))(x:Ag),n0<=n->((x,BL)∈names\/∃ c,acc.lookup x=Aa c/\n0<=c)->∃ c,(CQ n names acc).lookup x=Aa c/\n0<=c
 |[],_,_,_,_,h=>h.elim (λz=>nomatch z) id
 |(m,k)::r,n,acc,x,hn,h=>by
  unfold CQ;by_cases hk:(k==BL)=Ab
  .rw[At hk];refine Oh n0 r _ _ x (by omega) ?_
   by_cases hx:(x==m)=Ab
   .exact .inr ⟨n,by rw[Cf,hx],hn⟩
   .rcases h with h|⟨c,h,hc⟩
    .rcases AI.mp h with z|z
     .cases z;simp at hx
     .exact .inl z
    .exact .inr ⟨c,by rw[Cf];simp only[hx];exact h,hc⟩
  .rw[AC hk];refine Oh n0 r _ _ x hn (h.imp (λh=>?_) id)
   rcases AI.mp h with z|z
   .cases z;simp at hk
   .exact z
theorem YN{M:Gi}{A:AU}{E:Vq}{globals:Ak}{qual:Ag}{Q:Ci->Ap->Prop}(hQ:Q (newEnv scope s.heap.objs.size globals (CQ (s.heap.objs.size+1) scope.names cl) qual Ae .none (Aa env) Iu) { s with heap:=GS (s.heap.push { cls:=.type "dict",data:=.dict #[] }) scope.names }):Av M A (Il scope globals cl [] qual Ae .none (Aa env)) Q E s:=by
 simp only[Il,Option.isSome_some,EM];refine Aq (wpAny_alloc ?_);refine Aq (wpAny_layCells _ (λname kind cells=>by cases hkc:kind==BL<;>simp[hkc]) _ _ _ _ ?_)
 rw[show ({ s with heap:=s.heap.push { cls:=.type "dict",data:=.dict #[] } }:Ap).heap.objs.size=s.heap.objs.size+1 from Dt ..]
 rw[V5];exact Aq (AT (AT hQ))
noncomputable def cxC(X:Cx)(scope:BN)(cl:Ac (Ag×Ak))(C:Ak)(N':Ac Ag)(s₀:Ap)(H₀:Hp)(fp:Ac Ak):Cx where
 prog:=X.prog
 w:=X.w
 K:=X.K
 mg:=X.mg
 base:=X.base
 A:=X.A
 N:=N'
 s₀:=s₀
 H₀:=H₀
 env:=GD scope cl C X.env
 outer:=X.stack
 stack:=X.stack
 ex:=fp
 fn:=λx=>scope.names.lookup x==Aa BL
 calm:=X.calm
 pn:=[]
 xe:=λ_ _=>AW
theorem Me{env:Ci}:∀{names:Ac (Ag×D7)}{x:Ag}{k:D7},(names.map λ(n,k)=>if (k==DH&&env.scope.kind==.function&&env.kindOf n==Aa .cell) then (n,BL) else (n,k)).lookup x=Aa k->names.lookup x=Aa k\/(k=.cell/\names.lookup x=Aa .free)
 |[],_,_,h=>by simp at h
 |(n,j)::r,x,k,h=>by
  have ih:=@Me env r x k;have h':BZ x ((if (j==DH&&env.scope.kind==.function&&env.kindOf n==Aa .cell)=Ab then (n,BL) else (n,j))::(r.map λ(n,k)=>if (k==DH&&env.scope.kind==.function&&env.kindOf n==Aa .cell) then (n,BL) else (n,k)))=Aa k:=h
  by_cases hc:(j==DH&&env.scope.kind==.function&&env.kindOf n==Aa .cell)=Ab
  .rw[At hc]at h';rw[Cf]at h' ⊢;cases hx:x==n with
   |true=>
    rw[hx]at h';cases h';simp only[Al]at hc;exact .inr ⟨rfl,by rw[eq_of_beq hc.1.1]⟩
   |false=>rw[hx]at h';exact ih h'
  .rw[AC hc]at h';rw[Cf]at h' ⊢;cases hx:x==n with
   |true=>rw[hx]at h';exact .inl h'
   |false=>rw[hx]at h';exact ih h'
structure BlockOk (X:Cx) (scope:BN) (N':Ac Ag) (ts:Ac Af):Prop where
 kind:scope.kind=.function
 uniq:∀ y∈scope.names,scope.names.lookup y.1=Aa y.2
 names:∀ y∈scope.names,y.2=.local->scope.names.lookup y.1=Aa .local
 free:∀ y∈scope.names,y.2=.free->X.env.scope.names.lookup y.1=Aa .cell\/X.env.scope.names.lookup y.1=Aa .free
 len:N'.length=X.N.length
 same:∀ i x,N'[i]?=Aa x->scope.names.lookup x=Aa .free->i∉ts->X.N[i]?=Aa x
 loc:∀ i x,N'[i]?=Aa x->(scope.names.lookup x=Aa .local\/scope.names.lookup x=Aa .cell)->i∈ts
structure BCells (X:Cx) (scope:BN) (cl:Ac (Ag×Ak)) (C:Ak) (h:AG):Prop where
 own:∀ x c,cl.lookup x=Aa c->X.env.cells.lookup x=Aa c\/(scope.names.lookup x=Aa .cell/\C<c/\h.IsCell c Ae)
 inj:∀ x y c,cl.lookup x=Aa c->cl.lookup y=Aa c->x=y
 has:∀ x,scope.names.lookup x=Aa .cell->∃ c,cl.lookup x=Aa c/\C<c
 fr:∀ x,(x,DH)∈scope.names->∃ c,cl.lookup x=Aa c/\X.env.cells.lookup x=Aa c
section
variable{X:Cx}{pI:Pn}{Y:L2.St}{H:Hp}{s:Ap}
noncomputable def hideT(ts:Ac Af)(Y:L2.St):L2.St:=ts.foldl (λY t=>Y.set t Ae) Y
theorem Ob:∀(ts:Ac Af)(Y:L2.St),(hideT ts Y).length=Y.length
 |[],_=>rfl
 |t::ts,Y=>by show (hideT ts (Y.set t Ae)).length=_;rw[Ob ts,AV]
theorem Ro:∀(ts:Ac Af)(Y:L2.St){i:Af}{v:V},(hideT ts Y)[i]?=Aa (Aa v)->Y[i]?=Aa (Aa v)/\i∉ts
 |[],_,_,_,h=>⟨h,by simp⟩
 |t::ts,Y,i,v,h=>by
  obtain⟨h1,h2⟩:=Ro ts (Y.set t Ae) (i:=i) (v:=v) h;by_cases e:t=i
  .subst e;have:=Gp h1;cases this
  .rw[BQ e]at h1;exact⟨h1,by simp only[AI,GV];exact⟨λz=>e z.symm,h2⟩⟩
theorem Y_6{tk:Af}{C:Ak}{m:Ag->Ao Aj}(I:Inv X pI Y H s)(B:BlockOk X scope N' ts)(hf:∀ b∈fp,GJ X pI H b)(hfo:∀ b∈fp,b<s.heap.objs.size)(hb:BCells X scope cl C h')(hk:∀ b o,s.heap.get? b=Aa o->h'.get? b=Aa o)(hC:s.heap.objs.size<=C)(hn:h'.Ns C m):Inv (cxC X scope cl C N' s H fp) [] (hideT ts Y) H {s with heap:=h',toks:=tk}:=by
 have stf:∀ b∈fp,b∉frs X.stack:=λb hb z=>by
  rcases AI.mp (I.stkSub b z) with e|e
  .exact(hf b hb).2.1 e
  .exact(hf b hb).2.2.1 e
 have frOf:∀ x,((relabel scope X.env).names.lookup x=Aa .cell\/(relabel scope X.env).names.lookup x=Aa .free)->scope.names.lookup x=Aa .free\/scope.names.lookup x=Aa .cell:=λx hx=>by
  rcases hx with z|z
  .rcases Me z with z|⟨_,z⟩
   .exact .inr z
   .exact .inl z
  .rcases Me z with z|⟨z,_⟩
   .exact .inl z
   .cases z
 have gtC:∀ c:Ak,C<c->s.heap.objs.size<=c:=λc z=>By hC (Gh z)
 have cellK:∀ c v,s.heap.IsCell c v->h'.IsCell c v:=λc v ⟨o,ho,hd⟩=>⟨o,hk _ _ ho,hd⟩
 refine⟨⟨I.ok.mod,B.kind,I.ok.glob,I.ok.blt,hC,hb.inj,λx hx=>?_,λx c h e=>?_,I.ok.hd,I.ok.frames,.inl rfl,λb hbb=>⟨?_,λx c e=>?_⟩,I.bs,By I.ok.bsz I.sz,λb o e hbb=>?_,stf,I.stack,I.stkFree⟩,rfl,I.bare,Un.kept hk,⟨m,hn,λi x v h1 h2 h3=>?_⟩,λx c e=>?_,I.hok.fresh hC,λx c e=>(hb.own x c e).elim (I.freeC x c) (λz=>I.hok.fresh (gtC c z.2.1)),λp hp=>absurd (show p∈([]:Pn) from hp) (by simp),I.hok.kept hk,?_⟩
 .rcases frOf x hx with z|z
  .obtain⟨c,q,_⟩:=hb.fr x (CA z);exact⟨c,q⟩
  .obtain⟨c,q,_⟩:=hb.has x z;exact⟨c,q⟩
 .obtain⟨c',q,z⟩:=hb.has x (eq_of_beq h);have e':cl.lookup x=Aa c:=e;rw[q]at e';cases e';exact gtC _ z
 .intro z;have z':b=C:=z;have:=hfo b hbb;rw[z']at this;exact absurd (AQ this hC) (Bw _)
 .rcases hb.own x c e with z|z
  .exact(hf b hbb).2.2.2.2.1 x c z
  .intro q;have:=hfo b hbb;have:=gtC c z.2.1;rw[q]at this;exact absurd ‹b<_› (Wl.mpr this)
 .rcases (hf b hbb).2.2.2.1 with z|z
  .exact I.ok.noex b o e z
  .exact absurd (AQ (AK e) (By I.ok.bsz z)) (Bw _)
 .obtain⟨h2,hts⟩:=Ro ts Y h2;have h3':(relabel scope X.env).names.lookup x=Aa .local\/(relabel scope X.env).names.lookup x=Aa .cell\/(relabel scope X.env).names.lookup x=Aa .free:=h3;have h1':N'[i]?=Aa x:=h1;rcases h3' with z|z
  .rcases Me z with z|⟨z,_⟩
   .exact absurd (B.loc i x h1' (.inl z)) hts
   .cases z
  .have fr:=(frOf x z).resolve_right λq=>hts (B.loc i x h1' (.inr q))
   have hm:=CA fr;have hX:=B.same i x h1' fr hts;obtain⟨m0,hn0,hl0⟩:=I.loc;obtain⟨u,ru,lk⟩:=hl0 i x v hX h2 (by
    rcases B.free _ hm rfl with q|q
    .exact .inr (.inl q)
    .exact .inr (.inr q))
   refine⟨u,ru,?_⟩;obtain⟨c,hc,hcX⟩:=hb.fr x hm;rcases lk with ⟨q,_⟩|⟨_,c',hc',hcell⟩
   .have q':X.env.scope.names.lookup x=Aa .local:=q;rcases B.free _ hm rfl with p|p
    .rw[show X.env.scope.names.lookup x=_ from p]at q';cases q'
    .rw[show X.env.scope.names.lookup x=_ from p]at q';cases q'
   .have e:=hcX;rw[hc']at e;cases e;exact .inr ⟨z,c,hc,cellK _ _ hcell⟩
 .rcases hb.own x c e with z|z
  .obtain⟨v,q⟩:=I.cell x c z;exact⟨v,cellK _ _ q⟩
  .exact⟨_,z.2.2⟩
 .show (hideT ts Y).length=N'.length;rw[Ob,I.len,B.len]
theorem Oi{C D:Ak}{s':Ap}{Y':L2.St}{pins':Pn}{h'':AG}{ys:Ac Aj}(I:Inv X pI Y H s)(hf:∀ b∈fp,GJ X pI H b)(I':Inv (cxC X scope cl C N' s H fp) pins' Y' H' s')(hD:s.heap.objs.size<=D)(hDC:D≠C)(hC:s.heap.objs.size<=C)(hd:s'.heap.get? D=Aa { cls:=.type "list",data:=.seq ys.toArray n })(hDn:H' D=Ae)(rv:A2 xs ys)(hz:xs.length<=sizeLine)(hs:EF C s'.heap h''):Inv X pI Y (upd H' D (.lst xs)) {s' with heap:=h''}:=by
  have u:Un (frs X.stack) fp H H' s.heap s'.heap:=I'.base;have lt:∀ b o,s.heap.get? b=Aa o->b≠C/\b≠D:=λb o e=>⟨λz=>absurd (AQ (AK e) (z ▸ hC)) (Bw _),λz=>absurd (AQ (AK e) (z ▸ hD)) (Bw _)⟩
  have HD:H D=Ae:=I.hok.fresh hD;have hCn:H' C=Ae:=I'.free;have kb:∀ b o,b≠C->s'.heap.get? b=Aa o->h''.get? b=Aa o:=λb o hb e=>(hs.2 b hb).trans e
  have u2:Un (frs X.stack) fp H (upd H' D (.lst xs)) s.heap h'':=⟨λb o e q hb hx=>kb b o (lt b o e).1 (u.keep b o e q hb hx),λb o e q hb hx=>by
      obtain⟨sl,e1⟩:=u.slot b o e q hb hx;exact⟨sl,kb b _ (lt b o e).1 e1⟩,λb o e q hx=>by rw[Bj (lt b o e).2];exact u.free b o e q hx,λb o e hx=>by
      obtain⟨o',e1⟩:=u.there b o e hx;exact⟨o',kb b _ (lt b o e).1 e1⟩,λb zs q=>by rw[Bj (FO q HD)];exact u.tups b zs q,λb o zs q=>by rw[Bj (FO q HD)];exact u.frzs b o zs q,λb ps q=>by rw[Bj (FO q HD)];exact u.tbls b ps q⟩
  have hok:HOk X.prog X.w (upd H' D (.lst xs)) h'':=λb o e=>by
    by_cases hb:b=D
    · subst hb;rw[DJ]at e;cases e;exact⟨hz,ys,n,rv,kb _ _ hDC hd⟩
    · rw[Bj hb]at e;refine(I'.hok b o e).stay (λc v hc q=>kb c v ?_ q) (λc q=>by rw[Bj (FO q hDn)];exact q) λc zs q=>by rw[Bj (FO q hDn)];exact q
      rcases hc with rfl|hc
      · exact FO e hCn
      · exact FO hc hCn
  exact I.call' (s':={s' with heap:=h''}) (ch:=fp) I'.os u2 hok I'.bare λb hb=>⟨(hf b hb).2.2.2.1,(hf b hb).2.1,(hf b hb).2.2.2.2.1,(hf b hb).2.2.2.2.2⟩
end
def PTs(X:Cx)(ifs:Ac An)(tt:TT):Prop:=∀(pI:Pn)(s:Ap)(Y:L2.St)(H:Hp)(Q:Am->Hp->Prop),Inv X pI Y H s->tt Y H Q ->
 Av (model X.prog X.w) X.A (forIn ifs Ab λc r=>if r=Ab then do let ok <-Ik c X.env (eval c X.env);pure (Ei ok) else pure (Ei r)) (TP X pI Y Q) X.xe s
theorem gH:PTs X [] (λY H Q=>Q Ab H):=λpI s Y H Q I h=>wpAny_tests_nil ⟨H,I,h⟩
theorem gG{t:TT}(h:PT X c t):PTs X [c] t:=λpI s Y H Q I q=>wpAny_tests_one (h pI s Y H Q I q)
theorem Za{D:Ak}{ys:Ac Aj}{y:Aj}{E:Vq}{Q:Vq}(I:Inv X ((D,{ cls:=.type "list",data:=.seq ys.toArray n })::pI) Y H s)(hD:X.s₀.heap.objs.size<=D)(hp:∀ p∈X.pn++pI,p.1≠D)(hc:∀ x c,X.env.cells.lookup x=Aa c->c≠D)(hz:ys.length<=sizeLine)(h:∀ s',Inv X ((D,{ cls:=.type "list",data:=.seq (ys++[y]).toArray (n+1) })::pI) Y H s'->(∀ b o,b≠D->s.heap.get? b=Aa o->s'.heap.get? b=Aa o)->Q .none s'):Av (model X.prog X.w) X.A (call (.builtin "list.append") [.ref D,y]) Q E s:=by
 obtain⟨e,hn,hL,hfs,_⟩:=I.pin (D,{ cls:=.type "list",data:=.seq ys.toArray n }) (Bh _ AF);refine append_at (hsz:=by rw[AN];exact hz) e λh' hs hd=>?_
 have hd':h'.get? D=Aa { cls:=.type "list",data:=.seq (ys++[y]).toArray (n+1) }:=by rw[hd];simp
 have kb:∀ b o,b≠D->s.heap.get? b=Aa o->h'.get? b=Aa o:=λb o hb q=>(hs.2 b hb).trans q
 have I0:Inv X pI Y H s:=I.pins_of λp hp=>I.pin p (Bh _ (Aw _ hp))
 have I1:Inv X pI Y H {s with heap:=h'}:=I0.turned (t':=s.toks) kb hn hL (.inr hD) hc hp
 refine h _ (I1.pins_of λp hp=>?_) kb
 rcases AI.mp hp with rfl|hp
 .exact⟨hd',hn,hL,hfs,λv z=>by
   have z':Lb _ _=K8 v:=z;cases z'⟩
 .exact I1.pin p (Bh _ hp)
section
variable{prog:AM}{w:AA}{A:AU}{R:Hn->Ap->Prop}{s:Ap}
theorem Y_5{target:An}{it acc:Aj}(I:Af->Ap->Prop)(turn:∀ n s,I n s->Av (model prog w) A (pyNext it) (λr s₁=>match r with
      |none=>R (.ok .next) s₁
      | some v=>Av (model prog w) A (Gk target it v) (λ_ s₁'=>Av (model prog w) A (assign target env v) (λ_ s₂=>
          Av (model prog w) A (forIn ifs Ab λc r=>if r=Ab then do let ok <-Ik c env (eval c env);pure (Ei ok) else pure (Ei r)) (λok s₃=>
            if ok=Ab then Av (model prog w) A (eval elt env) (λx s₄=>
              Av (model prog w) A (call (.builtin "list.append") [acc,x]) (λ_ s₅=>∃ m,m<n/\I m s₅) (GE (model prog w) A env λe s'=>R (.error e) s') s₄) (GE (model prog w) A env λe s'=>R (.error e) s') s₃
            else ∃ m,m<n/\I m s₃) (GE (model prog w) A env λe s'=>R (.error e) s') s₂) (GE (model prog w) A env λe s'=>R (.error e) s') s₁') (GE (model prog w) A env λe s'=>R (.error e) s') s₁) (GE (model prog w) A env λe s'=>R (.error e) s') s)(n:Af)(h:I n s):EG (model prog w) A (.compLoop (.ListComp elt [⟨target,iter,ifs,0⟩] scope pos) 0 it acc env) R s:=by
  refine codeAny_loop rfl I (λn s hI=>?_) n h
  show Av _ A ((compTurn (.ListComp elt [⟨target,iter,ifs,0⟩] scope pos) 0 it acc env).onRaise (λx=>do DY x env;theTreesLotGoes x)) _ _ s
  refine wpAny_noted ?_;rw[compTurn_list];refine Aq (Eg (Aq (A9 (turn n s hI) (λr s₁ h₁=>?_) λ_ _ h'=>h')))
  cases r with
  |none=>exact AT h₁
  |some v=>
    refine Aq (A9 h₁ (λ_ s₁' h₁'=>?_) λ_ _ h'=>h')
    refine Aq (A9 h₁' (λ_ s₂ h₂=>Aq (A9 h₂ (λok s₃ h₃=>?_) λ_ _ h'=>h')) λ_ _ h'=>h')
    cases ok with
    |false=>exact AT ⟨rfl,h₃⟩
    |true=>
      exact Aq (Aq (A9 h₃ (λx s₄ h₄=>Aq (A9 h₄ (λ_ s₅ h₅=>AT (AT ⟨rfl,h₅⟩)) λ_ _ h'=>h')) λ_ _ h'=>h'))
end
def Jt(J:It)(ts:Ac Af)(g:TG)(tt:TT)(te:TE)(Y:L2.St)(H:Hp)(Q:VK):Prop:=∃ W:Af->Af->Ac V->L2.St->Hp->Prop,(∃ m,W 0 m [] (hideT ts Y) H)/\∀ i m xs Y H,W i m xs Y H ->
 (J.stop i H/\∀ p,H p=Ae->Q (.ref p) (upd H p (.lst xs))) \/
 (J.go i H/\xs.length<sizeLine/\∀ x H',J.yld i H x H'->g x Y H' λY2 H2=>tt Y2 H2 λb H3=>if b=Ab then te Y2 H3 λy H4=>∃ m',m'<m/\W (i+1) m' (xs++[y]) Y2 H4 else ∃ m',m'<m/\W (i+1) m' xs Y2 H3)
theorem Oq{g:TG}{it:Ak}{tn:Af->AG->Prop}{E:Vq}{RR:Aj->Ak->Hn->Ap->Prop}(hc:X.calm=Ab)(B:BlockOk X scope N' ts)(I:Inv X pI Y H s)(T:Turn X.prog X.w X.K tg J fp it tn)(st:tn 0 s.heap)(hf:∀ b∈fp,GJ X pI H b)(hcl:∀ x c,cl.lookup x=Aa c->X.env.cells.lookup x=Aa c)(hcl2:∀ x,(x,DH)∈scope.names->∃ c,cl.lookup x=Aa c)(hg:∀ cl C s H,PG (cxC X scope cl C N' s H fp) tg g)(ht:∀ cl C s H,PTs (cxC X scope cl C N' s H fp) ifs tt)(he:∀ cl' C D pl Y' H' s' (Q':VK),s.heap.objs.size<=C->Inv (cxC X scope cl' C N' s H fp) pl Y' H' s'->(∀ b∈fp,∃ o,(b,o)∈pl)->te Y' H' Q'->Av (model X.prog X.w) X.A (eval elt (GD scope cl' C X.env)) (EP (cxC X scope cl' C N' s H fp) pl Y' Q') (GE (model X.prog X.w) X.A (GD scope cl' C X.env) λe s''=>RR (.ref D) C (.error e) s'') s')(h:Jt J ts g tt te Y H Q)(hRR:∀ cl D C s' H' Y' pins' xs ys n m,Inv (cxC X scope cl C N' s H fp) pins' Y' H' s'->s'.heap.get? D=Aa { cls:=.type "list",data:=.seq (EE ys) n }->H' D=Ae->A2 xs ys->xs.length<=sizeLine->s.heap.objs.size<=D->D≠C->s.heap.objs.size<=C->s'.heap.Ns C m->Q (.ref D) (upd H' D (.lst xs))->RR (.ref D) C (.ok .next) s'):Av (model X.prog X.w) X.A (newList []) (λacc s₃=>Av (model X.prog X.w) X.A (Il scope X.env.globals cl [] X.env.qual Ae .none (Aa X.env)) (λcenv s₄=>EG (model X.prog X.w) X.A (.compStart (.ListComp elt [⟨tg,iter,ifs,0⟩] scope pos) 0 (.ref it) acc {cenv with scope:=relabel scope X.env}) (RR acc cenv.locals) s₄) E s₃) E s:=by
 refine CN (YN ?_);dsimp only;generalize hH2:s.heap.push { cls:=.type "list",dict:=Ae,data:=.seq ([]:Ac Aj).toArray }=H2;have hns₁:(GS (H2.push { cls:=.type "dict",data:=.dict #[] }) scope.names).Ns H2.objs.size (λ_=>Ae):=(Heap.Ns.new H2 (.type "dict")).keeps (HN _ _)
 have hkp₁:∀ b o,H2.get? b=Aa o->(GS (H2.push { cls:=.type "dict",data:=.dict #[] }) scope.names).get? b=Aa o:=λb o e=>HN _ _ b o (Au _ e)
 have hown:=Of scope.names (H2.push { cls:=.type "dict",data:=.dict #[] }) cl;have hinj:=Og scope.names (H2.push { cls:=.type "dict",data:=.dict #[] }) cl;rw[Dt]at hown hinj;generalize hcl':CQ (H2.objs.size+1) scope.names cl=cl' at hown hinj;have hcf:∀ x,(x,BL)∉scope.names->cl'.lookup x=cl.lookup x:=λx hx=>by rw[<-hcl'];exact NX _ _ _ x hx
 have hch:∀ x,(x,BL)∈scope.names->∃ c,cl'.lookup x=Aa c/\H2.objs.size+1<=c:=λx hx=>by rw[<-hcl'];exact Oh _ _ _ _ x (AL _) (.inl hx)
 generalize hh₁:GS (H2.push { cls:=.type "dict",data:=.dict #[] }) scope.names=h₁ at hns₁ hkp₁ hown;have hC:H2.objs.size=s.heap.objs.size+1:=by rw[<-hH2,Dt]
 have hCle:s.heap.objs.size<=H2.objs.size:=by rw[hC];exact JJ _
 have hDC:s.heap.objs.size≠H2.objs.size:=by rw[hC];exact Bm (F0 _)
 have below:∀ b,b<s.heap.objs.size->b≠H2.objs.size:=λb hb=>by rw[hC];exact Bm (G7 hb)
 have old:∀ b o,s.heap.get? b=Aa o->h₁.get? b=Aa o:=λb o e=>hkp₁ b o (hH2 ▸ Au _ e)
 have hacc:h₁.get? s.heap.objs.size=Aa { cls:=.type "list",data:=.seq ([]:Ac Aj).toArray 0 }:=hkp₁ _ _ (hH2 ▸ A3 _ rfl);have clt:∀ x c,cl.lookup x=Aa c->c<s.heap.objs.size:=λx c e=>by
  obtain⟨v,q⟩:=I.cell x c (hcl x c e);exact q.lt
 have bc:BCells X scope cl' H2.objs.size h₁:=by
  refine⟨λx c e=>?_,hinj (λx y c e1 e2=>I.ok.inj x y c (hcl x c e1) (hcl y c e2)) (λx c e=>G7 (AQ (clt x c e) hCle)),λx hx=>?_,λx hx=>?_⟩
  .rcases hown x c e with q|⟨q1,q2,q3⟩
   .exact .inl (hcl x c q)
   .exact .inr ⟨B.uniq _ q1,q2,q3⟩
  .have hm:=CA hx;obtain⟨c,e,hc⟩:=hch x hm;exact⟨c,e,hc⟩
  .have hno:(x,BL)∉scope.names:=λz=>by
    have e1:=B.uniq _ hx;have e2:=B.uniq _ z;rw[show scope.names.lookup x=_ from e1]at e2
    cases e2
   obtain⟨c,e⟩:=hcl2 x hx;exact⟨c,by rw[hcf x hno];exact e,hcl x c e⟩
 have hfo:∀ b∈fp,b<s.heap.objs.size:=λb hb=>by
  obtain⟨o,e,_⟩:=T.obj 0 _ st b hb;exact AK e
 generalize hD:s.heap.objs.size=D at *;generalize hC':H2.objs.size=C at *;have I0:Inv (cxC X scope cl' C N' s H fp) [] (hideT ts Y) H {s with heap:=h₁,toks:=s.toks+([]:Ac (Ag×Aj)).length}:=Y_6 (tk:=s.toks+([]:Ac (Ag×Aj)).length) I B hf (λb hb=>by rw[hD];exact hfo b hb) bc old (by rw[hD];exact hCle) hns₁
 have nD:H D=Ae:=I.hok.fresh (by rw[hD];exact AL _)
 have noD:∀ b∈fp,b≠D:=λb hb=>Bm (hfo b hb)
 have noC:∀ b∈fp,b≠C:=λb hb=>below b (hfo b hb)
 have stfs:D∉frs X.stack:=λz=>by
  obtain⟨_,o,ho,_⟩:=I.stack.mem z;exact absurd (AK ho) (by rw[hD];exact Bw _)
 have cD:∀ x c,cl'.lookup x=Aa c->c≠D:=λx c e z=>by
  rcases bc.own x c e with q|⟨_,q,_⟩
  .obtain⟨v,q⟩:=I.cell x c q;exact absurd q.lt (by rw[z,hD];exact Bw _)
  .rw[z]at q;exact absurd (AQ q hCle) (Bw _)
 have I1:Inv (cxC X scope cl' C N' s H fp) [(D,{ cls:=.type "list",data:=.seq ([]:Ac Aj).toArray 0 })] (hideT ts Y) H {s with heap:=h₁,toks:=s.toks+([]:Ac (Ag×Aj)).length}:=I0.pins_of λp hp=>by
  have e:=Bf.mp hp;subst e;exact⟨hacc,nD,hDC,stfs,λv z=>by
   have z':Lb _ _=K8 v:=z;cases z'⟩
 have st1:tn 0 h₁:=T.keep _ _ _ st λb _ o e=>old b o e
 obtain⟨W,⟨m0,w0⟩,turn⟩:=h;have fpk:∀{pl:Pn}{H':Hp},(∀ p∈pl,p.1=D)->(∀ b∈fp,H' b=Ae)->∀ b∈fp,GJ (cxC X scope cl' C N' s H fp) pl H' b:=λ{pl H'} hp hn b hb=>
  ⟨hn b hb,noC b hb,λz=>by
   rcases AI.mp (I.stkSub b z) with e|e
   .exact(hf b hb).2.1 e
   .exact(hf b hb).2.2.1 e,.inl hb,λx c e=>(bc.own x c e).elim ((hf b hb).2.2.2.2.1 x c) (λz q=>absurd (Ej hCle z.2.1) (Wl.mpr (by rw[q];exact Gh (hfo b hb)))),λp hp'=>by
   have hp2:p∈pl:=hp';rw[hp p hp2];exact(noD b hb).symm⟩
 have loop:∀ s₃:Ap,s₃={s with heap:=h₁,toks:=s.toks+([]:Ac (Ag×Aj)).length} ->
   EG (model X.prog X.w) X.A (.compLoop (.ListComp elt [⟨tg,iter,ifs,0⟩] scope pos) 0 (.ref it) (.ref D) (GD scope cl' C X.env)) (RR (.ref D) C) s₃:=by
  rintro s₃ rfl;refine Y_5 (λk s'=>∃ i Y' H' xs ys n,Inv (cxC X scope cl' C N' s H fp) [(D,{ cls:=.type "list",data:=.seq (EE ys) n })] Y' H' s'/\tn i s'.heap/\(∀ b∈fp,H' b=Ae)/\A2 xs ys/\xs.length<=sizeLine/\W i k xs Y' H') ?_ m0
   ⟨0,_,H,[],[],0,I1,st1,λb hb=>(hf b hb).1,.nil,DW _,w0⟩
  rintro k s' ⟨i,Y',H',xs,ys,n,I',st',fr',rv,hz,w'⟩;have one:∀ p∈[((D,{ cls:=.type "list",data:=.seq (EE ys) n }):Ak×C9)],p.1=D:=λp hp=>by rw[Bf.mp hp]
  rcases turn i k xs Y' H' w' with ⟨stop,q⟩|⟨go,hlt,step⟩
  .refine A9 (T.done (cxC X scope cl' C N' s H fp) rfl rfl rfl hc i _ s' Y' H' (λ_ _=>AW) I' (fpk one fr') st' stop) (λr s1 ⟨hr,J1⟩=>?_) λ_ _ f=>f.elim
   subst hr;obtain⟨e,hn,_⟩:=J1.pin _ (Bh _ AF);obtain⟨m,hm,_⟩:=J1.loc;exact hRR cl' D C s1 H' Y' _ xs ys n m J1 e hn rv hz (AL _) hDC hCle hm (q D hn)
  .refine A9 (T.item (cxC X scope cl' C N' s H fp) rfl rfl rfl hc i _ s' Y' H' (λ_ _=>AW) I' (fpk one fr') st' go) (λr s1 ⟨u,hr,h4⟩=>?_) λ_ _ f=>f.elim
   subst hr;refine A9 h4 (λ_ s5 ⟨x,H5,I5,r5,y5,st5,fr5⟩=>?_) λ_ _ f=>f.elim
   have I5':=I5.pinned (fpk one fr5) (T.obj _ _ st5);refine A9 (hg cl' C s H _ s5 Y' H5 x u _ I5' r5 (step x H5 y5)) (λ_ s6 ⟨Y6,H6,I6,q6⟩=>?_) λ_ _ f=>f.elim
   refine A9 (ht cl' C s H _ s6 Y6 H6 _ I6 q6) (λok s7 ⟨H7,I7,q7⟩=>?_) λ_ _ f=>f.elim
   have again:∀{s8:Ap}{H8:Hp}{ys':Ac Aj}{n':Af},Inv (cxC X scope cl' C N' s H fp) ((D,{ cls:=.type "list",data:=.seq (EE ys') n' })::JY fp s5.heap) Y6 H8 s8->Inv (cxC X scope cl' C N' s H fp) [(D,{ cls:=.type "list",data:=.seq (EE ys') n' })] Y6 H8 s8/\tn (i+1) s8.heap/\∀ b∈fp,H8 b=Ae:=λ{s8 H8 ys' n'} I8=>
    ⟨I8.pins_of λp hp=>I8.pin p (Bh _ (by rw[Bf.mp hp];exact AF)),T.keep _ _ _ st5 λb hb o e=>(I8.pin (b,o) (Bh _ (Aw _ (Lm hb e)))).1,λb hb=>by
     obtain⟨o,e,d⟩:=T.obj _ _ st5 b hb;exact(I8.pin (b,o) (Bh _ (Aw _ (Lm hb e)))).2.1⟩
   cases ok with
   |false=>
    rw[AC (by decide)]at q7
    obtain⟨m',hm,w7⟩:=q7;obtain⟨a1,a2,a3⟩:=again I7;rw[AC (by decide)]
    exact⟨m',hm,i+1,Y6,H7,xs,ys,n,a1,a2,a3,rv,hz,w7⟩
   |true=>
    rw[At rfl]at q7;rw[At rfl];refine A9 (he cl' C D _ Y6 H7 s7 _ hCle I7 (λb hb=>let ⟨o,e,_⟩:=T.obj _ _ st5 b hb;⟨o,Aw _ (Lm hb e)⟩) q7) (λval s8 ⟨y,H8,I8,r8,m',hm,w8⟩=>?_) λ_ _ f=>f
    have hl:=rv.length;refine Za (X:=cxC X scope cl' C N' s H fp) (ys:=ys) (n:=n) (pI:=JY fp s5.heap) I8 (by show s.heap.objs.size<=D;rw[hD];exact AL _) (λp hp=>?_) cD (by omega) λs9 I9 kb=>?_
    .have hp2:p∈JY fp s5.heap:=hp;exact noD _ (Rh hp2).1
    .obtain⟨a1,a2,a3⟩:=again I9;exact⟨m',hm,i+1,Y6,H8,xs++[y],ys++[val],n+1,a1,a2,a3,rv.append (.cons r8 .nil),by rw[BS];exact hlt,w8⟩
 exact codeAny_compStart_list (loop _ rfl) (T.self _ 0 _ _ _ st1 (loop _ rfl))
theorem gR{g:TG}(hc:X.calm=Ab)(B:BlockOk X scope N' ts)(hi:PI X tg iter wi)(hg:∀ cl C s H fp,PG (cxC X scope cl C N' s H fp) tg g)(ht:∀ cl C s H fp,PTs (cxC X scope cl C N' s H fp) ifs tt)(he:∀ cl C s H fp,PE (cxC X scope cl C N' s H fp) elt te)(hs:∀ x,B4 iter X.env x=pure x):PE X (.ListComp elt [⟨tg,iter,ifs,0⟩] scope pos) (λY H Q=>wi Y H λJ H1=>Jt J ts g tt te Y H1 Q):=by
 intro pI s Y H Q I h;obtain⟨cl,hclos,hcl,hcl2⟩:=NV (scope:=scope) (env:=X.env) λx hx hk=>I.ok.has x.1 ((B.free x hx hk).imp id id)
 rw[eval_ListComp];refine Fs (use:=Ae) rfl hs hclos B.kind B.names (thn (hi pI s Y H _ I h) λv s1 h1=>thn h1 λitv s2 h2=>?_)
 obtain⟨it,fp,tn,J,H2,e,I2,T,st2,f2,h3⟩:=h2;subst e;refine Oq (RR:=λacc C=>JL (model X.prog X.w) X.A X.xe Ae (EP X pI Y Q) acc C) hc B I2 T st2 f2 hcl hcl2 (λcl C s H=>hg cl C s H fp) (λcl C s H=>ht cl C s H fp) (λcl C D pl Y' H' s' Q' _ I' _ q=>A9 (he cl C s2 H2 fp pl s' Y' H' Q' I' q) (λ_ _ z=>z) λ_ _ f=>f.elim) h3 λcl' D C s' H' Y' pins' xs ys n m I' hd hDn rv hz hD hDC hC hm q=>?_
 exact⟨m,hm,λh'' hs''=>⟨.ref D,_,Oi I2 f2 I' hD hDC hC hd hDn rv hz hs'',rfl,q⟩⟩
theorem gM{n:Ag}{g:TG}(hc:X.calm=Ab)(B:BlockOk X scope N' ts)(hi:PI X tg iter wi)(hg:∀ cl C s H fp,PG (cxC X scope cl C N' s H fp) tg g)(ht:∀ cl C s H fp,PTs (cxC X scope cl C N' s H fp) ifs tt)(he:∀ cl C s H fp,PE (cxC X scope cl C N' s H fp) elt te)(hs:∀ x,B4 iter X.env x=pure x)(hN:X.N.Nodup)(hni:X.N[i]?=Aa n)(hx:X.env.scope.names.lookup n=Aa .local)(hsw:CS (.ListComp elt [⟨tg,iter,ifs,0⟩] scope pos) (Aa (.Name n pos')) pos2.line X.env=pure Ab):PS X (.Assign [.Name n pos'] (.ListComp elt [⟨tg,iter,ifs,0⟩] scope pos) pos2) (Qa (λY H Q=>wi Y H λJ H1=>Jt J ts g tt te Y H1 Q) (FQ i)):=by
 intro pI s Y H Dn I h;obtain⟨cl,hclos,hcl,hcl2⟩:=NV (scope:=scope) (env:=X.env) λx hx hk=>I.ok.has x.1 ((B.free x hx hk).imp id id)
 rw[exec_Assign_Name_used _ _ _ _ hsw];refine Aq (Eg (Aq ?_));show Av _ X.A (do let _ <-comprehension (.ListComp elt [⟨tg,iter,ifs,0⟩] scope pos) scope X.env _ (newList []) Ad (eval iter X.env) (Aa (assign (.Name n pos') X.env))) _ _ s
 refine Aq (A9 (Fs (use:=Aa (assign (.Name n pos') X.env)) (Q:=λ_ s'=>SP X pI Dn .next s') rfl hs hclos B.kind B.names
  (thn (hi pI s Y H _ I h) λv s1 h1=>thn h1 λitv s2 h2=>?_)) (λ_ s' hq=>AT (AT hq)) λ_ _ e=>e)
 obtain⟨it,fp,tn,J,H2,e,I2,T,st2,f2,h3⟩:=h2;subst e;refine Oq (RR:=λacc C=>JL (model X.prog X.w) X.A X.xe (Aa (assign (.Name n pos') X.env)) (λ_ s'=>SP X pI Dn .next s') acc C) hc B I2 T st2 f2 hcl hcl2 (λcl C s H=>hg cl C s H fp) (λcl C s H=>ht cl C s H fp) (λcl C D pl Y' H' s' Q' _ I' _ q=>A9 (he cl C s2 H2 fp pl s' Y' H' Q' I' q) (λ_ _ z=>z) λ_ _ f=>f.elim) h3 λcl' D C s' H' Y' pins' xs ys n' m I' hd hDn rv hz hD hDC hC hm q=>?_
 have J0:Inv X pI Y (upd H' D (.lst xs)) s':=Oi I2 f2 I' hD hDC hC hd hDn rv hz (Heap.SameBut.refl ..);refine Yj (Q9 J0 hN hni (.inl hx) (show Bu (.ref D) (.ref D) from rfl) (λs'' J1 ⟨a,sb,ha⟩=>?_) (.inr hx))
 have hC0:X.s₀.heap.objs.size<=C:=By I2.sz hC;have hL:C≠X.env.locals:=λz=>absurd (AQ I2.lt (z ▸ hC)) (Bw _)
 have hcC:∀ x c,X.env.cells.lookup x=Aa c->c≠C:=λx c e z=>by
  obtain⟨v,q'⟩:=I2.cell x c e;exact absurd (AQ q'.lt (by rw[z];exact hC)) (Bw _)
 have hp:∀ p∈X.pn++pI,p.1≠C:=λp hp z=>absurd (AQ (AK (I2.pin p hp).1) (by rw[z];exact hC)) (Bw _)
 have hCn:upd H' D (.lst xs) C=Ae:=by rw[Bj hDC.symm];exact I'.free
 have hCa:C≠a:=by
  rcases ha with rfl|ha
  .exact hL
  .exact λz=>hcC n a ha z.symm
 refine⟨m,hm.sameBut sb hCa,λh'' hs''=>⟨_,_,J1.turned (t':=s''.toks) (λb o hb e=>(hs''.2 b hb).trans e) hCn hL (.inr hC0) hcC hp,q⟩⟩
theorem Ku:∀(ts:Ac Af)(U:Rho)(j:Af),(Fd ts U)[j]?=if j∈ts then (U[j]?).map (λ_=>Ae) else U[j]?
 |[],U,j=>by simp[Fd]
 |t::ts,U,j=>by
  show (Fd ts (U.set t Ae))[j]?=_;rw[Ku ts];by_cases h1:j∈ts
  .rw[At h1,At (Aw _ h1)];by_cases h2:t=j
   .subst h2;rw[FE];cases U[t]?<;>rfl
   .rw[BQ h2]
  .rw[AC h1];by_cases h2:t=j
   .subst h2;rw[At AF,FE];cases U[t]?<;>rfl
   .rw[BQ h2,AC (by simp only[AI,GV];exact⟨λz=>h2 z.symm,h1⟩)]
theorem Mm:∀(ts:Ac Af)(U:Rho),(Fd ts U).length=U.length
 |[],_=>rfl
 |t::ts,U=>by show (Fd ts (U.set t Ae)).length=_;rw[Mm ts,AV]
theorem N4:∀(ts:Ac Af)(Y:L2.St){i:Af},i∉ts->(hideT ts Y)[i]?=Y[i]?
 |[],_,_,_=>rfl
 |t::ts,Y,i,h=>by
  simp only[AI,GV]at h;show (hideT ts (Y.set t Ae))[i]?=_;rw[N4 ts _ h.2,BQ (λz=>h.1 z.symm)]
theorem Qy:∀(ts:Ac Af)(ds:Ac D)(U1 U2:Rho),U1.length=U2.length->(∀ j,j∉ts->U1[j]?=U2[j]?)->EI ts ds U1=EI ts ds U2
 |[],[],U1,U2,hl,h=>congrArg Aa (V0 λj=>h j (by simp))
 |[],_::_,_,_,_,_=>rfl
 |_::_,[],_,_,_,_=>rfl
 |t::ts,d::ds,U1,U2,hl,h=>by
  refine Qy ts ds _ _ (by rw[AV,AV];exact hl) λj hj=>?_
  by_cases e:t=j
  .subst e;rw[G6,G6,At rfl,At rfl,hl]
  .rw[BQ e,BQ e];exact h j (by simp only[AI,GV];exact⟨λz=>e z.symm,hj⟩)
theorem QK:∀(ts us:Ac Af)(ds:Ac D)(U U':Rho),(∀ t∈ts,t∈us)->EI ts ds U=Aa U'->Fd us U'=Fd us U
 |[],us,[],U,U',_,e=>by cases e;rfl
 |t::ts,us,d::ds,U,U',hs,e=>by
  rw[QK ts us ds _ U' (λu hu=>hs u (Aw _ hu)) e]
  refine V0 λj=>?_
  rw[Ku,Ku];by_cases h:j∈us
  .rw[At h,At h,G6];split
   .rename_i e2;subst e2;split
    .rename_i h3;rw[Bc h3];rfl
    .rename_i h3;rw[List.getElem?_eq_none (by omega)]
   .rfl
  .rw[AC h,AC h,BQ];rintro rfl;exact h (hs _ AF)
 |[],_,_::_,_,_,_,e=>by cases e
 |_::_,_,[],_,_,_,e=>by cases e
section
variable{K:Fg}{CL:ClA}{A:Ak->Prop}{U U':Rho}{Y:L2.St}{H:Hp}
theorem Good.less(g:Good K CL A U Y H)(hl:U'.length=U.length)(h:∀(i:Af)(d:D)(o:Am),U'[i]?=Aa (Aa (d,o))->U[i]?=Aa (Aa (d,o))):Good K CL A U' Y H:=⟨λi d e=>g.sh i d (h i d Ad e),λi d e hn=>g.ow i d (h i d Ab e) hn,hl.trans g.len⟩
theorem Good.put(g:Good K CL A U Y H)(t:Af)(r:Rep K CL H A v d):Good K CL A (U.set t (Aa (d,Ad))) (Y.set t (Aa v)) H:=by
 refine⟨λj e h=>?_,λj e h hn=>?_,by rw[AV,AV];exact g.len⟩
 .by_cases hj:t=j
  .subst hj;have e1:=Gp h;cases e1;have hl:t<Y.length:=by
    rw[<-g.len];have:=(A5.mp h).1;simpa using this
   exact⟨v,by rw[Cu hl],r⟩
  .rw[BQ hj]at h;obtain⟨w',q,rw'⟩:=g.sh j e h;exact⟨w',by rw[BQ hj];exact q,rw'⟩
 .have hj:t≠j:=by
   rintro rfl;have:=Gp h;cases this
  rw[BQ hj]at h;obtain⟨a,xs,ds,q,z⟩:=g.ow j e h hn;exact⟨a,xs,ds,by rw[BQ hj];exact q,z⟩
theorem Good.hide(g:Good K CL A U Y H)(ts:Ac Af):Good K CL A (Fd ts U) Y H:=g.less (Mm _ _) λi d o e=>by
 rw[Ku]at e;split at e
 .cases q:U[i]? with
  |none=>rw[q]at e;cases e
  |some x=>rw[q]at e;cases e
 .exact e
theorem Good.hideT(g:Good K CL A U Y H)(ts:Ac Af):Good K CL A (Fd ts U) (hideT ts Y) H:=by
 have key:∀ i x,(Fd ts U)[i]?=Aa (Aa x)->U[i]?=Aa (Aa x)/\i∉ts:=λi x e=>by
  rw[Ku]at e;split at e
  .cases q:U[i]? with
   |none=>rw[q]at e;cases e
   |some x=>rw[q]at e;cases e
  .exact⟨e,by assumption⟩
 refine⟨λi d e=>?_,λi d e hn=>?_,by rw[Mm,Ob];exact g.len⟩
 .obtain⟨e1,e2⟩:=key i _ e;obtain⟨v,q,r⟩:=g.sh i d e1;exact⟨v,by rw[N4 _ _ e2];exact q,r⟩
 .obtain⟨e1,e2⟩:=key i _ e;obtain⟨a,xs,ds,q,r⟩:=g.ow i d e1 hn;exact⟨a,xs,ds,by rw[N4 _ _ e2];exact q,r⟩
end
def GG(K:Fg)(CL:ClA)(ts:Ac Af)(as:D->Rho->R Rho)(g:TG):Prop:=∀ A U Y H v d U' Q,Good K CL A (Fd ts U) Y H->Rep K CL H A v d->as d U=.ok U'->(∀ Y',Good K CL A U' Y' H->Good K CL A (Fd ts U) Y' H->Q Y' H)->g v Y H Q
theorem iW(i:Af):GG K CL [i] (λd U=>.ok (U.set i (Aa (d,Ad)))) (FQ i):=λA U Y H v d U' Q g r e k=>by
 cases e;have g2:=g.put i r;have e1:(Fd [i] U).set i (Aa (d,Ad))=U.set i (Aa (d,Ad)):=by
  show (U.set i Ae).set i (Aa (d,Ad))=_;rw[Wh]
 rw[e1]at g2;refine k _ g2 ?_;have:=g2.hide [i];have e2:Fd [i] (U.set i (Aa (d,Ad)))=Fd [i] U:=by
  show (U.set i _).set i Ae=U.set i Ae;rw[Wh]
 rw[e2]at this;exact this
theorem Si{K:Fg}{CL:ClA}{A:Ak->Prop}{H:Hp}:∀(ts:Ac Af)(ds:Ac D)(vs:Ac V)(U U':Rho)(Y:L2.St)(Q:L2.St->Hp->Prop),Good K CL A U Y H->Reps K CL H A vs ds->EI ts ds U=Aa U'->(∀ Y',Good K CL A U' Y' H->Q Y' H)->(ts.foldr (λt u=>IN (FQ t) u) IR) vs Y H Q
 |[],[],[],U,U',Y,Q,x,_,e,k=>by
  cases e;exact⟨rfl,k Y x⟩
 |t::ts,d::ds,v::vs,U,U',Y,Q,x,r,e,k=>⟨v,vs,rfl,Si ts ds vs _ U' _ Q (x.put t r.1) r.2 e k⟩
 |[],_::_,_,_,_,_,_,_,_,e,_=>by cases e
 |_::_,[],_,_,_,_,_,_,_,e,_=>by cases e
 |[],[],_::_,_,_,_,_,_,r,_,_=>r.elim
 |_::_,_::_,[],_,_,_,_,_,r,_,_=>r.elim
theorem oG(ts:Ac Af):GG K CL ts (ES ts) (LZ K ts.length (ts.foldr (λt u=>IN (FQ t) u) IR)):=λA U Y H v d U' Q g r e k=>by
 cases d with
 |tup ds=>
  obtain⟨a,xs,rfl,na,sq,rs⟩:=r;rw[QT]at e;cases e2:EI ts ds U with
  |none=>rw[e2]at e;cases e
  |some U2=>
   rw[e2]at e;cases e;have e3:EI ts ds (Fd ts U)=Aa U':=by
    rw[<-e2];exact Qy ts ds _ _ (Mm _ _) λj hj=>by rw[Ku,AC hj]
   refine⟨a,xs,rfl,sq,by rw[rs.length];exact N1 _ _ _ _ e2,Si ts ds xs _ U' Y Q g rs e3 λY' g'=>k Y' g' ?_⟩
   have:=g'.hide ts;rw[QK ts ts ds U U' (λ_ h=>h) e2]at this
   exact this
 |_=>cases e
noncomputable abbrev W0:XW:=λ_ _=>AW
def STs(X:Cx)(CL:ClA)(ifs:Ac An)(f:Rho->R Am):Prop:=∀ A,PTs X ifs (λY H Q=>AOk H A/\∃ U,Good X.K CL A U Y H/\CK W0 H (f U) Q)
theorem Sf:STs X CL [] (λ_=>.ok Ab):=λA pI s Y H Q I ⟨hA,U,g,p⟩=>gH pI s Y H Q I (p H (Az.refl H))
theorem dJ{f:Rho->R Am}(h:SB X CL W0 c f):STs X CL [c] f:=λA pI s Y H Q I q=>gG (h A) pI s Y H Q I q
section
variable{X:Cx}{CL:ClA}{W:XW}{tg iter elt:An}{ifs:Ac An}{scope:BN}{pos:AD}{N':Ac Ag}{ts:Ac Af}{fi:Rho->R (Ac D)}{fc:Rho->R Am}{fe:Rho->R D}{as:D->Rho->R Rho}{g:TG}
theorem YR{g:D->R Am}{f:D->R D}{x:D}{xs ys:Ac D}(h:Bv g f (x::xs)=.ok ys):(g x=.ok Ad/\Bv g f xs=.ok ys)\/∃ y r,g x=.ok Ab/\f x=.ok y/\Bv g f xs=.ok r/\ys=y::r:=by
 unfold Bv at h;cases e:g x with
 |bad=>rw[e]at h;cases h
 |exn z=>rw[e]at h;cases h
 |ok b=>
  rw[e,R.bind_ok]at h;cases b with
  |false=>exact .inl ⟨rfl,h⟩
  |true=>
   rw[At rfl]at h;cases e2:f x with
   |bad=>rw[e2]at h;cases h
   |exn z=>rw[e2]at h;cases h
   |ok y=>
    rw[e2,R.bind_ok]at h;cases e3:Bv g f xs with
    |bad=>rw[e3]at h;cases h
    |exn z=>rw[e3]at h;cases h
    |ok r=>
     rw[e3,R.bind_ok]at h;cases h;exact .inr ⟨y,r,rfl,rfl,rfl,rfl⟩
theorem JP{β:Type}{r:R α}{f:α->R β}{b:β}(h:r.bind f=.ok b):∃ a,r=.ok a/\f a=.ok b:=by
 cases r with
 |ok a=>exact⟨a,rfl,h⟩
 |exn x=>cases h
 |bad=>cases h
theorem QZ{We:XW}{ds ys:Ac D}(hGG:GG K CL ts as g)(hA:AOk H1 A)(gd:Good K CL A U Y H1)(yl:IU K CL A ds J H1)(hz:ds.length<=sizeLine)(hcp:Bv (λx=>(as x U).bind fc) (λx=>(as x U).bind fe) ds=.ok ys)(q:∀ xs H2,Az H1 H2->Reps K CL H2 A xs ys->∀ p,H2 p=Ae->Q (.ref p) (upd H2 p (.lst xs))):Jt J ts g (λY H Q=>AOk H A/\∃ U,Good K CL A U Y H/\CK W0 H (fc U) Q) (λY H Q=>AOk H A/\∃ U,Good K CL A U Y H/\AS (λH=>Rep K CL H A) We H (fe U) Q) Y H1 Q:=by
 refine⟨λi m xs Y' H'=>m=ds.length-i/\i<=ds.length/\xs.length<=i/\Az H1 H'/\Good K CL A (Fd ts U) Y' H'/\∃ outs rest,Reps K CL H' A xs outs/\Bv (λx=>(as x U).bind fc) (λx=>(as x U).bind fe) (ds.drop i)=.ok rest/\ys=outs++rest,
  ⟨ds.length,by simp,DW _,AL _,Az.refl _,gd.hideT ts,[],ys,trivial,hcp,rfl⟩,?_⟩
 rintro i m xs Y' H' ⟨rfl,hi,hxl,sm,g',outs,rest,rs,hc,e⟩;obtain⟨yst,ygo⟩:=yl H' (Kp.of sm) i;by_cases hlt:i<ds.length
 .have hd:ds[i]?=Aa ds[i]:=Bc hlt;obtain⟨hgo,hyl⟩:=ygo _ hd;refine .inr ⟨hgo,by omega,λx H2 hx=>?_⟩
  obtain⟨s2,rx⟩:=hyl x H2 hx;have rx':=rx A (λa ha=>.inl ha) (hA.same sm)
  rw[DL hlt]at hc;have sm2:=sm.trans s2;rcases YR hc with ⟨h1,h2⟩|⟨y,r,h1,h2,h3,h4⟩
  .obtain⟨U',ea,ec⟩:=JP h1;refine hGG A U Y' H2 x ds[i] U' _ (g'.same s2) rx' ea λY3 g3 g4=>⟨hA.same sm2,U',g3,?_⟩
   rw[ec];exact λH3 s3=>by
    dsimp only;rw[AC (by decide)]
    exact⟨ds.length-(i+1),by omega,rfl,hlt,by omega,sm2.trans s3,g4.same s3,outs,rest,(rs.same s2).same s3,h2,e⟩
  .obtain⟨U',ea,ec⟩:=JP h1;obtain⟨U2,ea2,ee⟩:=JP h2;rw[ea]at ea2;cases ea2;refine hGG A U Y' H2 x ds[i] U' _ (g'.same s2) rx' ea λY3 g3 g4=>⟨hA.same sm2,U',g3,?_⟩
   rw[ec];exact λH3 s3=>by
    dsimp only;rw[At rfl];refine⟨(hA.same sm2).same s3,U',g3.same s3,?_⟩;rw[ee];exact λv H4 s4 r4=>⟨ds.length-(i+1),by omega,rfl,hlt,by rw[BS,De];omega,(sm2.trans s3).trans s4,(g4.same s3).same s4,outs++[y],r,(((rs.same s2).same s3).same s4).append ⟨r4,trivial⟩,h3,by rw[e,h4];simp⟩
 .have hk':ds.length<=i:=by omega
  rw[Ep hk']at hc;have hr:rest=[]:=by cases hc;rfl
  subst hr;rw[CC]at e;subst e;exact .inl ⟨yst hk',λp hp=>q xs H' sm rs p hp⟩
theorem EU.ok_of{r:R (Ac D)}{f:Ac D->R D}{Q':It->Hp->Prop}(h:AS Rq W H (r.bind f) Q)(k:∀ ds J H',r=.ok ds->Az H H'->IU K CL A ds J H'->ds.length<=sizeLine->AS Rq W H' (f ds) Q->Q' J H'):EU K CL A W H r Q':=by
 cases r with
 |ok d=>exact λJ H2 s2 y z=>k d J H2 rfl s2 y z (AS.same s2 h)
 |exn x=>exact h
 |bad=>exact h
theorem kX{r:R α}{a:α}(h:noX r=.ok a):r=.ok a:=by
 cases r with
 |ok b=>exact h
 |exn x=>cases h
 |bad=>cases h
theorem QY(hGG:GG X.K CL ts as g)(hA:AOk H A)(gd:Good X.K CL A U Y H)(p:AS (DB X.K CL Ab H A) W H ((fi U).bind λxs=>(noX (Bv (λx=>(as x U).bind fc) (λx=>(as x U).bind fe) xs)).bind λys=>.ok (.lst ys)) Q):EU X.K CL A W H (fi U) (λJ H1=>Jt J ts g (λY H Q=>AOk H A/\∃ U,Good X.K CL A U Y H/\CK W0 H (fc U) Q) (λY H Q=>AOk H A/\∃ U,Good X.K CL A U Y H/\AS (λH=>Rep X.K CL H A) W0 H (fe U) Q) Y H1 Q):=
 EU.ok_of p λds J H1 e1 s1 yl hz p1=>by
  cases e2:noX (Bv (λx=>(as x U).bind fc) (λx=>(as x U).bind fe) ds) with
  |ok ys=>
   rw[e2]at p1;exact QZ hGG (hA.same s1) (gd.same s1) yl hz (kX e2) λxs H2 s2 rs q hq=>p1 _ _ (s2.trans (ET hq _)) (Jr (s1.trans s2) ((hA.same s1).same s2) hq rs)
  |exn x=>rw[e2]at p1;cases hq:Bv (λx=>(as x U).bind fc) (λx=>(as x U).bind fe) ds<;>rw[hq]at e2<;>cases e2
  |bad=>rw[e2]at p1;exact p1.elim
theorem eI(hc:X.calm=Ab)(B:BlockOk X scope N' ts)(hi:SI X CL W tg iter fi)(hGG:GG X.K CL ts as g)(hg:∀ cl C s H fp,PG (cxC X scope cl C N' s H fp) tg g)(ht:∀ cl C s H fp,STs (cxC X scope cl C N' s H fp) CL ifs fc)(he:∀ cl C s H fp,SE (cxC X scope cl C N' s H fp) CL W0 elt fe)(hs:∀ x,B4 iter X.env x=pure x):SC X CL W Ab (.ListComp elt [⟨tg,iter,ifs,0⟩] scope pos) (λU=>(fi U).bind λxs=>(noX (Bv (λx=>(as x U).bind fc) (λx=>(as x U).bind fe) xs)).bind λys=>.ok (.lst ys)):=λA pI s Y H Q I ⟨hA,U,gd,p⟩=>
 gR hc B (hi A) hg (λcl C s H fp=>ht cl C s H fp A) (λcl C s H fp=>he cl C s H fp A) hs pI s Y H Q I ⟨hA,U,gd,QY hGG hA gd p⟩
end
section
variable{K:Fg}{CL:ClA}{Fz:Fr}{B:Ak->Prop}{U:Rho}{Y:L2.St}{H H':Hp}
theorem Sx.setF(x:Sx K CL Fz B U Y H)(s:Az H H'){ds:Ac D}(h0:H a=Ae)(h1:H' a=Aa (.lst xs))(r:Reps K CL H' (λb=>Bq B U Y b\/b=a) xs ds):Sx K CL Fz B (U.set i (Aa (.lst ds,Ab))) (Y.set i (Aa (.ref a))) H':=by
 have nA:¬ Bq B U Y a:=x.aok.new h0;have own:∀(j:Af)(e:D),(U.set i (Aa (.lst ds,Ab)))[j]?=Aa (Aa (e,Ab))->(i=j/\e=.lst ds)\/(i≠j/\U[j]?=Aa (Aa (e,Ab))):=λj e h=>by
  by_cases hj:i=j
  .subst hj;have:=Gp h;cases this;exact .inl ⟨rfl,rfl⟩
  .exact .inr ⟨hj,by rw[BQ hj]at h;exact h⟩
 have atI:∀{j:Af}{y:Sl},(U.set i (Aa (.lst ds,Ab)))[j]?=Aa y->i=j->(Y.set i (Aa (.ref a)))[j]?=Aa (Aa (.ref a)):=λ{j y} h e=>by
  subst e;have hl:i<Y.length:=by
   rw[<-x.len];have:=(A5.mp h).1;simpa using this
  rw[Cu hl]
 have sub:∀ b,Bq B (U.set i (Aa (.lst ds,Ab))) (Y.set i (Aa (.ref a))) b->Bq B U Y b\/b=a:=λb h=>by
  rcases h with h|⟨j,e,h1,h2⟩
  .exact .inl (.inl h)
  .rcases own j e h1 with ⟨hj,_⟩|⟨hj,h1'⟩
   .rw[atI h1 hj]at h2;cases h2;exact .inr rfl
   .rw[BQ hj]at h2;exact .inl (.inr ⟨j,e,h1',h2⟩)
 have wide:∀{v:V}{d:D},Rep K CL H (Bq B U Y) v d->Rep K CL H' (Bq B (U.set i (Aa (.lst ds,Ab))) (Y.set i (Aa (.ref a)))) v d:=λr=>(Rep.wide (λb hb=>(sub b hb).imp id λe=>by rw[e];exact h0) _ r).same s
 have wides:∀{v:Ac V}{d:Ac D},Reps K CL H (Bq B U Y) v d->Reps K CL H' (Bq B (U.set i (Aa (.lst ds,Ab))) (Y.set i (Aa (.ref a)))) v d:=λr=>(Reps.wide (λb hb=>(sub b hb).imp id λe=>by rw[e];exact h0) _ r).same s
 refine⟨⟨λj e h=>?_,λj e h hn=>?_,by rw[AV,AV];exact x.len⟩,λb h=>?_,λj e b g1 g2=>?_,λj k e f b g1 g2 g3 g4=>?_,λb o z=>s _ _ (x.same b o z),by rw[AV,AV];exact x.len,λj h=>?_⟩
 .have hj:i≠j:=by
   rintro rfl;have:=Gp h;cases this
  rw[BQ hj]at h;obtain⟨w',q,rw'⟩:=x.good.sh j e h;exact⟨w',by rw[BQ hj];exact q,wide rw'⟩
 .rcases own j e h with ⟨hj,rfl⟩|⟨hj,h'⟩
  .have q:=atI h hj;exact⟨a,xs,ds,q,rfl,.inr ⟨j,_,h,q⟩,h1,Reps.sub sub _ r⟩
  .obtain⟨b,ys,es,q,z,ha,hh,rr⟩:=x.good.ow j e h' hn;have q':(Y.set i (Aa (.ref a)))[j]?=Aa (Aa (.ref b)):=by rw[BQ hj];exact q
   exact⟨b,ys,es,q',z,.inr ⟨j,e,h,q'⟩,s _ _ hh,wides rr⟩
 .rcases sub b h with z|z
  .obtain⟨ys,q⟩:=x.aok b z;exact⟨ys,s _ _ q⟩
  .rw[z];exact⟨xs,h1⟩
 .rcases own j e g1 with ⟨hj,_⟩|⟨hj,h'⟩
  .rw[atI g1 hj]at g2;cases g2;refine⟨λo z=>?_,λz=>nA (.inl z)⟩
   have:=x.same a o z;rw[h0]at this;cases this
  .rw[BQ hj]at g2;exact x.new j e b h' g2
 .rcases own j e g1 with ⟨hj,_⟩|⟨hj,h'⟩
  .rw[atI g1 hj]at g3;cases g3;rcases own k f g2 with ⟨hk,_⟩|⟨hk,h''⟩
   .exact hj.symm.trans hk
   .rw[BQ hk]at g4;exact absurd (.inr ⟨k,f,h'',g4⟩) nA
  .rw[BQ hj]at g3;rcases own k f g2 with ⟨hk,_⟩|⟨hk,h''⟩
   .rw[atI g2 hk]at g4;cases g4;exact absurd (.inr ⟨j,e,h',g3⟩) nA
   .rw[BQ hk]at g4;exact x.dis j k e f b h' h'' g3 g4
 .rcases own j _ h with ⟨_,z⟩|⟨hj,h'⟩
  .cases z
  .obtain⟨b,ys,p1,p2,p3⟩:=x.pin j h';exact⟨b,ys,p1,by rw[BQ hj];exact p2,s _ _ p3⟩
theorem Sx.upd(x:Sx K CL Fz B U Y H){i:Af}{d:D}{a:Ak}{xs:Ac V}{ds:Ac D}(hi:U[i]?=Aa (Aa (d,Ab)))(ha:Y[i]?=Aa (Aa (.ref a)))(r:Reps K CL H (Bq B U Y) xs ds):Sx K CL Fz B (U.set i (Aa (.lst ds,Ab))) Y (L2.upd H a (.lst xs)):=by
 have oa:Bq B U Y a:=.inr ⟨i,d,hi,ha⟩;have hil:i<U.length:=(A5.mp hi).1;have get:∀(j:Af)(e:D),(U.set i (Aa (.lst ds,Ab)))[j]?=Aa (Aa (e,Ab))↔(i=j/\e=.lst ds)\/(i≠j/\U[j]?=Aa (Aa (e,Ab))):=λj e=>by
  by_cases hj:i=j
  .subst hj;rw[Cu hil];simp;exact⟨λz=>z.symm,λz=>z.symm⟩
  .rw[BQ hj];simp[hj]
 have same:∀ b,Bq B (U.set i (Aa (.lst ds,Ab))) Y b↔Bq B U Y b:=λb=>by
  constructor
  .rintro (h|⟨j,e,h1,h2⟩)
   .exact .inl h
   .rcases (get j e).mp h1 with ⟨rfl,_⟩|⟨_,h1⟩
    .exact .inr ⟨i,d,hi,h2⟩
    .exact .inr ⟨j,e,h1,h2⟩
  .rintro (h|⟨j,e,h1,h2⟩)
   .exact .inl h
   .by_cases hj:i=j
    .subst hj;exact .inr ⟨i,.lst ds,(get i _).mpr (.inl ⟨rfl,rfl⟩),h2⟩
    .exact .inr ⟨j,e,(get j e).mpr (.inr ⟨hj,h1⟩),h2⟩
 have kp:Kp (Bq B U Y) H (L2.upd H a (.lst xs)):=λb o e na=>by
  have hne:b≠a:=by
   rintro rfl;exact na oa
  rw[Bj hne];exact e
 refine⟨⟨λj e h=>?_,λj e h hn=>?_,by rw[AV];exact x.len⟩,λb h=>?_,λj e b g1 g2=>?_,λj k e f b g1 g2 g3 g4=>?_,λb o z=>?_,by rw[AV];exact x.len,λj h=>?_⟩
 .have hj:i≠j:=by
   rintro rfl;have:=Gp h;cases this
  rw[BQ hj]at h;obtain⟨w',q,rw'⟩:=x.good.sh j e h;exact⟨w',q,Rep.sub (λb hb=>(same b).mp hb) _ (Rep.kp kp _ rw')⟩
 .rcases (get j e).mp h with ⟨rfl,rfl⟩|⟨hj,h'⟩
  .exact⟨a,xs,ds,ha,rfl,(same a).mpr oa,DJ,Reps.sub (λb hb=>(same b).mp hb) _ (Reps.kp kp _ r)⟩
  .obtain⟨b,ys,es,q,z,hb,hh,rr⟩:=x.good.ow j e h' hn;have hne:b≠a:=λz=>hj (x.dis i j d e a hi h' ha (z ▸ q))
   exact⟨b,ys,es,q,z,(same b).mpr hb,by rw[Bj hne];exact hh,Reps.sub (λb hb=>(same b).mp hb) _ (Reps.kp kp _ rr)⟩
 .obtain⟨ys,q⟩:=x.aok b ((same b).mp h);by_cases e:b=a
  .rw[e];exact⟨xs,DJ⟩
  .exact⟨ys,by rw[Bj e];exact q⟩
 .rcases (get j e).mp g1 with ⟨rfl,_⟩|⟨_,h'⟩
  .exact x.new i d b hi g2
  .exact x.new j e b h' g2
 .rcases (get j e).mp g1 with ⟨rfl,_⟩|⟨hj,h'⟩
  .rcases (get k f).mp g2 with ⟨rfl,_⟩|⟨hk,h''⟩
   .rfl
   .exact x.dis i k d f b hi h'' g3 g4
  .rcases (get k f).mp g2 with ⟨rfl,_⟩|⟨hk,h''⟩
   .exact x.dis j i e d b h' hi g3 g4
   .exact x.dis j k e f b h' h'' g3 g4
 .have hne:b≠a:=λe=>(x.new i d a hi ha).1 o (e ▸ z)
  rw[Bj hne];exact x.same b o z
 .rcases (get j _).mp h with ⟨_,z⟩|⟨hj,h'⟩
  .cases z
  .obtain⟨b,ys,p1,p2,p3⟩:=x.pin j h';have hne:b≠a:=λz=>hj (x.dis i j d _ a hi h' ha (z ▸ p2))
   exact⟨b,ys,p1,p2,by rw[Bj hne];exact p3⟩
theorem Sx.rel(x:Sx K CL Fz B U Y H)(hi:U[i]?=Aa (Aa (d,Ab)))(hn:d≠.non):Sx K CL Fz B (U.set i (Aa (d,Ad))) Y H:=by
 obtain⟨a,xs,ds,q,rfl,oa,hh,rr⟩:=x.good.ow i d hi hn;have own:∀(j:Af)(e:D),(U.set i (Aa (.lst ds,Ad)))[j]?=Aa (Aa (e,Ab))->i≠j/\U[j]?=Aa (Aa (e,Ab)):=λj e h=>by
  by_cases hj:i=j
  .subst hj;have:=Gp h;cases this
  .exact⟨hj,by rw[BQ hj]at h;exact h⟩
 have sub:∀ b,Bq B (U.set i (Aa (.lst ds,Ad))) Y b->Bq B U Y b:=λb h=>by
  rcases h with h|⟨j,e,h1,h2⟩
  .exact .inl h
  .exact .inr ⟨j,e,(own j e h1).2,h2⟩
 have na:¬ Bq B (U.set i (Aa (.lst ds,Ad))) Y a:=λh=>by
  rcases h with h|⟨j,e,h1,h2⟩
  .exact(x.new i _ a hi q).2 h
  .obtain⟨hj,h1⟩:=own j e h1;exact hj (x.dis i j _ e a hi h1 q h2)
 refine⟨⟨λj e h=>?_,λj e h hn=>?_,by rw[AV];exact x.len⟩,λb h=>x.aok b (sub b h),λj e b g1 g2=>x.new j e b (own j e g1).2 g2,λj k e f b g1 g2 g3 g4=>x.dis j k e f b (own j e g1).2 (own k f g2).2 g3 g4,x.same,by rw[AV];exact x.len,λj h=>x.pin j (own j _ h).2⟩
 .by_cases hj:i=j
  .subst hj;have e1:=Gp h;cases e1;exact⟨_,q,a,xs,rfl,.inl na,SqL.of hh,Reps.sub sub _ rr⟩
  .rw[BQ hj]at h;obtain⟨w',q',rw'⟩:=x.good.sh j e h;exact⟨w',q',Rep.sub sub _ rw'⟩
 .obtain⟨hj,h'⟩:=own j e h;obtain⟨b,ys,es,q',z,hb,hh',rr'⟩:=x.good.ow j e h' hn;exact⟨b,ys,es,q',z,.inr ⟨j,e,h,q'⟩,hh',Reps.sub sub _ rr'⟩
end
section
variable{X:Cx}{CL:ClA}{W:XW}{pos:AD}{e:An}{fe:Rho->R D}{fr:Am}
theorem Bx.exC{f:D->O}(x:Sx X.K CL Fz B U Y H)(h:Bx X.K CL Fz B W (O.of U r f) D')(k:∀ d v H',r=.ok d->Az H H'->DB X.K CL fr H A H' v d->Sx X.K CL Fz B U Y H'->Bx X.K CL Fz B W (f d) D'->Q v H'):AS (DB X.K CL fr H A) W H r Q:=by
 cases r with
 |ok d=>exact λv H' s r=>k d v H' rfl s r (x.grow s) h
 |exn y=>exact λH' s=>h H' λb o z=>s _ _ (x.same b o z)
 |bad=>exact h
def SAs(X:Cx)(CL:ClA)(W:XW)(fr:Am)(i:Af)(st:AJ)(f:Rho->R D):Prop:=∀ A,PS X st (Qa (λY H Q=>AOk H A/\∃ U,Good X.K CL A U Y H/\AS (DB X.K CL fr H A) W H (f U) Q) (FQ i))
theorem SC.sas{n:Ag}(hN:X.N.Nodup)(hi:X.N[i]?=Aa n)(hx:Loc X.env.scope n)(he:SC X CL W fr e fe)(hs:CS e (Aa (.Name n pos')) pos.line X.env=pure Ad)(hf:X.fn n=Ab\/X.env.scope.names.lookup n=Aa .local):SAs X CL W fr i (.Assign [.Name n pos'] e pos) fe:=
 λA=>MY hN hi hx (he A) hs hf
theorem ZU{n:Ag}{fe:Rho->R D}{g:TG}(hc:X.calm=Ab)(B:BlockOk X scope N' ts)(hi:SI X CL W tg iter fi)(hGG:GG X.K CL ts as g)(hg:∀ cl C s H fp,PG (cxC X scope cl C N' s H fp) tg g)(ht:∀ cl C s H fp,STs (cxC X scope cl C N' s H fp) CL ifs fc)(he:∀ cl C s H fp,SE (cxC X scope cl C N' s H fp) CL W0 elt fe)(hs:∀ x,B4 iter X.env x=pure x)(hN:X.N.Nodup)(hni:X.N[i]?=Aa n)(hx:X.env.scope.names.lookup n=Aa .local)(hsw:CS (.ListComp elt [⟨tg,iter,ifs,0⟩] scope pos) (Aa (.Name n pos')) pos2.line X.env=pure Ab):SAs X CL W Ab i (.Assign [.Name n pos'] (.ListComp elt [⟨tg,iter,ifs,0⟩] scope pos) pos2) (λU=>(fi U).bind λxs=>(noX (Bv (λx=>(as x U).bind fc) (λx=>(as x U).bind fe) xs)).bind λys=>.ok (.lst ys)):=λA pI s Y H Dn I ⟨hA,U,gd,p⟩=>
 gM hc B (hi A) hg (λcl C s H fp=>ht cl C s H fp A) (λcl C s H fp=>he cl C s H fp A) hs hN hni hx hsw pI s Y H Dn I ⟨hA,U,gd,QY hGG hA gd p⟩
theorem TY{st:AJ}(h:SAs X CL W fr i st fe):SS X CL W st (λU=>O.of U (fe U) λd=>.next (U.set i (Aa (d,Ad)))):=λFz B pI s Y H D I ⟨U,x,p⟩=>
 h (Bq B U Y) pI s Y H D I ⟨x.aok,U,x.good,Bx.exC x p λd v H' _ s r x' q=>q _ H' (x'.set i r.1)⟩
theorem RY{st:AJ}(h:SAs X CL W Ab i st fe):SS X CL W st (λU=>O.of U (fe U) λd=>setF U i d):=λFz B pI s Y H D I ⟨U,x,p⟩=>
 h (Bq B U Y) pI s Y H D I ⟨x.aok,U,x.good,Bx.exC x p λd v H' _ s r x' q=>by
  cases d with
  |lst ds=>
   obtain⟨a,xs,rfl,h0,h1,rs⟩:=r.2 rfl ds rfl;exact q _ H' (x.setF s h0 h1 rs)
  |dic ds=>exact r.1.elim
  | _=>exact q.elim⟩
theorem RX(he:SC X CL W Ab e fe):SS X CL W (.Return (Aa e) pos) (λU=>O.of U (fe U) λd=>.ret d Ab):=λFz B pI s Y H D I ⟨U,x,p⟩=>
 Pe (he (Bq B U Y)) pI s Y H D I ⟨x.aok,U,x.good,Bx.exC x p λd v H' _ s r x' q=>q v H' x'.same (Rep.sub (λa h=>.inl h) _ r.1) λ_ ds e=>by
  obtain⟨a,xs,h0,h1,h2,h3⟩:=r.2 rfl ds e;refine⟨a,xs,h0,λo z=>?_,h2,Reps.sub (λb hb=>hb.imp .inl id) _ h3⟩
  have:=x.same a o z;rw[h1]at this;cases this⟩
noncomputable def Qp(U:Rho)(i:Af):Am:=match U[i]? with
  |some (Aa (_,o))=>o
  |_=>Ad
theorem dO(he:PE X e (EX i)):SS X CL W (.Return (Aa e) pos) (λU=>O.of U (DV U i) λd=>.ret d (Qp U i)):=λFz B pI s Y H D I ⟨U,x,p⟩=>
 Pe he pI s Y H D I (by
  dsimp only at p;cases e:DV U i with
  |bad=>rw[e]at p;exact p.elim
  |exn z=>exact(Lu e).elim
  |ok d=>
   rw[e]at p;obtain⟨o,e,hn⟩:=R9 e;have eo:Qp U i=o:=by unfold Qp;rw[e]
   rw[O.of_ok,eo]at p;cases o with
   |false=>
    obtain⟨v,q,r⟩:=x.good.sh i d e;exact⟨v,q,p v H x.same (Rep.sub (λa h=>.inl h) _ r) λz=>nomatch z⟩
   |true=>
    obtain⟨a,xs,ds,q,rfl,ha,hh,r⟩:=x.good.ow i d e (hn rfl);obtain⟨n1,n2⟩:=x.new i _ a e q;refine⟨_,q,p _ H x.same ⟨a,xs,rfl,.inl n2,SqL.of hh,Reps.sub (λa h=>.inl h) _ r⟩ λ_ ds' e'=>?_⟩
    cases e';exact⟨a,xs,rfl,n1,hh,Reps.sub (λb hb=>hb.elim .inl λz=>z ▸ ha) _ r⟩)
theorem Sk{ds:Ac D}(h:Ea U i=.ok ds):U[i]?=Aa (Aa (.lst ds,Ab)):=by
 unfold Ea at h;split at h
 .rename_i e;cases h;exact e
 .cases h
theorem Rv{x:Ex}(h:Ea U i=.exn x):AW:=by
 unfold Ea at h;split at h<;>cases h
variable{o:An}{i:Af}{apos cpos:AD}
theorem kC(ho:PE X o (EX i))(he:SE X CL W e fe)(hbase:C8 o "append" X.env (eval o X.env)=eval o X.env)(hfew:((BA cpos (As [e] X.env)).all (λx=>!x.1)&&(Ho cpos (FW [] X.env)).all (λx=>x.1.isSome)&&decide ([e].length+([]:Ac DZ).length+(if ([]:Ac DZ).isEmpty then 0 else 1)<30))=Ab)(hline:(apos.endLine==cpos.line)=Ab)(hs:As [e] X.env=[(Ad,eval e X.env)])(hsw:CS (.Call (.Attribute o "append" apos) [e] [] cpos) Ae pos.line X.env=pure Ad):
  SS X CL W (.Expr (.Call (.Attribute o "append" apos) [e] [] cpos) pos) (λU=>O.of U (Ea U i) λxs=>O.of U (fe U) λd=>if Cd (xs.length+1)=Ab then .next (U.set i (Aa (.lst (xs++[d]),Ab))) else .bad):=λFz B pI s Y H D I ⟨U,x,p⟩=>by
 refine LC (M7 Xb PySem.F.slot_list_append PySem.F.type_list_append ZD ho (DT (he (Bq B U Y)) Ft hs) hbase hfew hline hs rfl) hsw pI s Y H D I ?_;dsimp only at p;cases e1:Ea U i with
 |bad=>rw[e1]at p;exact p.elim
 |exn z=>exact(Rv e1).elim
 |ok ds=>
  rw[e1,O.of_ok]at p;have hi:=Sk e1;obtain⟨a,xs,ds',q,e2,ha,hh,r⟩:=x.good.ow i _ hi (λz=>nomatch z)
  cases e2;refine⟨_,q,.inl ⟨rfl,xs,SqL.of hh⟩,x.aok,U,x.good,Bx.ex x p λd v H' _ s rv x' q'=>?_⟩
  split at q'
  .rename_i hz;refine⟨a,xs,v,rfl,rfl,s _ _ hh,?_,q' _ _ (x'.upd hi q ((r.same s).append ⟨rv,trivial⟩))⟩;have:=JN hz;rw[r.length];omega
  .exact q'.elim
theorem dN{rest:Ac AJ}{f:Rho->O}(i:Af)(h:SSs X CL W rest f):SSs X CL W rest (λU=>(match U[i]? with
   |some (Aa (d,Ab))=>Np U i d
   | _=>O.next U).seq f):=λFz B=>PSs.weak (h Fz B) λD Y H ⟨U,x,p⟩=>by
 dsimp only at p;split at p
 .rename_i d e;cases d with
  |lst xs=>exact⟨_,x.rel e (λz=>nomatch z),p⟩
  |_=>exact p.elim
 .exact⟨U,x,p⟩
end
section
variable{X:Cx}{CL:ClA}{W:XW}{pos:AD}{e k o:An}{fe fk:Rho->R D}{i:Af}{apos cpos:AD}
theorem A2.take(r:A2 xs its):∀ n,A2 (xs.take n) (its.take n):=by
 induction r with
 |nil=>intro n;simp;exact .nil
 |cons h _ ih=>
  intro n;cases n with
  |zero=>exact .nil
  |succ n=>exact .cons h (ih n)
theorem A2.drop(r:A2 xs its):∀ n,A2 (xs.drop n) (its.drop n):=by
 induction r with
 |nil=>intro n;simp;exact .nil
 |cons h t ih=>
  intro n;cases n with
  |zero=>exact .cons h t
  |succ n=>exact ih n
end
section
variable{prog:AM}{w:AA}{A:AU}{E:Vq}{s:Ap}
theorem kU{j t:Ak}{its:Bg Aj}{x:Aj}{Q:Vq}(st:s.heap.IsTupleIter j t k)(sq:s.heap.IsTuple t its)(at_:its[k]?=Aa x)(go:∀ h2,h2.IsTupleIter j t (k+1)->EF j s.heap h2->Q x {s with heap:=h2}):Av (model prog w) A (DP (.ref j)) Q E s:=by
 obtain⟨oj,gj,cj,dj⟩:=id st;obtain⟨ot,gt,_,nt,dt⟩:=sq;show Av _ _ (Jk _ _ >>= _) _ _ _;refine Aq (FG st.typeIs DG (Hq DG st.typeIs Xa ?_ (W7 _)));show Av _ _ (field (.ref j) 0 >>= _) _ _ _;refine Aq (Cq gj dj (x:=.ref t) rfl ?_);show Av _ _ (field (.ref j) 1 >>= _) _ _ _;refine Aq (Cq gj dj (x:=.int k 0) rfl ?_);refine Aq (Yo gt dt ?_);simp only[VW,at_];exact Aq (D1 gj dj (by simp) (AT ⟨x,rfl,AT (go _ ⟨_,Cp _ gj (Dg (Ca dj _)),(Xm ..).trans cj,by rw[Ca dj];simp[D8]⟩ (Xj ..))⟩))
theorem ZC{j t:Ak}{its:Bg Aj}{Q:Vq}(calm:A.handled=Ae)(st:s.heap.IsTupleIter j t k)(sq:s.heap.IsTuple t its)(at_:its[k]?=Ae)(up:∀ h2 e,Xh j s.heap h2->(∃ o,h2.get? e=Aa o/\o.cls=.type "StopIteration")->E (.ref e) {s with heap:=h2}):Av (model prog w) A (DP (.ref j)) Q E s:=by
 obtain⟨oj,gj,cj,dj⟩:=id st;obtain⟨ot,gt,_,nt,dt⟩:=sq;show Av _ _ (Jk _ _ >>= _) _ _ _;refine Aq (FG st.typeIs DG (Hq DG st.typeIs Xa ?_ (W7 _)));show Av _ _ (field (.ref j) 0 >>= _) _ _ _;refine Aq (Cq gj dj (x:=.ref t) rfl ?_);show Av _ _ (field (.ref j) 1 >>= _) _ _ _;refine Aq (Cq gj dj (x:=.int k 0) rfl ?_);refine Aq (Yo gt dt ?_);simp only[VW,at_];refine Aq (wpAny_rule (Aq (D1 gj dj (by simp) ?_)))
 refine Aq ?_;simp only[newExc,newTuple];refine Aq (CN ?_ (by size_fits))
 refine Aq (m:=X9 _ _) (HP (a:=.none) (by first|rfl|(simp only[X9];rfl)) (CN ?_ (by size_fits)))
 simp only[raiseNew];refine Aq (wpAny_handled ?_)
 first|rw[show A.in1.handled=Ae from calm]|rw[calm]
 exact Aq (AT (wpAny_throw (up _ _ (((Xj ..).extBut.push _).push _) ⟨_,A3 _ rfl,rfl⟩)))
end
structure Dw (prog:AM) (w:AA) (A:AU) (j:Ak) (fp:Ac Ak) (n:Af) (P:Af->Aj->Prop) (S:Af->AG->Prop):Prop where
 frame:∀ i h h2,S i h->(∀ c∈fp,∀ o,h.get? c=Aa o->h2.get? c=Aa o)->S i h2
 item:∀ i (s:Ap) (Q:Vq) (E:Vq),i<n->S i s.heap->(∀ x h2 tk,P i x->S (i+1) h2->EF j s.heap h2->Q x {s with heap:=h2,toks:=tk})->Av (model prog w) A (DP (.ref j)) Q E s
 done:∀ i (s:Ap) (Q:Vq) (E:Vq),n<=i->S i s.heap->(∀ h2 e,Xh j s.heap h2->(∃ o,h2.get? e=Aa o/\o.cls=.type "StopIteration")->E (.ref e) {s with heap:=h2})->Av (model prog w) A (DP (.ref j)) Q E s
def Gs(t:Am)(h:AG)(j l:Ak)(i:Af):Prop:=match t with
  |true=>h.IsTupleIter j l i
  |false=>h.IsListIter j l i
def GI(t:Am)(h:AG)(l:Ak)(its:Bg Aj):Prop:=match t with
  |true=>h.IsTuple l its
  |false=>h.IsList l its
theorem UD{A:AU}(calm:A.handled=Ae)(t:Am)(j l:Ak)(ne:l≠j)(its:Bg Aj):Dw prog w A j [j,l] its.size (λi v=>its[i]?=Aa v) (λi h=>Gs t h j l i/\GI t h l its):=by
 cases t with
 |true=>exact⟨λ_ _ _ z k=>⟨z.1.at λo e=>k j (by simp) o e,z.2.at λo e=>k l (by simp) o e⟩,λi s Q E hi z q=>kU z.1 z.2 (x:=its[i]) (by simp[hi]) λh2 z2 sb=>q _ h2 s.toks (by simp[hi]) ⟨z2,z.2.extBut sb.extBut ne⟩ sb,λi s Q E hi z q=>ZC calm z.1 z.2 (by simp[hi]) q⟩
 |false=>exact⟨λ_ _ _ z k=>⟨z.1.at λo e=>k j (by simp) o e,z.2.at λo e=>k l (by simp) o e⟩,λi s Q E hi z q=>wpAny_nextOf_list_item z.1 z.2 (x:=its[i]) (by simp[hi]) λh2 z2 sb=>q _ h2 s.toks (by simp[hi]) ⟨z2,z.2.extBut sb.extBut ne⟩ sb,λi s Q E hi z q=>wpAny_nextOf_list_end calm z.1 z.2 (by simp[hi]) q⟩
theorem nb2{I l c:Af}(b:l<I)(h:c∈[I+1,l]):c≠I/\c≠I+3/\c≠I+4:=by
 have h':c=I+1\/c=l:=by simpa using h
 omega
theorem ni0{I i:Af}(h:i≠0):I+i≠I:=by omega
section
variable{prog:AM}{w:AA}{A:AU}{E:Vq}{s:Ap}
end
def SqX(t:Am)(K:Fg)(H:Hp)(a:Ak)(xs:Ac V):Prop:=match t with
  |true=>SqT K H a xs
  |false=>SqL K H a xs
theorem O9(I:Inv X pI Y H s)(h:SqX t X.K H a xs):∃ its:Ac Aj,A2 xs its/\GI t s.heap a its.toArray/\xs.length<=sizeLine:=by
 cases t with
 |true=>
  obtain⟨its,rv,p,z⟩:=I.tuple h;exact⟨its,rv,p,z⟩
 |false=>
  obtain⟨its,rv,p,z⟩:=I.list h;exact⟨its,rv,p.isList,z⟩
theorem Zm(I:Inv X pI Y H s)(h:SqX t X.K H a xs)(h2:SqX t X.K H a ys):xs=ys:=by
 cases t with
 |true=>exact I.tuple_inj h h2
 |false=>exact I.list_inj h h2
theorem Inv.turnedL{t':Af}(ch:Ac Ak)(I:Inv X pI Y H s)(k:∀ b o,b∉ch->s.heap.get? b=Aa o->h'.get? b=Aa o)(hf:∀ b∈ch,GJ X pI H b):Inv X pI Y H {s with heap:=h',toks:=t'}:=by
 have nit:∀ b u,H b=Aa u->b∉ch:=λb u e z=>by rw[(hf b z).1]at e;cases e
 refine I.step (g':=s.gens) (d':=s.drawn) (ch:=ch) (λb hb=>⟨(hf b hb).2.2.2.1,(hf b hb).2.1,(hf b hb).2.2.2.2.1,(hf b hb).2.2.2.2.2⟩) (λb o _ _ hc e _=>k b o hc e) (λb o _ _ hc e _=>⟨o.slots,k b o hc e⟩) (λ_ _ _ _ n=>n)
  (λb o hc e=>⟨o,k b o hc e⟩) (λ_ _ e=>e) (λ_ _ _ e=>e) (λb ps e=>⟨#[],by rw[e];simp⟩) (λm ⟨o,es,ep,ho,r⟩=>⟨o,es,ep,k _ o (λz=>(hf _ z).2.1 rfl) ho,r⟩) (λb u e=>(I.hok b u e).stay (λc v hc q=>k c v ?_ q) (λ_ q=>q) λ_ _ q=>q) I.bare
 rcases hc with z|z
 .rw[z];exact nit b u e
 .exact nit c _ z
section
variable{prog:AM}{w:AA}{A:AU}{E:Vq}{s:Ap}
noncomputable def itO(t:Am)(l:Ak):C9:=match t with
  |true=>{ cls:=.type "tuple_iterator",data:=.fields #[.ref l,.int 0 0] }
  |false=>{ cls:=.type "list_iterator",data:=.fields #[.ref l,.int 0 0] }
theorem Px{its:Bg Aj}{Q:Vq}(h:GI t s.heap l its)(q:Q (.ref s.heap.objs.size) {s with heap:=s.heap.push (itO t l)}):Av (model prog w) A (Lf (.ref l)) Q E s:=by
 cases t with
 |true=>exact GU h q
 |false=>exact FL h q
theorem GI.push{its:Bg Aj}(z:GI t h l its)(o:C9):GI t (h.push o) l its:=by
 cases t with
 |true=>exact PySem.Heap.IsTuple.at z λ_ e=>Au _ e
 |false=>exact PySem.Heap.IsList.at z λ_ e=>Au _ e
theorem nZ{j:Ak}(e:h.get? j=Aa (itO t l)):Gs t h j l 0:=by
 cases t with
 |true=>exact⟨_,e,rfl,rfl⟩
 |false=>exact⟨_,e,rfl,rfl⟩
theorem bH(t:Am)(l:Ak):(itO t l).isFreed=Ad:=by cases t<;>rfl
end
theorem GI.lt{its:Bg Aj}(z:GI t h a its):a<h.objs.size:=by
 cases t with
 |true=>obtain⟨o,e,_⟩:=z;exact AK e
 |false=>obtain⟨o,e,_⟩:=z;exact AK e
theorem pL{ds:Ac D}(r:Rep K CL H A v d)(e:Ey d=.ok ds):∃ t a xs,v=.ref a/\(∀ H2,Kp A H H2->SqX t K H2 a xs)/\Reps K CL H A xs ds:=by
 cases d with
 |lst es=>
  cases e;obtain⟨q,xs,rfl,na,sq,r⟩:=r;exact⟨Ad,q,xs,rfl,λH2 k=>MV k na sq,r⟩
 |tup es=>
  cases e;obtain⟨q,xs,rfl,na,sq,r⟩:=r;exact⟨Ab,q,xs,rfl,λH2 k=>MU k na sq,r⟩
 |_=>cases e
section
variable{X:Cx}{CL:ClA}{W:XW}{pos p:AD}{a b:An}{fa fb:Rho->R D}
end
theorem Gs.live{l:Af}(z:Gs t h j l i):∃ o,h.get? j=Aa o/\∀ v,o.data≠.cell v:=by
 cases t with
 |true=>obtain⟨o,e,c,d⟩:=z;exact⟨o,e,λv z=>by rw[d]at z;cases z⟩
 |false=>obtain⟨o,e,c,d⟩:=z;exact⟨o,e,λv z=>by rw[d]at z;cases z⟩
theorem Gs.keep{h2:AG}{l:Af}(z:Gs t h j l i)(k:∀ o,h.get? j=Aa o->h2.get? j=Aa o):Gs t h2 j l i:=by
 cases t with
 |true=>exact PySem.Heap.IsTupleIter.at z k
 |false=>exact PySem.Heap.IsListIter.at z k
theorem nK{A:AU}(calm:A.handled=Ae)(t:Am)(j l:Ak)(ne:l≠j)(its:Bg Aj):Draws prog w A j [j,l] its.size (λi v=>its[i]?=Aa v) (λi h=>Gs t h j l i/\GI t h l its):=
 have d:=UD (prog:=prog) (w:=w) calm t j l ne its
 ⟨λi h z=>let ⟨o,e,_⟩:=z.1.live;⟨o,e⟩,d.frame,d.item,λs Q E h q=>d.done _ s Q E (AL _) h q⟩
theorem jC{A:AU}(calm:A.handled=Ae)(t:Am)(j l:Ak)(ne:l≠j)(its:Bg Aj)(i:Af)(hi:its.size<=i):Draws prog w A j [j,l] i (λ_ _=>AW) (λk h=>k=i/\Gs t h j l i/\GI t h l its):=
 have d:=UD (prog:=prog) (w:=w) calm t j l ne its
 ⟨λ_ h z=>let ⟨o,e,_⟩:=z.2.1.live;⟨o,e⟩,λk h h' z q=>⟨z.1,d.frame i h h' z.2 q⟩,λk s Q E lt z=>absurd z.1 (Bm lt),λs Q E h q=>d.done i s Q E hi h.2 q⟩
noncomputable def Ite(K:Fg)(t:Am)(a:Ak):It:=
 ⟨λi H=>∃ xs x,SqX t K H a xs/\xs[i]?=Aa x,λi H v H'=>∃ p x,H p=Ae/\v=.ref p/\(∀ xs,SqX t K H a xs->xs[i]?=Aa x)/\H'=upd H p (.tup [.int i,x]),λi H=>∃ xs,SqX t K H a xs/\xs.length<=i⟩
def eTn(t:Am)(I l:Af)(i:Af)(h:AG):Prop:=(∃ old,IsEnum h (I+1) I i old)/\Gs t h I l i
theorem Zg{P:AM}(t:Am)(I l:Af)(b:l<I):Turn P w K (.Tuple es n pos) (Ite K t l) [I,I+1] (I+1) (eTn t I l) where
  mem:=by simp
  obj:=λi h ⟨⟨old,z1⟩,z2⟩ c hc=>by
    simp only[AI,Ch,EB]at hc;rcases hc with rfl|rfl
    · exact z2.live
    · exact⟨_,z1,λv z=>by cases z⟩
  keep:=λi h h2 ⟨⟨old,z1⟩,z2⟩ k=>⟨⟨old,k _ (by simp) _ z1⟩,z2.keep λo e=>k _ (by simp) o e⟩
  item:=by
    intro X hP hw hK hc i pI s Y H E Iv hf ⟨⟨old,z1⟩,z2⟩ ⟨xs,x,q1,hx⟩;subst hP hw hK;obtain⟨us,rx,px,_⟩:=O9 Iv q1;obtain⟨u,hu,ru⟩:=rx.get hx;have lu:i<us.toArray.size:=by
      have:=(A5.mp hu).1;simpa using this
    refine wpAny_pyNext_enum_itemD (nK (A:=X.A.in1) (Iv.ok.hd hc) t I l (Bm b) us.toArray) z1 ⟨z2,px⟩ lu (ni0 (by decide)) (by simp only[AI,Ch,EB,GV];exact⟨ni0 (by decide),Hj (AQ b (Nat.le_add_right _ _))⟩) λu' h2 tk hu' ho it2 hT sz kp=>⟨_,rfl,wpAny_letOwnedTupleGo_enum ho λh3 d1 sb=>?_⟩
    have eu:u'=u:=by
      rw[List.getElem?_toArray,hu]at hu';exact(Bl hu').symm
    subst eu;have lt:I+1<s.heap.objs.size:=AK z1;have kp3:∀ c o,c∉[I,I+1]->s.heap.get? c=Aa o->h3.get? c=Aa o:=λc o nc q=>by
      simp only[AI,Ch,EB,GV]at nc;exact sb.extBut c o nc.2 (kp c o nc.2 nc.1 q)
    have nT:∀ c∈[I,I+1],c≠s.heap.objs.size:=λc hc z=>by
      have:c<=I+1:=by
        simp only[AI,Ch,EB]at hc;rcases hc with z|z<;>rw[z]<;>simp
      exact absurd (z ▸ Ej this lt) (Bw _)
    have I1:Inv X pI Y (upd H s.heap.objs.size (.tup [.int i,x])) { s with heap:=s.heap.push { cls:=.type "tuple",data:=.seq #[.int i tk,u'] },toks:=s.toks }:=
      Iv.laid (λ_ _ q=>Au _ q) (AL _) ⟨(by decide:2<=sizeLine),[.int i tk,u'],.cons ⟨_,rfl⟩ (.cons ru .nil),⟨_,A3 _ rfl,rfl,_,rfl⟩⟩
    have hf':∀ b∈[I,I+1],GJ X pI (upd H s.heap.objs.size (.tup [.int i,x])) b:=λb hb=>⟨by rw[Bj (nT b hb)];exact(hf b hb).1,(hf b hb).2⟩
    have I2:Inv X pI Y (upd H s.heap.objs.size (.tup [.int i,x])) {s with heap:=h3,toks:=tk+1}:=Inv.turnedL (s:={ s with heap:=s.heap.push { cls:=.type "tuple",data:=.seq #[.int i tk,u'] },toks:=s.toks }) [I,I+1] I1 (λc o nc q=>by
      rcases Heap.get?_push_cases q with ⟨e1,e2⟩|e1
      · subst e1 e2;exact sb.extBut _ _ (Hj lt) hT
      · exact kp3 c o nc e1) hf'
    exact⟨.ref s.heap.objs.size,_,I2,rfl,⟨s.heap.objs.size,x,Iv.fresh,rfl,λzs hz=>by rw[Zm Iv hz q1];exact hx,rfl⟩,⟨⟨u',by simpa using d1⟩,it2.1.keep λo q=>sb.extBut _ o (CI (ni0 (by decide))) q⟩,λb hb=>(hf' b hb).1⟩
  done:=by
    intro X hP hw hK hc i pI s Y H E Iv hf ⟨⟨old,z1⟩,z2⟩ ⟨xs,q1,hk⟩;subst hP hw hK;obtain⟨us,rx,px,_⟩:=O9 Iv q1;have e1:=rx.length;have e2:us.toArray.size<=i:=by rw[AN,<-e1];exact hk
    refine wpAny_pyNext_enum_endD (jC (A:=X.A.in1) (Iv.ok.hd hc) t I l (Bm b) us.toArray i e2) z1 ⟨rfl,z2,px⟩ λh2 eb=>⟨rfl,Inv.turnedL [I] Iv (t':=s.toks) (λc o nc q=>eb c o (λz=>nc (by simp[z])) q) λc hc=>hf c ?_⟩
    have:c=I:=by simpa using hc
    subst this;simp
  self:=λ_ _ _ _ _ st h=>Yn st.1.choose_spec h
section
variable{prog:AM}{w:AA}{A:AU}{E:Vq}{s:Ap}
theorem aV(t:Am)(l:Ak)(xs:Bg Aj):Meets (Builtin.«enumerate.__new__» ⟨[.type "enumerate",.ref l],[]⟩) (λ_ R s=>GI t s.heap l xs /\
   R (.ok (.ret (.ref (s.heap.push (itO t l)).objs.size))) { s with heap:=(s.heap.push (itO t l)).push { cls:=.type "enumerate",data:=.fields #[.none,.bool Ad,.ref s.heap.objs.size,D8 0,.none,.none] } }):=
 .of_wp λprog w A R s h=>by
  obtain⟨hp,g,d,tk,os⟩:=s;obtain⟨hl,h⟩:=h;have hsub:=sub_enumerate;have hL:GI t (Shared.heap ⟨hp,g,d,tk,os⟩) l xs:=hl
  wp_walk
  refine wpAny_stack_any λst=>AT ?_
  split
  .rename_i c _ _ _ _ _;cases (c==Kf "enumerate")
   .wp_walk using Px hL
    exact⟨_,rfl,h⟩
   .wp_walk using Px hL
    exact⟨_,rfl,h⟩
  .wp_walk using Px hL
   exact⟨_,rfl,h⟩
theorem aK{xs:Bg Aj}{Q:Vq}(hL:GI t s.heap l xs)(h:∀ h',IsEnum h' (s.heap.objs.size+1) s.heap.objs.size 0 .none->Gs t h' s.heap.objs.size l 0->(∀ b o,s.heap.get? b=Aa o->h'.get? b=Aa o)->Q (.ref (s.heap.objs.size+1)) {s with heap:=h'}):
    Av (model prog w) A (call (.type "enumerate") [.ref l]) Q E s:=by
  refine callType_new F.called_enumerate (by decide) (F.typeCall_enumerate_1 _) (F.newCall_enumerate_1 _) (λobj=>F.args_object_init_2 obj _) F.entry_enumerate_new (aV t l xs) ⟨hL,?_⟩
  have hz:(s.heap.push (itO t l)).objs.size=s.heap.objs.size+1:=Dt ..;show _/\_;rw[hz];have he:IsEnum ((s.heap.push (itO t l)).push { cls:=.type "enumerate",data:=.fields #[.none,.bool Ad,.ref s.heap.objs.size,D8 0,.none,.none] }) (s.heap.objs.size+1) s.heap.objs.size 0 .none:=by
    have:=A3 (s.heap.push (itO t l)) (o:={ cls:=.type "enumerate",data:=.fields #[.none,.bool Ad,.ref s.heap.objs.size,D8 0,.none,.none] }) rfl;rw[hz]at this;exact this
  exact⟨⟨_,he,rfl⟩,h _ he (nZ (Au _ (A3 _ (bH _ _)))) λb o x=>Au _ (Au _ x)⟩
end
def YF(K:Fg)(ta:TA):TI:=λY H R=>ta Y H λvs H1=>∃ t a xs,vs=[.ref a]/\SqX t K H1 a xs/\(xs.length<=sizeLine->R (Ite K t a) H1)
theorem SN{a:An}{ta:TA}(hg:Gl X "enumerate")(hm:X.mg "enumerate" = Ae)(ha:PA X [a] ta)(hs:As [a] X.env=[(Ad,eval a X.env)]):
  PI X (.Tuple es n tpos) (.Call (.Name "enumerate" p) [a] [] pos) (YF X.K ta):=by
 intro pI s Y H R I h;refine Call_ (KD I hg hm PyProof.Rows.boot_enumerate (Dv (thn (ha pos pI s Y H _ I h) λus s1 ⟨vs,H1,I1,r1,q1⟩=>?_) hs rfl))
 obtain⟨t,c,xs,e,sx,q⟩:=q1;subst e;cases r1 with
 |cons r rr=>
  cases rr;cases r;obtain⟨us,ru,pu,zu⟩:=O9 I1 sx;refine aK pu λh2 z1 z2 kp=>Yn z1 ?_
  refine⟨s1.heap.objs.size+1,[s1.heap.objs.size,s1.heap.objs.size+1],_,_,H1,rfl,I1.kept (t':=s1.toks) kp,Zg t s1.heap.objs.size c pu.lt,⟨⟨_,z1⟩,z2⟩,λb hb=>?_,q zu⟩
  have hb':s1.heap.objs.size<=b:=by
   simp only[AI,Ch,EB]at hb;rcases hb with z|z<;>rw[z]<;>simp
  exact I1.fpOk hb' (I1.hok.fresh hb')
theorem MA:∀(j:Ah)(xs:Ac D),(CM j xs).length=xs.length
 |_,[]=>rfl
 |j,x::xs=>by rw[CM,A7,MA,A7]
theorem Op:∀(xs:Ac D)(j:Ah)(i:Af)(d:D),(CM j xs)[i]?=Aa d->∃ x,xs[i]?=Aa x/\d=.tup [.int (j+i),x]
 |[],j,i,d,h=>by simp[CM]at h
 |x::xs,j,0,d,h=>by
  rw[CM]at h;simp only[List.getElem?_cons_zero,Option.some.injEq]at h;exact⟨x,rfl,by rw[<-h];simp⟩
 |x::xs,j,i+1,d,h=>by
  rw[CM]at h;simp only[List.getElem?_cons_succ]at h ⊢;obtain⟨y,h1,h2⟩:=Op xs (j+1) i d h;exact⟨y,h1,by rw[h2];congr 3;omega⟩
theorem Zb{ds:Ac D}(sq:∀ H2,Kp A H1 H2->SqX t K H2 a xs)(r1:Reps K CL H1 A xs ds):IU K CL A (CM 0 ds) (Ite K t a) H1:=λH k i=>by
 have s1:=sq H k;refine⟨λhi=>⟨xs,s1,?_⟩,λd hd=>?_⟩
 .rw[MA]at hi;rw[r1.length];exact hi
 .obtain⟨x,hx,rfl⟩:=Op _ _ _ _ hd;obtain⟨u,hu,ru⟩:=r1.get hx;refine⟨⟨xs,u,s1,hu⟩,?_⟩;rintro w' H' ⟨p,x',hp,rfl,c1,rfl⟩;have ex:x'=u:=Bl ((c1 xs s1).symm.trans hu);subst ex;rw[Jc];exact⟨ET hp (.tup [.int i,x']),λB hB aB=>Kx aB hp ⟨rfl,Oj ru k hB,trivial⟩⟩
section
variable{X:Cx}{CL:ClA}{W:XW}{pos p:AD}{a:An}{fa:Rho->R D}
theorem dZ(ha:SE X CL W a fa)(hg:Gl X "enumerate")(hm:X.mg "enumerate" = Ae)(hs:As [a] X.env=[(Ad,eval a X.env)]):
  SI X CL W (.Tuple es n tpos) (.Call (.Name "enumerate" p) [a] [] pos) (λU=>(fa U).bind λx=>(Ey x).bind λxs=>.ok (CM 0 xs)):=
 λA=>PI.weak (SN hg hm (DT (ha A) Ft hs) hs) λY H R ⟨hA,U,g,q⟩=>⟨hA,U,g,EU.ex q λd v H1 _ s1 r1 p1=>by
  cases e1:Ey d with
  |bad=>rw[e1]at p1;exact p1.elim
  |exn z=>exact absurd e1 (by cases d<;>simp[Ey])
  |ok ds=>
   rw[e1]at p1;obtain⟨t,c,xs,rfl,k1,rs⟩:=pL r1 e1;exact⟨t,c,xs,rfl,k1 H1 (Kp.of (Az.refl H1)),λhz=>p1 _ H1 (Az.refl H1) (Zb k1 rs) (by rw[MA,<-rs.length];exact hz)⟩⟩
end
noncomputable abbrev Vy(h:AG)(z TI TO:Ak)(f0 f1:Aj):Prop:=h.get? z=Aa { cls:=.type "zip",dict:=Ae,data:=.fields #[f0,f1,.bool Ad,.ref TI,.ref TO],slots:=#[] }
noncomputable abbrev Vz(h:AG)(T:Ak)(a b c:Aj):Prop:=h.get? T=Aa { cls:=.type "tuple",data:=.seq #[a,b,c] }
section
variable{prog:AM}{w:AA}{A:AU}{E:Vq}{s:Ap}
def Z_3(t1 t2 t3:Am)(I l1 l2 l3 i:Af)(h:AG):Prop:=Vz h (I+3) (.ref (I+0)) (.ref (I+1)) (.ref (I+2))/\Gs t1 h (I+0) l1 i/\Gs t2 h (I+1) l2 i/\Gs t3 h (I+2) l3 i/\(∃ a b c,Vz h (I+4) a b c) /\
 (Vy h (I+5) (I+3) (I+4) .none (.bool Ad)\/∃(T1:Af)(f1:Am),Vy h (I+5) (I+3) (I+4) (D8 T1) (.bool f1))
end
section
variable{prog:AM}{w:AA}{A:AU}{R:Hn->Ap->Prop}
end
section
variable{prog:AM}{w:AA}{A:AU}{E:Vq}{s:Ap}
end
theorem Z_3.ty{t1 t2 t3:Am}{I l1 l2 l3 i:Af}(z:Z_3 t1 t2 t3 I l1 l2 l3 i s.heap):s.TypeIs (.ref (I+5)) "zip" := by
 obtain⟨_,_,_,_,_,hz|⟨_,_,hz⟩⟩:=z
 .exact⟨_,hz,rfl⟩
 .exact⟨_,hz,rfl⟩
theorem Z_3.lt{t1 t2 t3:Am}{I l1 l2 l3 i:Af}(z:Z_3 t1 t2 t3 I l1 l2 l3 i s.heap):I+5<s.heap.objs.size:=by
 obtain⟨o,h,_⟩:=z.ty;exact AK h
section
variable{prog:AM}{w:AA}{A:AU}{E:Vq}{s:Ap}
end
section
variable{X:Cx}{CL:ClA}{W:XW}{pos p pos' p':AD}{a b c:An}{fa fb fc:Rho->R D}
end
section
variable{X:Cx}{CL:ClA}{W:XW}{pos p tpos:AD}{a b c:An}{fa fb fc:Rho->R D}{x:Ag}
end
section
variable{X:Cx}{CL:ClA}{W:XW}{a:An}{fa:Rho->R D}
end
section
variable{X:Cx}{CL:ClA}{W:XW}{o o' e:An}{fe:Rho->R D}{i j:Af}{apos cpos apos' cpos' pos:AD}
end
section
variable{X:Cx}{CL:ClA}{W:XW}
theorem pA(I:Inv X pI Y H s){ds:Ac D}(B:AU)(hd:flD n d=Ab)(hs:ds.all (flD n)=Ab)(r:Reps X.K CL H A0 xs ds)(rv:A2 xs its)(q:Rep X.K CL H A0 v d)(qv:Bu v u)(hu:B.units+n<BG):∃ e:Aj->Am,(∀ y,y∈its.toArray->El B s y u (e y))/\∀ j (h:j<its.length),e its[j]=eqD (ds.getD j .non) d:=by
 have l1:=rv.length;have l2:=r.length
 have key:∀ y,y∈its->∃ k:Am,El B s y u k/\∀ j (h:j<its.length),its[j]=y->eqD (ds.getD j .non) d=k:=λy hy=>by
  obtain⟨j,hj,rfl⟩:=E7 hy;obtain⟨x,rx,qx⟩:=IG r rv hj;refine⟨eqD (ds.getD j .non) d,(KH I n _ _ x v _ _ B (HU hs j) hd rx q qx qv hu).2.1,λj' hj' e=>?_⟩
  obtain⟨x',rx',qx'⟩:=IG r rv hj';rw[e]at qx';have z:=Bu.inj qx qx';subst z;rw[LB I n _ _ (HU hs j') (HU hs j) rx' rx]
 have key2:∀ y,∃ k:Am,y∈its->El B s y u k/\∀ j (h:j<its.length),its[j]=y->eqD (ds.getD j .non) d=k:=λy=>by
  by_cases hy:y∈its
  .obtain⟨k,hk⟩:=key y hy;exact⟨k,λ_=>hk⟩
  .exact⟨Ab,λh=>absurd h hy⟩
 exact⟨λy=>Hf (key2 y),λy hy=>(Dd (key2 y) (by simpa using hy)).1,λj hj=>((Dd (key2 its[j]) (Dr _)).2 j hj rfl).symm⟩
end
section
variable{X:Cx}
variable{CL:ClA}{W:XW}{pos p pos' p':AD}{a b:An}{fa fb:Rho->R D}
end
section
variable{X:Cx}{CL:ClA}{W:XW}{e o o' k l:An}{fe:Rho->R Ov.D}{i ik il:Af}{pos spos spos' tpos:AD}{kt:Af}
end
section
variable{prog:AM}{w:AA}{A:AU}{E:Vq}{s:Ap}
end
section
variable{X:Cx}{pos:AD}{CL:ClA}
end
section
variable{X:Cx}{CL:ClA}{W:XW}
end
end Ov
namespace Ov
open PySem PySem.W PyProof.Rows
variable{p:Bg Af}{m:Af}
def Kr{α:Type}(lt:Af->Af->Am)(n:Af):KasT α->(α->Prop)->Prop
 |.ret a,Q=>Q a
 |.ask i j k,Q=>i<n/\j<n/\Kr lt n (k (lt i j)) Q
theorem Kr.mono{α:Type}{lt:Af->Af->Am}{n:Af}{Q Q':α->Prop}:∀{t:KasT α},Kr lt n t Q->(∀ a,Q a->Q' a)->Kr lt n t Q'
 |.ret _,h,k=>k _ h
 |.ask i j f,h,k=>⟨h.1,h.2.1,Kr.mono (t:=f (lt i j)) h.2.2 k⟩
theorem Kr.bind{α β:Type}{lt:Af->Af->Am}{n:Af}{f:α->KasT β}{Q:β->Prop}:∀{t:KasT α},Kr lt n t (λa=>Kr lt n (f a) Q)->Kr lt n (t.bind f) Q
 |.ret _,h=>h
 |.ask i j k,h=>⟨h.1,h.2.1,Kr.bind (t:=k (lt i j)) h.2.2⟩
structure Sto (lt:Af->Af->Am) (n:Af):Prop where
 tr:∀ i j k,i<n->j<n->k<n->lt i j=Ab->lt j k=Ab->lt i k=Ab
 tot:∀ i j,i<n->j<n->i≠j->lt i j=Ad->lt j i=Ab
 asy:∀ i j,i<n->j<n->lt i j=Ab->lt j i=Ad
noncomputable def at0(p:Bg Af)(x:Af):Af:=p.getD x 0
structure Pm (n:Af) (p:Bg Af):Prop where
 sz:p.size=n
 lt:∀ x,x<n->at0 p x<n
 inj:∀ x y,x<n->y<n->at0 p x=at0 p y->x=y
section
variable{lt:Af->Af->Am}{n:Af}
def Qu(lt:Af->Af->Am)(p:Bg Af)(m:Af):Prop:=∀ x y,x<y->y<m->lt (at0 p x) (at0 p y)=Ab
def Qw(lt:Af->Af->Am)(p:Bg Af)(m:Af):Prop:=∀ x y,x<y->y<m->lt (at0 p y) (at0 p x)=Ab
theorem Qu.succ(S:Sto lt n)(hp:Pm n p)(h1:1<=m)(hm:m<n)(h:Qu lt p m)(e:lt (at0 p (m-1)) (at0 p m)=Ab):Qu lt p (m+1):=λx y hxy hy=>by
 by_cases hym:y<m
 .exact h x y hxy hym
 .have:y=m:=by omega
  subst this;by_cases hx:x=y-1
  .rw[hx];exact e
  .exact S.tr _ _ _ (hp.lt _ (by omega)) (hp.lt _ (by omega)) (hp.lt _ hm) (h x (y-1) (by omega) (by omega)) e
theorem Qw.succ(S:Sto lt n)(hp:Pm n p)(h1:1<=m)(hm:m<n)(h:Qw lt p m)(e:lt (at0 p m) (at0 p (m-1))=Ab):Qw lt p (m+1):=λx y hxy hy=>by
 by_cases hym:y<m
 .exact h x y hxy hym
 .have:y=m:=by omega
  subst this;by_cases hx:x=y-1
  .rw[hx];exact e
  .exact S.tr _ _ _ (hp.lt _ hm) (hp.lt _ (by omega)) (hp.lt _ (by omega)) e (h x (y-1) (by omega) (by omega))
end
section
variable{prog:AM}{w:AA}{A:AU}{E:Vq}{κ:SortKind}{it:Bg Keyed}
end
section
variable{lt:Af->Af->Am}{n:Af}
end
def OY(h:AG)(v:Aj)(r:Ac Ah):Prop:=∃ a its,v=.ref a/\Kb h a its/\Ih its.toList r/\r≠[]
theorem OY.kept{h h':AG}{v:Aj}{r:Ac Ah}(t:OY h v r)(k:∀ b o,h.get? b=Aa o->h'.get? b=Aa o):OY h' v r:=by
 obtain⟨a,its,e,⟨o,ho,q⟩,i,n⟩:=t;exact⟨a,its,e,⟨o,k _ _ ho,q⟩,i,n⟩
section
variable{prog:AM}{w:AA}{A:AU}{E:Vq}{s:Ap}
end
end Ov
section
namespace Ov
open PySem PySem.Spec PyProof.Rows L2
section
variable{X:Cx}{CL:ClA}{W:XW}
end
end Ov
end
section
namespace Ov
open PySem PySem.Spec PyProof.Rows
section
variable{t:SetTable}{hashAt:Af->Ah}{h:Ah}
noncomputable def stand(i b:Af):SetTable.Probe:=⟨i,0,i,b,Ae⟩
end
section
variable{prog:AM}{w:AA}{A:AU}{E:Vq}{s:Ap}{K:Type} [DecidableEq K] {knd:KeyKind prog w K}
end
section
variable{prog:AM}{w:AA}{A:AU}{R:Hn->Ap->Prop}{I:Ak}{fp wr:Ac Ak}{G:Bg Et->Bg Et->Prop}{n:Af}{P:Af->Aj->Prop}{St:Af->Ap->Prop}
end
section
variable{prog:AM}{w:AA}{A:AU}{E:Vq}{s:Ap}
end
end Ov
end
namespace Ov
open PySem PySem.Spec PyProof.Rows L2
variable{h h':AG}{P:AM}{w:AA}{H H':Hp}{oe:C9}{vs:Bg Aj}{Q:DI->Ap->Prop}{T' C C' OV:Ak}{a0 fv:Aj}{X:Cx}{pI pl:Pn}{Y Y0:L2.St}{K:Fg}{x g z par name qual q x0:Ag}{v:Ao Aj}{M:Gi}{tk:Cz}{fill expr:Am}{φ:AG->Prop}{CL:ClA}{Fz:Fr}{B A A':Ak->Prop}{U:Rho}{W:XW}{hs body:Ac AJ}{h0:AJ}{p1 pos p pos' p2 p3 apos cpos:AD}{dx od an:Ao Ak}{up:Af->Ac Af}{CX:CXT}{k c kk:Af}{fd:BE}{ps N':Ac Ag}{Xw:Vq}{xn:Af->Ac D->R Ex}{d d1 d2 d':D}{Rp:Hp->V->D->Prop}{ev tg elt:An}{fy fo fe:Rho->R D}{Z:Gam}{scope:BN}{ts:Ac Af}{F:An->Ac AJ->Ac AJ->Am}{α:Type}{env:Ci}{as:Es}{xs ys:Ac An}{u:DI}{osl:Bg (Ao Aj)}
section
variable{X:Cx}
def NA(K:Fg)(H:Hp):Ac V->Ac (Ac Ah)->Prop
 |[],[]=>Hs
 |x::xs,k::ks=>(∃ b,x=.ref b/\SqT K H b (k.map V.int))/\NA K H xs ks
 |_,_=>AW
theorem NA.length{K:Fg}{H:Hp}:∀{xs:Ac V}{ks:Ac (Ac Ah)},NA K H xs ks->xs.length=ks.length
 |[],[],_=>rfl
 |_::_,_::_,h=>congrArg (· + 1) (NA.length h.2)
 |[],_::_,h=>h.elim
 |_::_,[],h=>h.elim
variable{CL:ClA}{W:XW}{pos p pos' p':AD}{a:An}{fa:Rho->R D}
end
section
end
section
variable{X:Cx}
variable{CL:ClA}{W:XW}{o e:An}{fe:Rho->R D}{i:Af}{apos cpos pos:AD}
end
section
open PySem.AutoSeq1 (wpAny_loadPart')
end
section
variable{prog:AM}{w:AA}{A:AU}{R:Hn->Ap->Prop}{I S T:Ak}{u v:Aj}{c:Af}{P:Af->Aj->Prop}{St:Af->AG->Prop}{s:Ap}{r q:Ac Ah}
end
section
variable{X:Cx}{CL:ClA}{W:XW}
end
def HF(e T:Ak)(cls:Aj)(dx:Ao Ak)(fl:Aj)(h:AG):Prop:=∃ oe vs oT ts a0,h.get? e=Aa oe/\oe.cls=cls/\oe.dict=dx/\vs[0]?=Aa a0/\oe.data=.fields vs/\vs[1]?=Aa (.ref T)/\T≠e/\h.get? T=Aa oT/\oT.data=.fields ts/\ts[3]?=Aa fl
noncomputable abbrev Fly(e T:Ak)(cls:Aj)(dx:Ao Ak)(h:AG):Prop:=HF e T cls dx CD h
noncomputable def F5(C:Ak)(dx:Ao Ak)(t:Ak):C9:={cls:=.ref C,dict:=dx,data:=.fields #[.ref t,.none,.none,.none,.bool Ad,.none]}
structure Shift (ex fs:Ac Ak) (h h':AG):Prop where
 keep:∀ b o,h.get? b=Aa o->b∉ex->b∉fs->h'.get? b=Aa o
 slot:∀ b o,h.get? b=Aa o->b∈fs->∃ sl,h'.get? b=Aa {o with slots:=sl}
theorem Shift.trans{ex fs:Ac Ak}{h1 h2:AG}(a:Shift ex fs h h1)(b:Shift ex fs h1 h2):Shift ex fs h h2:=
 ⟨λc o q n m=>b.keep c o (a.keep c o q n m) n m,λc o q m=>by
  obtain⟨sl,e1⟩:=a.slot c o q m;obtain⟨sl',e2⟩:=b.slot c _ e1 m;exact⟨sl',e2⟩⟩
theorem ObjOk.isThere{a:Ak}:∀(o:HO),L2.ObjOk P w H h a o->∃ ob,h.get? a=Aa ob
 |.lst _,x=>by obtain⟨_,_,_,_,e⟩:=x;exact⟨_,e⟩
 |.tup _,x=>by obtain⟨_,_,_,p⟩:=x;obtain⟨o,e,_⟩:=p;exact⟨_,e⟩
 |.dK _,x=>by obtain⟨_,_,_,_,o,_,_,e,_⟩:=x;exact⟨_,e⟩
 |.dT _,x=>by obtain⟨_,_,_,_,o,_,_,e,_⟩:=x;exact⟨_,e⟩
 |.set _ _,x=>by obtain⟨o,_,_,_,e,_⟩:=x;exact⟨_,e⟩
 |.ins _ _ _,x=>by obtain⟨_,_,_,e,_⟩:=x;exact⟨_,e⟩
 |.own _,x=>x
 |.xd _,x=>by obtain⟨_,⟨_,_,_,e,_⟩,_⟩:=x;exact⟨_,e⟩
 |.met _ _,x=>⟨_,x⟩
 |.rng _ _,x=>by obtain⟨_,_,_,e⟩:=x;exact⟨_,e⟩
 |.frz _ _,x=>⟨_,x.1⟩
 |.tbl _,x=>⟨_,x⟩
 |.ext _,x=>x.2.1
theorem HS{a:Ak}(x:HOk P w H h)(e:h.get? a=Ae):H a=Ae:=by
 cases q:H a with
 |none=>rfl
 |some o=>
  obtain⟨ob,z⟩:=ObjOk.isThere o (x a o q);rw[e]at z;cases z
theorem HOk.shift{ex fs:Ac Ak}(x:HOk P w H h)(sh:Shift ex fs h h')(h1:∀ b∈ex,H b=Ae)(h2:∀ b∈fs,H b=Ae):HOk P w H h':=λa o e=>
 (x a o e).stay (λb u hb q=>by
  have hs:∃ v,H b=Aa v:=by
   rcases hb with rfl|hb
   .exact⟨_,e⟩
   .exact⟨_,hb⟩
  obtain⟨v,hv⟩:=hs;exact sh.keep b u q (λz=>by rw[h1 b z]at hv;cases hv) (λz=>by rw[h2 b z]at hv;cases hv)) (λ_ q=>q) λ_ _ q=>q
theorem Un.shift{fs0 fs ex:Ac Ak}{h0:AG}(u:Un fs0 [] H H' h0 h)(sh:Shift ex fs h h')(h1:∀ b∈ex,h0.get? b=Ae)(h2:∀ b∈fs,b∈fs0\/h0.get? b=Ae):Un fs0 [] H H' h0 h' where
 keep:=λb o q n hb hx=>sh.keep b o (u.keep b o q n hb hx) (λz=>by rw[h1 b z]at q;cases q) λz=>(h2 b z).elim hb λe=>by rw[e]at q;cases q
 slot:=λb o q n hb hx=>by
  obtain⟨sl,e1⟩:=u.slot b o q n hb hx;by_cases hf:b∈fs
  .obtain⟨sl',e2⟩:=sh.slot b _ e1 hf;exact⟨sl',e2⟩
  .exact⟨sl,sh.keep b _ e1 (λz=>by rw[h1 b z]at q;cases q) hf⟩
 free:=u.free
 there:=λb o q hx=>by
  obtain⟨o',e1⟩:=u.there b o q hx;by_cases hf:b∈fs
  .obtain⟨sl',e2⟩:=sh.slot b _ e1 hf;exact⟨_,e2⟩
  .exact⟨o',sh.keep b _ e1 (λz=>by rw[h1 b z]at q;cases q) hf⟩
 tups:=u.tups
 frzs:=u.frzs
 tbls:=u.tbls
theorem jD(f:Bg Aj->Bg Aj)(o:C9):(E2 f o).dict=o.dict:=by
 obtain⟨c,d,dt,sl⟩:=o;cases dt<;>rfl
section
variable{M:Gi}{A:AU}{E:Vq}{s:Ap}{env:Ci}{outer:Ac Ci}{L e T:Ak}{cls:Aj}{dx:Ao Ak}{base h:AG}
theorem Om{hd:Aj}{nx:Am}(hfr:A.frames=Aa (env::outer))(hf:env.frame=Aa L)(ff:s.heap.FunFrames base (env::outer))(he:s.heap.get? e=Aa oe)(dt:oe.data=.fields vs)(hz:1<vs.size)(hQ:∀ h' T' oT ts,h'.get? e=Aa (E2 (·.setIfInBounds 1 (.ref T')) oe)->T'≠e->s.heap.get? T'=Ae->h'.get? T'=Aa oT->oT.data=.fields ts->ts[3]?=Aa (D8 L)->Shift [e] (frs (env::outer)) s.heap h'->Q () {s with heap:=h'}):
  Av M A (do
   let fr <-frameOf env
   let pl <-entryPlaceOf L nx
   let en <-WD hd fr .none (D8 L) .none pl
   setField (.ref e) 1 en) Q E s:=by
 have nf:e∉frs (env::outer):=λz=>by
  obtain⟨_,o,q,n⟩:=ff.mem z;rw[he]at q;cases q;exact n vs dt
 refine Aq (wpAny_frameOf_fun hfr ff hf λk1 so=>Aq (wpAny_entryPlaceOf λpl ip=>?_))
 obtain⟨sz,sm,sl⟩:=so;have e1:k1.get? e=Aa oe:=(sm e nf).trans he;unfold WD;unfold newFields;refine Aq (CN ?_ (ip.sizeOk5 _ _ _ _ _));generalize hX:({ cls:=.type "traceback",dict:=Ae,data:=.fields ([hd,.ref L,.none,D8 L,.none]++(if pl.isEmpty then GA 6 CD else pl)).toArray }:C9)=ob
 have od:ob.data=.fields ([hd,.ref L,.none,D8 L,.none]++(if pl.isEmpty then GA 6 CD else pl)).toArray:=by rw[<-hX]
 have nl:k1.objs.size≠e:=Hj (AK e1);have e2:=Au ob e1;refine D1 e2 dt hz ?_;have up:∀ b,b≠e->((k1.push ob).update e (E2 (·.setIfInBounds 1 (.ref k1.objs.size)))).get? b=(k1.push ob).get? b:=λb nb=>BU _ _ (CI nb)
 have lf:ob.isFreed=Ad:=by rw[<-hX];rfl
 refine hQ _ k1.objs.size ob _ (Cp _ e2 (Dg (Ca dt _))) nl ?_ ((up _ nl).trans (A3 k1 lf)) od ?_ ⟨λb o q n1 n2=>?_,λb o q hb=>?_⟩
 .rw[sz];exact CJ (AL _)
 .simp
 .have nb:b≠e:=λz=>n1 (by rw[z];exact AF)
  rw[up b nb];exact Au ob ((sm b n2).trans q)
 .obtain⟨sl',q'⟩:=sl b o q;have nb:b≠e:=λz=>nf (z ▸ hb)
  exact⟨sl',(up b nb).trans (Au ob q')⟩
theorem Od{oT:C9}{ts:Bg Aj}{fl:Aj}(hc:oe.cls=cls)(hx:oe.dict=dx)(h0:vs[0]?=Aa a0)(dt:oe.data=.fields vs)(hz:1<vs.size)(g:h'.get? e=Aa (E2 (·.setIfInBounds 1 (.ref T')) oe))(ne:T'≠e)(gT:h'.get? T'=Aa oT)(dT:oT.data=.fields ts)(f3:ts[3]?=Aa fl):HF e T' cls dx fl h':=
 ⟨_,_,oT,ts,a0,g,(Xm _ _).trans hc,(jD _ _).trans hx,by rw[Array.getElem?_setIfInBounds_ne (by decide)];exact h0,Ca dt _,by simp[hz],ne,gT,dT,f3⟩
theorem HQ{i:Af}{v:Aj}(q:vs[i]?=Aa v):i<vs.size:=(EY.mp q).1
theorem On(hfr:A.frames=Aa (env::outer))(hf:env.frame=Aa L)(ff:s.heap.FunFrames base (env::outer))(fl:Fly e T cls dx s.heap)(hQ:∀ h' T',HF e T' cls dx (D8 L) h'->Shift [e,T] (frs (env::outer)) s.heap h'->s.heap.get? T'=Ae->Q () {s with heap:=h'}):Av M A (DY (.ref e) env) Q E s:=by
 obtain⟨oe,vs,oT,ts,a0,he,hc,hx,h0,dt,h1,ne,hT,dT,h3⟩:=fl;have z3:=HQ h3;unfold DY;simp only[hf];refine Aq (Cq he dt h1 ?_);rw[At (by simp:(Bk T != CD)=Ab)]
 refine Aq (Cq hT dT h3 ?_);rw[AC (by simp[D8]:¬ (CD==D8 L)=Ab)]
 refine Aq (D1 hT dT z3 ?_);have up:∀ b,b≠T->(s.heap.update T (E2 (·.setIfInBounds 3 CD))).get? b=s.heap.get? b:=λb nb=>BU _ _ (CI nb)
 have rcd:∀ b o,s.heap.get? b=Aa o->(∀ us,o.data≠.fields us)->b≠T:=λb o q n z=>by
  rw[z,hT]at q;cases q;exact n ts dT
 refine Om (base:=base) hfr hf (ff.of_keeps λb o q n=>⟨o,(up b (rcd b o q n)).trans q,rfl⟩) ((up e (CI ne)).trans he) dt (HQ h1) λh' T' oT' ts' g nT gn gT dT' f3 sh=>?_
 have T0:s.heap.get? T'=Ae:=by
  by_cases z:T'=T
  .rw[z]at gn;rw[Cp _ hT (Dg (Ca dT _))]at gn;cases gn
  .rw[<-up T' z];exact gn
 refine hQ h' T' (Od hc hx h0 dt (HQ h1) g nT gT dT' f3) ⟨λb o q n1 n2=>?_,λb o q hb=>?_⟩ T0
 .simp only[AI,Ch,EB,GV]at n1;exact sh.keep b o ((up b n1.2).trans q) (by simp[n1.1]) n2
 .obtain⟨_,o',q',n⟩:=ff.mem hb;rw[q]at q';cases q';exact sh.slot b o ((up b (rcd b o q n)).trans q) hb
theorem Ly(fl:HF e T cls dx fv s.heap)(hQ:∀ h',Fly e T cls dx h'->(∀ b o,b≠T->s.heap.get? b=Aa o->h'.get? b=Aa o)->Q () {s with heap:=h'}):Av M A (Gc (.ref e) Ae) Q E s:=by
 obtain⟨oe,vs,oT,ts,a0,he,hc,hx,h0,dt,h1,ne,hT,dT,h3⟩:=fl;have z3:=HQ h3;unfold Gc;refine Aq (Cq he dt h1 ?_);rw[At (by simp:(Bk T != CD)=Ab)]
 refine D1 hT dT z3 (hQ _ ?_ λb o nb q=>(BU _ _ (CI nb)).trans q)
 exact⟨oe,vs,_,_,a0,(BU _ _ ne).trans he,hc,hx,h0,dt,h1,ne,Cp _ hT (Dg (Ca dT _)),Ca dT _,by simp[z3]⟩
theorem Mu{h1 h2:AG}{ex:Ac Ak}(ff:s.heap.FunFrames base (env::outer))(sh:Shift ex (frs (env::outer)) s.heap h1)(hT:s.heap.get? T'=Ae)(k:∀ b o,b≠T'->h1.get? b=Aa o->h2.get? b=Aa o):Shift ex (frs (env::outer)) s.heap h2:=
 ⟨λb o q n1 n2=>k b o (λz=>by rw[z,hT]at q;cases q) (sh.keep b o q n1 n2),λb o q hb=>let ⟨sl,q'⟩:=sh.slot b o q hb;⟨sl,k b _ (λz=>by rw[z,hT]at q;cases q) q'⟩⟩
theorem ZA(hfr:A.frames=Aa (env::outer))(hf:env.frame=Aa L)(ff:s.heap.FunFrames base (env::outer))(fl:Fly e T cls dx s.heap)(hQ:∀ h' T',Fly e T' cls dx h'->Shift [e,T] (frs (env::outer)) s.heap h'->(T'=T\/s.heap.get? T'=Ae)->Q () {s with heap:=h'}):Av M A (leaving env (.ref e)) Q E s:=by
 unfold leaving;exact Aq (On hfr hf ff fl λh1 T' f1 sh hT=>Ly f1 λh2 f2 k=>hQ h2 T' f2 (Mu ff sh hT k) (.inr hT))
theorem Zj(hfr:A.frames=Aa (env::outer))(hf:env.frame=Aa L)(ff:s.heap.FunFrames base (env::outer))(he:s.heap.get? e=Aa oe)(hc:oe.cls=cls)(hx:oe.dict=dx)(dt:oe.data=.fields vs)(h0:vs[0]?=Aa a0)(h1:vs[1]?=Aa .none)(hQ:∀ h' T',Fly e T' cls dx h'->Shift [e] (frs (env::outer)) s.heap h'->s.heap.get? T'=Ae->Q () {s with heap:=h'}):Av M A (leaving env (.ref e)) Q E s:=by
 unfold leaving DY;simp only[hf];refine Aq (Aq (Cq he dt h1 ?_));rw[AC (by decide)]
 exact Om (base:=base) hfr hf ff he dt (HQ h1) λh' T' oT ts g nT gn gT dT f3 sh=>Ly (Od hc hx h0 dt (HQ h1) g nT gT dT f3) λh2 f2 k=>hQ h2 T' f2 (Mu ff sh gn k) gn
theorem aQ(hfr:A.frames=Aa (env::outer))(hf:env.frame=Aa L)(ff:s.heap.FunFrames base (env::outer))(fl:Fly e T cls dx s.heap)(hQ:∀ h' T',Fly e T' cls dx h'->Shift [e,T] (frs (env::outer)) s.heap h'->(T'=T\/s.heap.get? T'=Ae)->Q () {s with heap:=h'}):Av M A (DY (.ref e) env) (λ_ s2=>Av M A (Gc (.ref e) Ae) Q E s2) E s:=
 On hfr hf ff fl λh1 T' f1 sh hT=>Ly f1 λh2 f2 k=>hQ h2 T' f2 (Mu ff sh hT k) (.inr hT)
theorem ZB{l:Ac Ci}{A':AU}(ff:s.heap.FunFrames base l)(fl:Fly e T cls dx s.heap)(hQ:∀ h' T',Fly e T' cls dx h'->Shift [e,T] (frs l) s.heap h'->(T'=T\/s.heap.get? T'=Ae)->Q () {s with heap:=h'}):Av M A' (Gc (.ref e) Ae) Q E s:=by
 obtain⟨oe,vs,oT,ts,a0,he,hc,hx,h0,dt,h1,ne,hT,dT,h3⟩:=id fl;refine Ly fl λh' f' k=>hQ h' T f' ⟨λb o q n1 n2=>k b o (λz=>n1 (by rw[z];simp)) q,λb o q hb=>⟨o.slots,k b o (λz=>?_) q⟩⟩ (.inl rfl)
 obtain⟨_,o',q',n⟩:=ff.mem hb;rw[z,hT]at q';cases q';exact n ts dT
end
def CXR(P:AM)(w:AA):CXT:=λouter H s E ev s'=>∃ e T cls dx H',ev=.ref e/\s'.os=s.os/\FA s'.gens/\Un (frs outer) [] H H' s.heap s'.heap/\HOk P w H' s'.heap/\Fly e T cls dx s'.heap/\H' e=Ae/\H' T=Ae/\s.heap.get? e=Ae/\s.heap.get? T=Ae/\E cls dx H'
def L8(X:Cx)(CL:ClA)(W:XW):Prop:=∀ pI Y H s e C dx t x,Inv X pI Y H s->(X.ex=[]->X.s₀.heap.get? e=Ae)->H e=Ae->s.heap.get? e=Aa (F5 C dx t)->Fe X.K CL H (.ref C) dx x->W x H->X.xe (.ref e) s
section
variable{P:AM}{w:AA}{K:Fg}{mg:Ag->Ao Aj}{base:AG}{N:Ac Ag}{qual:Ag}{scope:BN}{f:Ak}{cd:Aj}{A:AU}{outer:Ac Ci}{s:Ap}{H:Hp}{E:XK}{CL:ClA}{W:XW}
theorem MJ{s:Ap}(I:Inv X pI Y H s):∀ b∈frs X.stack,b∈X.fs\/X.s₀.heap.get? b=Ae:=λb hb=>by
 rcases AI.mp (I.stkSub b hb) with z|z
 .exact .inr (by rw[z];exact CJ I.ok.above)
 .exact .inl z
theorem HR{s:Ap}{b:Ak}(I:Inv X pI Y H s)(hx:X.ex=[])(h:s.heap.get? b=Ae):X.s₀.heap.get? b=Ae:=by
 cases q:X.s₀.heap.get? b with
 |none=>rfl
 |some o=>
  obtain⟨o',z⟩:=I.base.there b o q (by rw[hx];simp)
  rw[h]at z;cases z
theorem Uo(hE:∀ x cls dx H',W x H'->Fe K CL H' cls dx x->E cls dx H'):∀ A',IH (CXR P w) (Fh (CXR P w) P w K mg base N qual scope f cd A outer s H E) (EKW K CL A' W):=by
 intro A' pI Y H1 s1 ev s2 I h;obtain⟨e,T,cls,dx,H',rfl,os,bare,un,hok,fl,he,hT,ne,nT,x,xr,wx⟩:=h;have I':=I.call' (s':=s2) (ch:=[]) os un hok bare (λb z=>absurd z (by simp))
 have hb0:Un (frs outer) [] H H' s.heap s2.heap:=I'.base;show Av (model P w) (A.deeper (Ek qual scope s.heap.objs.size f cd)) (leaving (Ek qual scope s.heap.objs.size f cd) (.ref e)) _ _ s2;refine ZA (L:=s.heap.objs.size) I'.ok.frames rfl I'.stack fl λh' T' fl' sh hT'=>?_
 have e0:s.heap.get? e=Ae:=HR I rfl ne;have T0:s.heap.get? T=Ae:=HR I rfl nT;refine⟨e,T',cls,dx,H',rfl,I'.os,bare,Un.shift hb0 sh ?_ (MJ I'),HOk.shift hok sh ?_ I'.stkFree,fl',he,?_,e0,?_,?_⟩
 .intro b hb;rcases AI.mp hb with rfl|hb
  .exact e0
  .rw[Bf.mp hb];exact T0
 .intro b hb;rcases AI.mp hb with rfl|hb
  .exact he
  .rw[Bf.mp hb];exact hT
 .rcases hT' with rfl|z
  .exact hT
  .exact HS hok z
 .rcases hT' with rfl|z
  .exact T0
  .exact HR I' rfl z
 .exact hE x cls dx H' wx xr
theorem rzR(hE:∀ x cls dx H',W x H'->Fe K CL H' cls dx x->E cls dx H'):L8 (Fh (CXR P w) P w K mg base N qual scope f cd A outer s H E) CL W:=by
 intro pI Y H1 s1 e C dx t x I e0 he ge xr hw;have hb0:Un (frs outer) [] H H1 s.heap s1.heap:=I.base;have e0':s.heap.get? e=Ae:=e0 rfl;show Av (model P w) (A.deeper (Ek qual scope s.heap.objs.size f cd)) (leaving (Ek qual scope s.heap.objs.size f cd) (.ref e)) _ _ s1;refine Zj (cls:=.ref C) (dx:=dx) (L:=s.heap.objs.size) I.ok.frames rfl I.stack ge rfl rfl rfl (a0:=.ref t) rfl rfl λh' T' fl' sh hT'=>?_
 have one:∀{Z_:Ak->Prop},Z_ e->∀ b∈[e],Z_ b:=λ{Z_} z b hb=>by rw[Bf.mp hb];exact z
 exact⟨e,T',.ref C,dx,H1,rfl,I.os,I.bare,Un.shift hb0 sh (one e0') (MJ I),HOk.shift I.hok sh (one (Z_:=λb=>H1 b=Ae) he) I.stkFree,fl',he,HS I.hok hT',e0',HR I rfl hT',hE x _ dx H1 hw xr⟩
theorem ownR:DX (model P w) (Fh (CXR P w) P w K mg base N qual scope f cd A outer s H E).A (Fh (CXR P w) P w K mg base N qual scope f cd A outer s H E).env (Fh (CXR P w) P w K mg base N qual scope f cd A outer s H E).xe:=PassesOwn.leaving
end
noncomputable def veB:Ac Aj:=[.type "ValueError",.type "Exception",.type "BaseException",.type "object"]
noncomputable def Db(K:Fg)(C:Ak)(v:Ao Aj):Am:=match K.lookup C with
  | some ⟨.type "type",_,.cls c,z⟩=>(match c.mro,z.toList with
    |.ref c0::tl,[_,_,_,_,Aa (.builtin nw),_]=>c0==C&&(nw == "ValueError.__new__" && (!c.hasDel&&(PySem.W.tailIn K veB tl&&(X5 K c.ns&&Be K c.ns "__init__" == Aa v))))
    | _,_=>Ad)
  |_=>Ad
theorem eM(q:IZ K C veB "ValueError.__new__" = Ab):Db K C Ae=Ab:=by
 unfold IZ at q;unfold Db;split at q
 .rename_i dd cd sl ho;split at q
  .rename_i C' bm k0 k1 k2 k3 n k5 hm hs;simp only[Al]at q;obtain⟨⟨⟨⟨⟨h1,h2⟩,h3⟩,h4⟩,h5⟩,h6⟩:=q;simp only[ho,hm,hs,Al];exact⟨h1,h2,h3,h4,h5,h6⟩
  .cases q
 .cases q
structure XcOk (K:Fg) (C:Ak):Prop where
 exc:∃ v,Db K C v=Ab
 ga:Ar K (.ref C) "__getattribute__" = Aa (Aa (.builtin "BaseException.__getattribute__"))
 gt:Ar K (.ref C) "__getattr__" = Aa Ae
 cl:Ar K (.ref C) "__class__" = Aa (Aa (.builtin "object.__class__"))
 ob:B7 K C (.type "object")=Aa Ab
 be:BF K (.ref C) (.type "BaseException")=Aa Ab
 cs:(Dp K C).isSome=Ab
 ve:BW K (.ref C) (.type "ValueError")=Aa Ab
def XAt(e C:Ak)(h:AG):Prop:=∃ o,h.get? e=Aa o/\o.cls=.ref C
theorem kW{N:Ak}{m:Ag->Ao Aj}{v:Aj}(X:K.In h)(G:h.Ns N m)(q:Be K N x=Aa (Aa v)):m x=Aa v:=by
 obtain⟨ob,es,ep,g,dt,_,fd⟩:=G;unfold Be at q;split at q
 .rename_i es' n' sl lk;have g':=X _ _ lk;rw[g]at g';cases g';cases dt;split at q
  .rename_i hf;cases q;rw[<-fd];unfold nsFind findBy;rw[<-VJ,hf];rfl
  .by_cases z:(es.toList.any λy=>y.refKey)=Ab
   .rw[At z]at q;cases q
   .rw[AC z]at q;cases q
 .cases q
theorem Lq{h0:AG}(X0:K.In h0)(q:Db K C v=Ab):
  ∃ bm N nm qn bs hd sn sub ab col dd k0 k1 k2 k3 k5 mN,(∀ h:AG,K.In h->h.get? C=Aa (BV nm qn C N bs bm hd sn sub ab col dd k0 k1 k2 k3 k5 "ValueError.__new__")/\h.Ns N mN/\DD h veB bm)/\mN "__init__" = v/\bm.contains (.type "BaseException")=Ab:=by
 unfold Db at q;split at q
 .rename_i dd cd sl ho;split at q
  .rename_i C' bm k0 k1 k2 k3 n k5 hm hs;simp only[Al,AH,Bs]at q;obtain⟨rfl,rfl,hdel,ht,hok,hni⟩:=q;obtain⟨nm,bs,mro,ns,qn,hd,sn,sub,ab,col,del⟩:=cd;dsimp only at hm hdel hok hni;subst hm hdel;have hsl:sl=#[k0,k1,k2,k3,Aa (.builtin "ValueError.__new__"),k5]:=by
    obtain⟨l⟩:=sl;simp only at hs;rw[hs]
   subst hsl;have kN:∃ o,K.lookup ns=Aa o:=by
    unfold X5 at hok;split at hok
    .rename_i z;exact⟨_,z⟩
    .cases hok
   obtain⟨oN,hoN⟩:=kN;have nsAt:∀ h:AG,K.In h->h.Ns ns (h0.nsMap ns):=λh X=>by
    obtain⟨o,es,ep,e1,r⟩:=Heap.Ns.of_isNs (XY X0 hok);have e2:=X0 _ _ hoN;rw[e1]at e2;cases e2;exact⟨_,es,ep,X _ _ hoN,r⟩
   refine⟨bm,ns,nm,qn,bs,hd,sn,sub,ab,col,dd,k0,k1,k2,k3,k5,h0.nsMap ns,λh X=>⟨X _ _ ho,nsAt h X,X6 X ht⟩,?_,(X6 X0 ht).hasType (by decide)⟩
   cases v with
   |none=>exact PySem.W.nsMap_none_of_in X0 hok hni
   |some u=>exact kW X0 (.of_isNs (XY X0 hok)) hni
  .cases q
 .cases q
theorem jA(X:K.In h)(q:Db K C v=Ab):
  ∃ bm N nm qn bs hd sn sub ab col dd k0 k1 k2 k3 k5 mN,h.get? C=Aa (BV nm qn C N bs bm hd sn sub ab col dd k0 k1 k2 k3 k5 "ValueError.__new__")/\h.Ns N mN/\mN "__init__" = v/\DD h veB bm:=by
 obtain⟨bm,N,nm,qn,bs,hd,sn,sub,ab,col,dd,k0,k1,k2,k3,k5,mN,ho,hi,_⟩:=Lq X q;obtain⟨o1,o2,o3⟩:=ho h X;exact⟨bm,N,nm,qn,bs,hd,sn,sub,ab,col,dd,k0,k1,k2,k3,k5,mN,o1,o2,hi,o3⟩
section
variable{prog:AM}{w:AA}{A:AU}{E:Vq}{h:AG}{g:Bg Et}{d:HI}{t:Af}{os:Hb}{K:Fg}{e C:Ak}
theorem Ju(p:XAt e C h):PySem.W.Looks M h (typeOf (.ref e)) (.ref C):=by
 obtain⟨o,h1,h2⟩:=p;exact h2 ▸ (PySem.W.Looks.ld h1).andThen .now
theorem Z_0{R:Hn->Ap->Prop}{tp:Aj}(X:K.In h)(p:XAt e C h)(hm:B7 K C (.type "object")=Aa Ab)(hq:R (.ok (.ret (.ref C))) ⟨h,g,d,t,os⟩):
  EG (model prog w) A (.call (.builtin "getset_descriptor.__get__") ⟨[.builtin "object.__class__",.ref e,tp],[]⟩) R ⟨h,g,d,t,os⟩:=by
 have L0:=Ju (M:=model prog w) p;have L1:=PySem.W.looks_mroIn (M:=model prog w) X hm;refine DR PySem.W.KF.slot_gs.plain PySem.W.KF.entry_gs (PySem.W.KF.slot_gs.check _ _ _ _ _ _ _ _ PySem.W.KF.type_class (PySem.W.KF.args_gs _ _ _) ?_);unfold Builtin.«getset_descriptor.__get__» Builtin.Getset_descriptor.descrGet;rw[PySem.W.dga_obj];refine Aq (AT ?_);unfold Builtin.Getset_descriptor.descrGetter Builtin.Getset_descriptor.descrCheckInstance Builtin.Getset_descriptor.descrNameAndClass Iw;simp only[PySem.W.KF.owner_class]
 repeat lk
 refine⟨GQ _ (by decide+kernel),codeAny_builtin PySem.W.KF.entry_class ?_⟩
 unfold Builtin.«object.__class__» shownTypeOf
 repeat lk
 exact hq
theorem Y_0{Q:Fin->Ap->Prop}(X:K.In h)(x:XcOk K C)(p:XAt e C h)(hq:Q (.done (.ret (.ref C))) ⟨h,g,d,t,os⟩):
  Av (model prog w) A (Builtin.«object.__getattribute__» ⟨[.ref e,.str "__class__" tk],[]⟩) Q E ⟨h,g,d,t,os⟩:=by
 have L0:=Ju (M:=model prog w) p;have L1:=Cc (M:=model prog w) X x.cl;have hT5:(⟨h,g,d,t,os⟩:Ap).TypeIs (.builtin "object.__class__") "getset_descriptor" := Xg;have f5:=Xg;have f6:=F.slot_gs_get.lookup;have f7:=F.slot_gs_set.lookup
 repeat (any_goals (first|assumption|with_reducible refine L0.at ?_|with_reducible refine L1.at ?_|wp_step))
 refine Z_0 X p x.ob ?_
 repeat (any_goals (first|assumption|wp_step))
theorem QL{nameV:Aj}(X:K.In h)(x:XcOk K C)(p:XAt e C h)(hq:Q () ⟨h,g,d,t,os⟩):Av M A (F3 "BaseException.__getattribute__" ⟨[.ref e,nameV],[]⟩) Q E ⟨h,g,d,t,os⟩:=by
 have hk:builtinKind "BaseException.__getattribute__" = Aa .slot:=by decide+kernel
 have hsplit:splitId "BaseException.__getattribute__" = Aa ("BaseException", "__getattribute__"):=by decide+kernel
 have L0:=Ju (M:=M) p;have L1:=X4 (M:=M) X x.be;have ha:=F.args_bexc_ga (.ref e) nameV;simp only[F3,hk,hsplit];refine Aq ?_
 .unfold Iw
  repeat (first|(with_reducible refine Aq (L0.at ?_))|(with_reducible refine L1.at ?_)|wp_step)
  exact hq
theorem eN{Q:Vq}(X:K.In h)(x:XcOk K C)(p:XAt e C h)(hq:Q (.ref C) ⟨h,g,d,t,os⟩):Av (model prog w) A (getAttrBy (.ref e) (.str "__class__" tk) fill expr) Q E ⟨h,g,d,t,os⟩:=by
 have L0:=Ju (M:=model prog w) p;have L1:=Cc (M:=model prog w) X x.ga;have L2:=Cc (M:=model prog w) X x.gt;have f3:=FH.ga.bind (.ref e);have hx0:(expr&&Jn (Ct "BaseException.__getattribute__"))=Ad:=by cases expr<;>rfl
 have hx2:(Ct "BaseException.__getattribute__" == Ct "object.__getattribute__")=Ad:=by decide+kernel
 have hx1:(Jn (Bk C)&&Ct "BaseException.__getattribute__" == Ct "object.__getattribute__")=Ad:=by rw[hx2];rfl
 repeat (any_goals (first|assumption|with_reducible refine L0.at ?_|with_reducible refine L1.at ?_|with_reducible refine L2.at ?_|wp_step))
 refine DR FH.ga.plain W8 (QL X x p (Y_0 X x p ?_))
 repeat (any_goals (first|assumption|wp_step))
theorem Zd{Q:Ao Aj->Ap->Prop}(X:K.In h)(x:XcOk K C)(p:XAt e C h)(hq:Q (Aa (.ref C)) ⟨h,g,d,t+1,os⟩):Av (model prog w) A (getAttr? (.ref e) "__class__") Q E ⟨h,g,d,t,os⟩:=by
 unfold getAttr? getAttrBy?
 repeat (any_goals (first|assumption|with_reducible apply eN X x p|wp_step))
end
theorem RD{e C:Ak}(x:XcOk K C):PySem.W.KitX K (.ref e) (.ref C) (XAt e C) where
 ty:=λM h _ p=>Ju p
 it:=λM h X _=>by
  obtain⟨cd,hc⟩:=Co.mp x.cs;unfold Dp at hc;split at hc
  .rename_i c' d' cd' sl' ho;intro A' Q' E' s' k q;unfold isType loadHead;exact Aq (Yk (k _ _ (X _ _ ho)) (AT q))
  .cases hc
 ne:=λh tp dd its n sl X htp=>by
  obtain⟨cd,hc⟩:=Co.mp x.cs;refine Bool.eq_false_iff.mpr λq=>?_
  have e:C=tp:=IY (AH.mp q);subst e;unfold Dp at hc;split at hc
  .rename_i c' d' cd' sl' ho;have z:=(X _ _ ho).symm.trans htp;cases z
  .cases hc
 ca:=λ{_ _ _ _ _ s} X p k=>by
  obtain⟨h,g,d,t,os⟩:=s;exact Zd X x p k
theorem Z_2{A:AU}{E:Vq}{g:Bg Et}{d:HI}{t:Af}{os:Hb}{e C C':Ak}{b:Am}{Q:Am->Ap->Prop}(X:K.In h)(p:XAt e C h)(x':XcOk K C')(hs:BF K (.ref C) (.ref C')=Aa b)(hq:Q b ⟨h,g,d,t,os⟩):Av M A (excMatches (.ref e) (.ref C')) Q E ⟨h,g,d,t,os⟩:=by
 obtain⟨bm,N,nm,qn,bs,hd,sn,sub,ab,col,dd,k0,k1,k2,k3,k5,mN,hC',_,_,T⟩:=jA X x'.exc.choose_spec;have hcB:(Bk C'::bm).contains (.type "BaseException")=Ab:=by rw[GO,T.hasType (show veB.contains (.type "BaseException")=Ab by decide),Jb]
 have L0:=Ju (M:=M) p;have L1:=X4 (M:=M) X hs;have f:=tc_notTuple;unfold excMatches
 repeat (first|(with_reducible refine Aq (L0.at ?_))|(with_reducible refine L1.at ?_)|(with_reducible refine Aq (L1.at ?_))|with_reducible refine B5 hC' ?_|(with_reducible refine E9 hC' ?_;rw[hcB])|wp_step)
 all_goals first|exact hq|(cases b<;>(wp_walk;exact hq))
def F7(X:Cx)(pI:Pn)(e:Ak):Prop:=e≠X.env.locals/\(∀ x c,X.env.cells.lookup x=Aa c->c≠e)/\(∀ p∈X.pn++pI,p.1≠e)/\X.s₀.heap.get? e=Ae
section
variable{X:Cx}{pI:Pn}{Y:L2.St}{H:Hp}{s:Ap}{e:Ak}
theorem JR(I:Inv X pI Y H s)(hx:X.ex=[])(h:s.heap.get? e=Ae):F7 X pI e:=by
 refine⟨?_,λx c q z=>?_,λp hp z=>?_,HR I hx h⟩
 .rintro rfl;obtain⟨m,⟨o,_,_,ho,_⟩,_⟩:=I.loc;rw[h]at ho;cases ho
 .obtain⟨v,o,ho,_⟩:=I.cell x c q;rw[z,h]at ho;cases ho
 .obtain⟨q,_⟩:=I.pin p hp;rw[z,h]at q;cases q
theorem Rl{ex:Ac Ak}(I:Inv X pI Y H s)(hx:X.ex=[])(sh:Shift ex (frs X.stack) s.heap h')(ha:∀ b∈ex,F7 X pI b)(hH:∀ b∈ex,H b=Ae):Inv X pI Y H {s with heap:=h'}:=by
 have kp:∀ b o,s.heap.get? b=Aa o->b∉ex->∃ sl,h'.get? b=Aa {o with slots:=sl}:=λb o q n=>by
  by_cases hb:b∈frs X.stack
  .exact sh.slot b o q hb
  .exact⟨o.slots,sh.keep b o q n hb⟩
 have cellK:∀ x c,X.env.cells.lookup x=Aa c->∀ v,s.heap.IsCell c v->h'.IsCell c v:=λx c q v ⟨o,ho,hd⟩=>by
  obtain⟨sl,z⟩:=kp c o ho λz=>(ha c z).2.1 x c q rfl
  exact⟨_,z,hd⟩
 refine⟨I.ok,I.os,I.bare,?_,?_,λx c q=>?_,I.free,I.freeC,λp hp=>?_,HOk.shift I.hok sh hH I.stkFree,I.len⟩
 .have b0:=I.base;rw[hx]at b0 ⊢;exact Un.shift b0 sh (λb hb=>(ha b hb).2.2.2) (MJ I)
 .obtain⟨m,⟨o,es,ep,ho,r⟩,hl⟩:=I.loc;obtain⟨sl,z⟩:=kp _ o ho λz=>(ha _ z).1 rfl
  refine⟨m,⟨_,es,ep,z,r⟩,λi x v e1 e2 e3=>?_⟩
  obtain⟨u,ru,l⟩:=hl i x v e1 e2 e3;refine⟨u,ru,?_⟩;rcases l with l|⟨k,c,q,z⟩
  .exact .inl l
  .exact .inr ⟨k,c,q,cellK x c q _ z⟩
 .obtain⟨v,z⟩:=I.cell x c q;exact⟨v,cellK x c q v z⟩
 .obtain⟨q,n,ne,nf,d⟩:=I.pin p hp;exact⟨sh.keep p.1 p.2 q (λz=>(ha p.1 z).2.2.1 p hp rfl) (λz=>(AI.mp (I.stkSub p.1 z)).elim ne nf),n,ne,nf,d⟩
theorem Rj(I:Inv X pI Y H s)(hx:X.ex=[])(ha:F7 X pI e)(hH:H e=Ae)(ho:∃ o,s.heap.get? e=Aa o)(p:φ s.heap)(hφ:∀ h1 h2:AG,φ h1->(∀ o,h1.get? e=Aa o->h2.get? e=Aa o)->φ h2):Inv X pI Y (upd H e (.ext φ)) s:=by
 have ne:∀ b o,H b=Aa o->b≠e:=λb o q z=>by rw[z,hH]at q;cases q
 refine⟨I.ok,I.os,I.bare,⟨I.base.keep,I.base.slot,λb o q n hb=>?_,I.base.there,λb xs q=>?_,λb o u q=>?_,λb ps q=>?_⟩,I.loc,I.cell,?_,λx c q=>?_,λp hp=>?_,λb o q=>?_,I.len⟩
 .rw[Bj λz=>by rw[z,ha.2.2.2]at q;cases q]
  exact I.base.free b o q n hb
 .have:=I.base.tups b xs q;rw[Bj (ne _ _ this)];exact this
 .have:=I.base.frzs b o u q;rw[Bj (ne _ _ this)];exact this
 .obtain⟨more,this⟩:=I.base.tbls b ps q;exact⟨more,by rw[Bj (ne _ _ this)];exact this⟩
 .rw[Bj λz=>ha.1 z.symm];exact I.free
 .rw[Bj (ha.2.1 x c q)];exact I.freeC x c q
 .obtain⟨q,n,r⟩:=I.pin p hp;exact⟨q,by rw[Bj (ha.2.2.1 p hp)];exact n,r⟩
 .by_cases hb:b=e
  .subst hb;rw[DJ]at q;cases q;exact⟨p,ho,hφ⟩
  .rw[Bj hb]at q;exact(I.hok b o q).stay (λc v hc z=>z) (λc z=>by rw[Bj (ne _ _ z)];exact z) λc zs z=>by rw[Bj (ne _ _ z)];exact z
theorem ZI{i:Af}{n:Ag}{m:Ag->Ao Aj}{tk:Af}(I:Inv X pI Y H s)(hN:X.N.Nodup)(hi:X.N[i]?=Aa n)(hn:s.heap.Ns X.env.locals m)(hn':h'.Ns X.env.locals (λx=>if x=n then v else m x))(hs:EF X.env.locals s.heap h'):Inv X pI (Y.set i Ae) H {s with heap:=h',toks:=tk}:=by
 obtain⟨m0,hn0,hl⟩:=I.loc;have em:m0=m:=by
  obtain⟨o,es,ep,h1,h2,_,h3⟩:=hn0;obtain⟨o',es',ep',h1',h2',_,h3'⟩:=hn;rw[h1]at h1';cases h1';rw[h2]at h2';cases h2'
  funext y
  rw[<-h3,<-h3']
 subst em;obtain⟨oL,_,_,hoL,_⟩:=id hn;have lt:∀ b o,X.s₀.heap.get? b=Aa o->b≠X.env.locals:=λb o q=>Bm (AQ (AK q) I.ok.above)
 refine⟨I.ok,I.os,I.bare,⟨λb o q n hb hx=>?_,λb o q n hb hx=>?_,I.base.free,λb o q hx=>?_,I.base.tups,I.base.frzs,I.base.tbls⟩,⟨_,hn',λj y v' e1 e2 e3=>?_⟩,λy c q=>?_,I.free,I.freeC,λp hp=>?_,λb ob q=>?_,by rw[AV];exact I.len⟩
 .exact(hs.2 b (lt b o q)).trans (I.base.keep b o q n hb hx)
 .obtain⟨sl,e1⟩:=I.base.slot b o q n hb hx;exact⟨sl,(hs.2 b (lt b o q)).trans e1⟩
 .obtain⟨o',e1⟩:=I.base.there b o q hx;exact⟨o',(hs.2 b (lt b o q)).trans e1⟩
 .by_cases hj:i=j
  .subst hj;have:=Gp e2;cases this
  .rw[BQ hj]at e2;obtain⟨u',r',q⟩:=hl j y v' e1 e2 e3;refine⟨u',r',?_⟩;rcases q with ⟨k,e⟩|⟨k,c,e,z⟩
   .refine .inl ⟨k,?_⟩;have:y≠n:=λe=>hj (OD hN hi (e ▸ e1))
    simp[this,e]
   .exact .inr ⟨k,c,e,z.sameBut hs (I.cne y c e)⟩
 .obtain⟨w',z⟩:=I.cell y c q;exact⟨w',z.sameBut hs (I.cne y c q)⟩
 .obtain⟨q,n,ne,nf,d⟩:=I.pin p hp;exact⟨(hs.2 p.1 ne).trans q,n,ne,nf,d⟩
 .refine(I.hok b ob q).stay (λc w' hc z=>(hs.2 c ?_).trans z) (λ_ q=>q) λ_ _ q=>q
  rintro rfl;have hfree:=I.free;rcases hc with z|hc
  .rw[<-z,hfree]at q;cases q
  .rw[hfree]at hc;cases hc
end
noncomputable def Cx.hot(X:Cx)(e:Ak):Cx:={X with A:=X.A.mark (Aa (.ref e)),calm:=Ad,xe:=λ_ _=>AW}
section
variable{X:Cx}{pI:Pn}{Y:L2.St}{H:Hp}{s:Ap}{e:Ak}
theorem lW(ok:X.Ok):(Cx.hot X e).Ok:=⟨ok.mod,ok.kind,ok.glob,ok.blt,ok.above,ok.inj,ok.has,ok.cab,λz=>(nomatch z),ok.frames,ok.stk,ok.exf,ok.bs,ok.bsz,ok.noex,ok.exfs,ok.funs,ok.frf⟩
theorem SD(I:Inv X pI Y H s)(e:Ak):Inv (Cx.hot X e) pI Y H s:=⟨lW I.ok,I.os,I.bare,I.base,I.loc,I.cell,I.free,I.freeC,I.pin,I.hok,I.len⟩
theorem bL(ok:X.Ok)(I:Inv (Cx.hot X e) pI Y H s):Inv X pI Y H s:=⟨ok,I.os,I.bare,I.base,I.loc,I.cell,I.free,I.freeC,I.pin,I.hok,I.len⟩
theorem Sx.unset(x:Sx K CL Fz B U Y H)(i:Af):Sx K CL Fz B (U.set i Ae) (Y.set i Ae) H:=by
 have get:∀(j:Af)(y:D×Am),(U.set i Ae)[j]?=Aa (Aa y)->i≠j/\U[j]?=Aa (Aa y):=λj y h=>by
  by_cases hj:i=j
  .subst hj;have:=Gp h;cases this
  .exact⟨hj,by rw[BQ hj]at h;exact h⟩
 have sub:∀ a,Bq B (U.set i Ae) (Y.set i Ae) a->Bq B U Y a:=λa h=>by
  rcases h with h|⟨j,d,h1,h2⟩
  .exact .inl h
  .obtain⟨hj,h1⟩:=get j _ h1;rw[BQ hj]at h2;exact .inr ⟨j,d,h1,h2⟩
 refine⟨⟨λj d h=>?_,λj d h hn=>?_,by rw[AV,AV];exact x.len⟩,λa h=>x.aok a (sub a h),λj d a h1 h2=>?_,λj k d f a h1 h2 h3 h4=>?_,x.same,by rw[AV,AV];exact x.len,λj h=>?_⟩
 .obtain⟨hj,h1⟩:=get j _ h;obtain⟨v,q,r⟩:=x.good.sh j d h1;exact⟨v,by rw[BQ hj];exact q,Rep.sub sub _ r⟩
 .obtain⟨hj,h1⟩:=get j _ h;obtain⟨a,xs,ds,q,z,ha,hh,rr⟩:=x.good.ow j d h1 hn;exact⟨a,xs,ds,by rw[BQ hj];exact q,z,.inr ⟨j,d,h,by rw[BQ hj];exact q⟩,hh,Reps.sub sub _ rr⟩
 .obtain⟨hj,h1⟩:=get j _ h1;rw[BQ hj]at h2;exact x.new j d a h1 h2
 .obtain⟨hj,h1⟩:=get j _ h1;obtain⟨hk,h2⟩:=get k _ h2;rw[BQ hj]at h3;rw[BQ hk]at h4;exact x.dis j k d f a h1 h2 h3 h4
 .obtain⟨hj,h1⟩:=get j _ h;obtain⟨a,xs,p1,p2,p3⟩:=x.pin j h1;exact⟨a,xs,p1,by rw[BQ hj];exact p2,p3⟩
end
def IV(e C:Ak)(dx:Ao Ak)(h:AG):Prop:=∃ o,h.get? e=Aa o/\o.cls=.ref C/\o.dict=dx/\∃ us,o.data=.fields us
noncomputable def J6(X:Cx)(CL:ClA)(pI:Pn)(Y:L2.St)(H:Hp)(y:Ex)(Xw:Vq):Prop:=
 ∀ s' H' e T cls dx,Inv X pI Y H' s'->Az H H'->Fly e T cls dx s'.heap->H' e=Ae->H' T=Ae->F7 X pI e->F7 X pI T->Fe X.K CL H' cls dx y->Xw (.ref e) s'
def STB(X:Cx)(CL:ClA)(body:Ac AJ)(f:Rho->O):Prop:=∀ Fz B pI s Y H D U (Xw:Vq),DX (model X.prog X.w) X.A X.env Xw->Inv X pI Y H s->Sx X.K CL Fz B U Y H ->
  (match f U with
   |.exn y U'=>U'=U->J6 X CL pI Y H y Xw
   | o=>Bx X.K CL Fz B (λ_ _=>AW) o D)->(∀ y U',f U=.exn y U'->U'=U)->Av (model X.prog X.w) X.A (execs body X.env) (SP X pI D) Xw s
noncomputable def Vs(up:Af->Ac Af)(c i:Af)(o:O)(fh:Rho->O):O:=match o with
  | .exn y U'=>if (up y.c).contains c=Ab then (match fh (U'.set i (Aa (.exc y.c y.fs,Ad))) with
      |.next U''=>.next (U''.set i Ae)
      |.ret d f=>.ret d f
      | _=>.bad) else .bad
  |o=>o
theorem iU{i:Af}{g n:Ag}{hp:AD}{fh:Rho->O}{b:Am}{rest:Ac E1}{s1:Ap}{U':Rho}{D:Ends}{e T1:Ak}{y:Ex}(hx:X.ex=[])(hN:X.N.Nodup)(hi:X.N[i]?=Aa n)(hl:X.env.scope.names.lookup n=Aa .local)(hg:Gl X g)(hm:X.mg g=Aa (.ref C'))(hdb:(g==("__debug__" : Ag))=Ad)(xc:XcOk X.K C')(hsu:BF X.K (.ref C) (.ref C')=Aa b)(hh:∀ e,SSs (Cx.hot X e) CL (λ_ _=>AW) (h0::hs) fh)(I1:Inv X pI Y H' s1)(fl1:Fly e T1 (.ref C) dx s1.heap)(ae:F7 X pI e)(aT1:F7 X pI T1)(he:H' e=Ae)(HT1:H' T1=Ae)(gx:Sx X.K CL Fz B U' Y H')(hcl:CL y.c=Aa C)(xr:Fe X.K CL H' (.ref C) dx y)(p2:b=Ab->Bx X.K CL Fz B W (hdO i y U' fh) D)(p3:b=Ad->Av (model X.prog X.w) X.A (JM (.ref e) X.env rest) (SP X pI D) X.xe s1):Av (model X.prog X.w) X.A (JM (.ref e) X.env (.ExceptHandler (Aa (.Name g p1)) (Aa n) (h0::hs) hp::rest)) (SP X pI D) X.xe s1:=by
 obtain⟨Cx0,hcl0,ecl,hfs⟩:=xr (Bq B U' Y) gx.aok;have xat:∀{h:AG}{T:Ak},Fly e T (.ref C) dx h->XAt e C h:=λ{h T} z=>by
  obtain⟨oe,_,_,_,_,z1,z2,_⟩:=z;exact⟨oe,z1,z2⟩
 have xad:∀{h:AG}{T:Ak},Fly e T (.ref C) dx h->IV e C dx h:=λ{h T} z=>by
  obtain⟨oe,vs,_,_,_,z1,z2,z3,_,z4,_⟩:=z;exact⟨oe,z1,z2,z3,vs,z4⟩
 have two:∀{T:Ak}{Z_:Ak->Prop},Z_ e->Z_ T->∀ b∈[e,T],Z_ b:=λ{T Z_} h1 h2 b hb=>by
  rcases AI.mp hb with rfl|hb
  .exact h1
  .rw[Bf.mp hb];exact h2
 refine wpAny_handleBy_cons (codeAny_handlers_test (HW (X:=Cx.hot X e) (SD I1 e) hg hm ?_ hdb)) (by intro q;cases q)
 refine Z_2 (K:=X.K) I1.kIn (xat fl1) xc hsu ?_;cases b with
 |false=>exact p3 rfl
 |true=>
 have p2:=p2 rfl;refine codeAny_handlers_suite_as ?_;refine ZB (base:=X.base) (l:=X.stack) I1.stack fl1 λh3 T3 fl3 sh3 hT3=>?_
 have I3:=Rl I1 hx sh3 (two ae aT1) (two (Z_:=λb=>H' b=Ae) he HT1)
 obtain⟨oe,oeg,oec⟩:=xad fl3;have I3':=Rj (φ:=IV e C dx) I3 hx ae he ⟨oe,oeg⟩ ⟨oe,oeg,oec⟩ λh1 h2 ⟨o,q1,q2⟩ k=>⟨o,k o q1,q2⟩
 have sm3:Az H' (upd H' e (.ext (IV e C dx))):=λb o q=>by rw[Bj λz=>by rw[z,he]at q;cases q];exact q
 refine OH (X:=Cx.hot X e) (i:=i) (v:=.ref e) (SD I3' e) hN hi (.inl hl) rfl (λs4 I4=>?_) (.inr hl)
 have x3:=gx.grow sm3;have nA:¬ Bq B U' Y e:=λz=>by
  obtain⟨xs,q⟩:=x3.aok e z;rw[DJ]at q;cases q
 have rp:Rep X.K CL (upd H' e (.ext (IV e C dx))) (Bq B U' Y) (.ref e) (.exc y.c y.fs):=by
  refine⟨e,C,IV e C dx,rfl,nA,hcl,DJ,λh ⟨o,z1,z2,_⟩=>⟨o,z1,z2⟩,?_⟩
  rcases hfs with z|⟨d,vs,ed,nd,hd,rf⟩
  .exact .inl z
  .exact .inr ⟨d,vs,nd,sm3 _ _ hd,Repf.kp (Kp.of sm3) _ rf,λh ⟨o,z1,_,z3,z4⟩=>⟨o,z1,z3.trans ed,z4⟩⟩
 have x4:=x3.set i rp;have fin:∀{s5:Ap}{Y5:L2.St}{H5:Hp}{Q:DI->Ap->Prop},Inv (Cx.hot X e) pI Y5 H5 s5->(∀ s6,Inv X pI (Y5.set i Ae) H5 s6->Q () s6)->Av (model X.prog X.w) X.A (do bindName X.env n .none;unbindBehindTheSuite X.env n hp) Q X.xe s5:=λ{s5 Y5 H5 Q} I5 k=>by
  have I5':=bL I1.ok I5;obtain⟨m,hn,_⟩:=id I5'.loc;refine wpAny_nameGoes_keeps hl hn (by rw[I1.ok.kind];rfl) λh6 v6 hn6 sb6=>?_
  exact k _ (ZI I5' hN hi hn hn6 sb6)
 refine A9 (hh e Fz B pI s4 _ _ {nx:=λY5 H5=>D.nx (Y5.set i Ae) H5,rt:=D.rt} I4 ⟨_,x4,?_⟩) (λf s5 hf=>?_) λ_ _ z=>A8 z
 .unfold hdO at p2;cases ef:fh (U'.set i (Aa (.exc y.c y.fs,Ad))) with
  |next U''=>rw[ef]at p2;exact λY5 H5 x5=>p2 _ _ (x5.unset i)
  |ret d b=>rw[ef]at p2;exact p2
  |brk _=>rw[ef]at p2;exact p2.elim
  |cont _=>rw[ef]at p2;exact p2.elim
  |exn _ _=>rw[ef]at p2;exact p2.elim
  |bad=>rw[ef]at p2;exact p2.elim
 .cases f with
  |next=>
   obtain⟨Y5,H5,I5,q⟩:=hf;exact fin I5 λs6 I6=>⟨_,H5,I6,q⟩
  |ret u=>
   obtain⟨v,Y5,H5,I5,r,q⟩:=hf;exact fin I5 λs6 I6=>⟨v,_,H5,I6,r,q⟩
  |brk=>obtain⟨_,_,_,q⟩:=hf;exact A8 q
  |cont=>obtain⟨_,_,_,q⟩:=hf;exact A8 q
def VA(X:Cx)(CL:ClA)(up:Af->Ac Af)(g:Ag)(c:Af):Prop:=∃ C',Gl X g/\X.mg g=Aa (.ref C')/\(g==("__debug__" : Ag))=Ad/\XcOk X.K C'/\∀ c' C,CL c'=Aa C->BF X.K (.ref C) (.ref C')=Aa ((up c').contains c)
theorem Z_5{y:Ex}{Q:Flow->Ap->Prop}{hd:Ac E1}(hx:X.ex=[])(hst:X.stack=X.env::X.outer)(hfm:X.env.frame=Aa X.env.locals)(k:∀ e T1 cls dx H' s1,Inv X pI Y H' s1->Az H H'->Fly e T1 cls dx s1.heap->F7 X pI e->F7 X pI T1->H' e=Ae->H' T1=Ae->Fe X.K CL H' cls dx y->Av (model X.prog X.w) X.A (JM (.ref e) X.env hd) Q X.xe s1):J6 X CL pI Y H y (λev s1=>Av (model X.prog X.w) X.A (DY ev X.env) (λ_ s2=>Av (model X.prog X.w) X.A (Gc ev Ae) (λ_ s3=>Av (model X.prog X.w) X.A (JM ev X.env hd) Q X.xe s3) X.xe s2) X.xe s1):=by
 intro s' H' e T cls dx I' sm fl he hT ae aT xr;have two:∀{T:Ak}{Z_:Ak->Prop},Z_ e->Z_ T->∀ b∈[e,T],Z_ b:=λ{T Z_} h1 h2 b hb=>by
  rcases AI.mp hb with rfl|hb
  .exact h1
  .rw[Bf.mp hb];exact h2
 have hfr:X.A.frames=Aa (X.env::X.outer):=by rw[<-hst];exact I'.ok.frames
 refine aQ (base:=X.base) hfr hfm (by rw[<-hst];exact I'.stack) fl λh1 T1 fl1 sh1 hT1=>?_
 rw[<-hst]at sh1;exact k e T1 cls dx H' _ (Rl I' hx sh1 (two ae aT) (two (Z_:=λb=>H' b=Ae) he hT)) sm fl1 ae (hT1.elim (λz=>z ▸ aT) λz=>JR I' hx z) he (hT1.elim (λz=>z ▸ hT) λz=>HS I'.hok z) xr
theorem kA{c i:Af}{g n:Ag}{hp:AD}{fb fh:Rho->O}(hx:X.ex=[])(hst:X.stack=X.env::X.outer)(hfm:X.env.frame=Aa X.env.locals)(hN:X.N.Nodup)(hi:X.N[i]?=Aa n)(hl:X.env.scope.names.lookup n=Aa .local)(h1:VA X CL up g c)(hb:STB X CL body fb)(hρ:∀ U y U',fb U=.exn y U'->U'=U)(hh:∀ e,SSs (Cx.hot X e) CL (λ_ _=>AW) (h0::hs) fh):SS X CL W (.Try body [.ExceptHandler (Aa (.Name g p1)) (Aa n) (h0::hs) hp] [] [] pos) (λU=>Vs up c i (fb U) fh):=λFz B pI s Y H D I ⟨U,x,p⟩=>by
 refine wpAny_Try_except (A9 (hb Fz B pI s Y H D U _ PassesOwn.looking I x ?_ (hρ U)) (λf s1 hf=>?_) λ_ _ z=>z)
 .dsimp only at p;cases eb:fb U with
  |exn y U'=>
   rw[eb]at p;intro e0;subst e0;have p2:Bx X.K CL Fz B W (if (up y.c).contains c=Ab then hdO i y U' fh else .bad) D:=p
   refine Z_5 hx hst hfm λe T1 cls dx H' s1 I1 sm fl1 ae aT1 he HT1 xr=>?_
   have gx:=x.grow sm;obtain⟨C,hcl,rfl,_⟩:=xr (Bq B U' Y) gx.aok;obtain⟨C',hg,hm,hdb,xc,hup⟩:=h1;refine iU (W:=W) hx hN hi hl hg hm hdb xc (hup y.c C hcl) hh I1 fl1 ae aT1 he HT1 gx hcl xr (λhc=>?_) (λhc=>?_)
   .rw[At hc]at p2;exact p2
   .rw[AC (by rw[hc];exact Ay)]at p2;exact p2.elim
  |next U'=>rw[eb]at p;exact p
  |ret d b=>rw[eb]at p;exact p
  |brk U'=>rw[eb]at p;exact p
  |cont U'=>rw[eb]at p;exact p
  |bad=>rw[eb]at p;exact p.elim
 .cases f with
  |next=>exact Eo hf
  |ret u=>exact hf
  |brk=>exact hf
  |cont=>exact hf
theorem Ru{f:Ak}{sp:Sp}{E:XK}{e:An}{es:Ac An}{t:TA}(F:FnOk X.prog X.w X.K X.mg X.base CX k f fd ps sp)(hr:Room k X.A)(hg:Gl X x)(hm:X.mg x=Aa (.ref f))(hk:Bi X.K (.ref f)=Ab)(hb:EK X.K fd ps [])(hx:∀ pI H s e s',Inv X pI Y0 H s->CX X.stack H s E e s'->X.xe e s')(ha:PA X (e::es) t)(hdb:(x==("__debug__" : Ag))=Ad)(he:As (e::es) X.env=(Ad,eval e X.env)::As es X.env)(hpl:(BA pos (As es X.env)).any (·.1)=Ad):PE X (.Call (.Name x p) (e::es) [] pos) (λY H Q=>Y=Y0/\t Y H λvs H1=>sp vs H1 Q E):=by
 intro pI s Y H Q I ⟨e0,h⟩;subst e0;refine Di (HW I hg hm ?_ hdb);refine En (h₀:=X.base) I.ok.mod.kin hk (thn (ha pos pI s Y H _ I h) λus s1 ⟨vs,H1,I1,r,q⟩=>⟨I1.kIn,?_⟩) he hpl
 have hl:us.length=ps.length:=by rw[<-r.length];exact F.len _ _ _ _ q
 have hb':GB s1 fd ⟨us,[]⟩ (ps.zip us):=by
  have:=hb s1 us I1.kIn (by rw[CC];exact hl)
  rw[CC]at this;exact this
 refine FC (EH (F.run X.A X.stack s1 H1 ⟨us,[]⟩ us vs Q E hr I1.env0 hb' r q) λr s' hq=>?_)
 cases r with
 |error e=>exact hx pI H1 s1 e s' I1 hq
 |ok fl=>
  cases fl with
  |ret u=>exact I1.after hq
  |next=>exact A8 hq
  |brk=>exact A8 hq
  |cont=>exact A8 hq
def PX(K:Fg)(CL:ClA)(Rp:Hp->V->D->Prop)(E0:XK)(H:Hp)(r:R D)(Q:VK):Prop:=match r with
  |.ok d=>∀ v H',Az H H'->Rp H' v d->Q v H'
  |.exn y=>∀ cls dx H',Az H H'->Fe K CL H' cls dx y->E0 cls dx H'
  |.bad=>AW
theorem Lv{k n:Af}{fr:Am}{f:Ak}{F:Ac D->R D}{e:An}{es:Ac An}{fs ft:Rho->R (Ac D)}{sh:Rho->Am}{E0:XK}(G:FnOk X.prog X.w X.K X.mg X.base CX k f fd ps (spD X.K CL n fr F))(hr:Room k X.A)(hg:Gl X x)(hm:X.mg x=Aa (.ref f))(hk:Bi X.K (.ref f)=Ab)(hb:EK X.K fd ps [])(hx:∀ pI H s e s',Inv X pI Y0 H s->CX X.stack H s E0 e s'->X.xe e s')(ha:SA X CL (λ_ _=>AW) (e::es) fs)(hat:SAT X CL (λ_ _=>AW) (e::es) ft)(hst:∀ U,sh U=Ab->ft U=fs U)(hn:∀ U ds,ft U=.ok ds->ds.length=n)(hnx:∀ U y,ft U≠.exn y)(hdb:(x==("__debug__" : Ag))=Ad)(he:As (e::es) X.env=(Ad,eval e X.env)::As es X.env)(hpl:∀ pos,(BA pos (As es X.env)).any (·.1)=Ad)(A:Ak->Prop):PE X (.Call (.Name x p) (e::es) [] pos) (λY H Q=>Y=Y0/\AOk H A/\∃ U,Good X.K CL A U Y H/\PX X.K CL (DB X.K CL fr H A) E0 H ((ft U).bind λds=>(F ds).bind λd=>if sh U=Ab then .ok d else if FT fr d=Ab then .ok d else .bad) Q):=λpI s Y H Q I ⟨e0,hA,U,gd,q⟩=>by
 by_cases hs:sh U=Ab
 .rw[hst U hs]at q;refine Ru G hr hg hm hk hb hx (ha A) hdb he (hpl _) pI s Y H Q I ⟨e0,hA,U,gd,?_⟩;cases e1:fs U with
  |bad=>rw[e1]at q;exact q
  |exn y=>exact absurd (by rw[hst U hs];exact e1) (hnx U y)
  |ok ds=>
   rw[e1]at q;intro vs H1 s1 r1;refine⟨ds,A,by rw[r1.length];exact hn U ds (by rw[hst U hs];exact e1),hA.same s1,r1,?_⟩
   have q':PX X.K CL (DB X.K CL fr H A) E0 H ((F ds).bind λd=>if sh U=Ab then .ok d else if FT fr d=Ab then .ok d else .bad) Q:=q
   cases e2:F ds with
   |ok d=>
    rw[e2,R.bind_ok,At hs]at q';exact λv H2 s2 r2=>q' v H2 (s1.trans s2) ⟨r2.1,λz ds' e'=>let ⟨a,xs,z1,z2,z3⟩:=r2.2 z ds' e';⟨a,xs,z1,s1.free z2,z3⟩⟩
   |exn y=>
    rw[e2]at q';exact λcls dx H2 s2 xr=>q' cls dx H2 (s1.trans s2) xr
   |bad=>rw[e2]at q';exact q'.elim
 .refine Ru G hr hg hm hk hb hx (hat A) hdb he (hpl _) pI s Y H Q I ⟨e0,hA,U,gd,?_⟩;cases e1:ft U with
  |bad=>rw[e1]at q;exact q
  |exn y=>exact absurd e1 (hnx U y)
  |ok ds=>
   rw[e1]at q;intro vs H1 s1 r1;refine⟨ds,A0,by rw[r1.plain.length];exact hn U ds e1,λ_ z=>z.elim,r1.plain,?_⟩
   have q':PX X.K CL (DB X.K CL fr H A) E0 H ((F ds).bind λd=>if sh U=Ab then .ok d else if FT fr d=Ab then .ok d else .bad) Q:=q
   cases e2:F ds with
   |ok d=>
    rw[e2,R.bind_ok,AC hs]at q';split at q'
    .rename_i hc;exact λv H2 s2 r2=>q' v H2 (s1.trans s2) (Th hA (s1.trans s2) hc ⟨r2.1,λz ds' e'=>let ⟨a,xs,z1,z2,z3⟩:=r2.2 z ds' e';⟨a,xs,z1,s1.free z2,z3⟩⟩)
    .exact q'.elim
   |exn y=>
    rw[e2]at q';exact λcls dx H2 s2 xr=>q' cls dx H2 (s1.trans s2) xr
   |bad=>rw[e2]at q';exact q'.elim
noncomputable def Cx.pw(X:Cx)(pI:Pn)(Xw:Vq):Cx:={X with pn:=X.pn++pI,xe:=Xw}
section
variable{X:Cx}{pI pins':Pn}{Y:L2.St}{H:Hp}{s:Ap}{Xw:Vq}
theorem Ur(ok:X.Ok):(Cx.pw X pI Xw).Ok:=⟨ok.mod,ok.kind,ok.glob,ok.blt,ok.above,ok.inj,ok.has,ok.cab,ok.hd,ok.frames,ok.stk,ok.exf,ok.bs,ok.bsz,ok.noex,ok.exfs,ok.funs,ok.frf⟩
theorem KG(I:Inv X pI Y H s)(Xw:Vq):Inv (Cx.pw X pI Xw) [] Y H s:=⟨Ur I.ok,I.os,I.bare,I.base,I.loc,I.cell,I.free,I.freeC,λp hp=>I.pin p (by
 rcases DC.mp hp with z|z
 .exact z
 .exact absurd z (by simp)),I.hok,I.len⟩
theorem JQ(ok:X.Ok)(I:Inv (Cx.pw X pI Xw) pins' Y H s):Inv X pI Y H s:=⟨ok,I.os,I.bare,I.base,I.loc,I.cell,I.free,I.freeC,λp hp=>I.pin p (EO _ hp),I.hok,I.len⟩
theorem ML(ok:X.Ok){D:Ends}{f:Flow}{s':Ap}(h:SP (Cx.pw X pI Xw) pins' D f s'):SP X pI D f s':=by
 cases f with
 |next=>obtain⟨Y',H',I,q⟩:=h;exact⟨Y',H',JQ ok I,q⟩
 |brk=>obtain⟨Y',H',I,q⟩:=h;exact⟨Y',H',JQ ok I,q⟩
 |cont=>obtain⟨Y',H',I,q⟩:=h;exact⟨Y',H',JQ ok I,q⟩
 |ret u=>obtain⟨v,Y',H',I,r,q⟩:=h;exact⟨v,Y',H',JQ ok I,r,q⟩
end
section
variable{X:Cx}{CL:ClA}{k n:Af}{fr:Am}{f:Ak}{fd:BE}{ps:Ac Ag}{F:Ac D->R D}{x:Ag}{p pos pos2:AD}{e:An}{es:Ac An}{fs ft:Rho->R (Ac D)}{sh:Rho->Am}
theorem R6{y:Ex}(hx:X.ex=[])(ok:X.Ok)(q:J6 X CL pI Y H y Xw):∀ pins' H1 s1 e s',Inv (Cx.pw X pI Xw) pins' Y H1 s1->CXR X.prog X.w (Cx.pw X pI Xw).stack H1 s1 (λcls dx H'=>Fe X.K CL H' cls dx y/\Az H H') e s'->(Cx.pw X pI Xw).xe e s':=by
 intro pins' H1 s1 ev s' J h;obtain⟨e,T,cls,dx,H',rfl,os,bare,un,hok,fl,he,hT,ne,nT,xr,sm⟩:=h;have J':=JQ ok J;have J2:=J'.call' (s':=s') (ch:=[]) os un hok bare (λb z=>absurd z (by simp))
 exact q s' H' e T cls dx J2 sm fl he hT (JR J' hx ne) (JR J' hx nT) xr
theorem R7:∀ pins' H1 s1 e s',Inv (Cx.pw X pI Xw) pins' Y H1 s1->CXR X.prog X.w (Cx.pw X pI Xw).stack H1 s1 (λ_ _ _=>AW) e s'->(Cx.pw X pI Xw).xe e s':=by
 intro pins' H1 s1 ev s' J h;obtain⟨e,T,cls,dx,H',rfl,os,bare,un,hok,fl,he,hT,ne,nT,w⟩:=h;exact w.elim
variable(hx0:X.ex=[])(G:FnOk X.prog X.w X.K X.mg X.base (CXR X.prog X.w) k f fd ps (spD X.K CL n fr F))(hr:Room k X.A)(hg:Gl X x)(hm:X.mg x=Aa (.ref f))
    (hk:Bi X.K (.ref f)=Ab) (hb:EK X.K fd ps []) (hst:∀ U,sh U=Ab->ft U=fs U) (hn:∀ U ds,ft U=.ok ds->ds.length=n) (hnx:∀ U y,ft U≠.exn y)
    (hdb:(x==("__debug__" : Ag))=Ad) (he:As (e::es) X.env=(Ad,eval e X.env)::As es X.env) (hpl:∀ pos,(BA pos (As es X.env)).any (·.1)=Ad)
    (ha:∀ pI Xw,DX (model X.prog X.w) X.A X.env Xw->SA (Cx.pw X pI Xw) CL (λ_ _=>AW) (e::es) fs/\SAT (Cx.pw X pI Xw) CL (λ_ _=>AW) (e::es) ft)
include hx0 G hr hg hm hk hb hst hn hnx hdb he hpl ha
theorem Z_9(hs:CS (.Call (.Name x p) (e::es) [] pos) Ae pos2.line X.env=pure Ad):STB X CL [.Expr (.Call (.Name x p) (e::es) [] pos) pos2] (λU=>O.of U ((ft U).bind λds=>(F ds).bind λd=>if sh U=Ab then .ok d else if FT fr d=Ab then .ok d else .bad) λ_=>.next U):=by
 intro Fz B pI s Y H D U Xw own I sx q _;obtain⟨ha1,ha2⟩:=ha pI Xw own;dsimp only at q;cases er:(ft U).bind λds=>(F ds).bind λd=>if sh U=Ab then .ok d else if FT fr d=Ab then .ok d else .bad with
 |bad=>rw[er]at q;exact q.elim
 |exn y=>
  rw[er]at q;have key:=Lv (X:=Cx.pw X pI Xw) (p:=p) (pos:=pos) (Y0:=Y) (fr:=fr) (F:=F) (n:=n) (sh:=sh) G hr hg hm hk hb (R6 hx0 I.ok (q rfl)) ha1 ha2 hst hn hnx hdb he hpl (Bq B U Y);refine A9 (Kv (LC (pos:=pos2) key hs) [] s Y H D (KG I Xw) ⟨rfl,sx.aok,U,sx.good,?_⟩) (λ_ _ z=>ML I.ok z) λ_ _ z=>z
  rw[er];exact λcls dx H' sm xr=>⟨xr,sm⟩
 |ok d=>
  rw[er]at q;have key:=Lv (X:=Cx.pw X pI Xw) (p:=p) (pos:=pos) (Y0:=Y) (fr:=fr) (F:=F) (n:=n) (sh:=sh) (E0:=λ_ _ _=>AW) G hr hg hm hk hb R7 ha1 ha2 hst hn hnx hdb he hpl (Bq B U Y)
  refine A9 (Kv (LC (pos:=pos2) key hs) [] s Y H D (KG I Xw) ⟨rfl,sx.aok,U,sx.good,?_⟩) (λ_ _ z=>ML I.ok z) λ_ _ z=>z
  rw[er];exact λv H' sm r=>q Y H' (sx.grow sm)
theorem dM{i:Af}{m:Ag}(hN:X.N.Nodup)(hi:X.N[i]?=Aa m)(hl:Loc X.env.scope m)(hf:X.fn m=Ab\/X.env.scope.names.lookup m=Aa .local)(hs:CS (.Call (.Name x p) (e::es) [] pos) (Aa (.Name m pos')) pos2.line X.env=pure Ad):STB X CL [.Assign [.Name m pos'] (.Call (.Name x p) (e::es) [] pos) pos2] (λU=>O.of U ((ft U).bind λds=>(F ds).bind λd=>if sh U=Ab then .ok d else if FT fr d=Ab then .ok d else .bad) λd=>.next (U.set i (Aa (d,Ad)))):=by
 intro Fz B pI s Y H D U Xw own I sx q _;obtain⟨ha1,ha2⟩:=ha pI Xw own;dsimp only at q;cases er:(ft U).bind λds=>(F ds).bind λd=>if sh U=Ab then .ok d else if FT fr d=Ab then .ok d else .bad with
 |bad=>rw[er]at q;exact q.elim
 |exn y=>
  rw[er]at q;have key:=Lv (X:=Cx.pw X pI Xw) (p:=p) (pos:=pos) (Y0:=Y) (fr:=fr) (F:=F) (n:=n) (sh:=sh) G hr hg hm hk hb (R6 hx0 I.ok (q rfl)) ha1 ha2 hst hn hnx hdb he hpl (Bq B U Y);refine A9 (Kv (MY (X:=Cx.pw X pI Xw) (i:=i) (pos:=pos2) hN hi hl key hs hf) [] s Y H D (KG I Xw) ⟨rfl,sx.aok,U,sx.good,?_⟩) (λ_ _ z=>ML I.ok z) λ_ _ z=>z
  rw[er];exact λcls dx H' sm xr=>⟨xr,sm⟩
 |ok d=>
  rw[er]at q;have key:=Lv (X:=Cx.pw X pI Xw) (p:=p) (pos:=pos) (Y0:=Y) (fr:=fr) (F:=F) (n:=n) (sh:=sh) (E0:=λ_ _ _=>AW) G hr hg hm hk hb R7 ha1 ha2 hst hn hnx hdb he hpl (Bq B U Y)
  refine A9 (Kv (MY (X:=Cx.pw X pI Xw) (i:=i) (pos:=pos2) hN hi hl key hs hf) [] s Y H D (KG I Xw) ⟨rfl,sx.aok,U,sx.good,?_⟩) (λ_ _ z=>ML I.ok z) λ_ _ z=>z
  rw[er];exact λv H' sm r=>q _ H' ((sx.grow sm).set i r.1)
end
section
variable{X:Cx}{CL:ClA}{W:XW}
theorem aC{np cpos pos:AD}{e:An}{es:Ac An}{fs:Rho->R (Ac D)}(hcalm:X.calm=Ab)(rz:L8 X CL W)(hg:Gl X g)(hm:X.mg g=Aa (.ref C))(hdb:(g==("__debug__" : Ag))=Ad)(xc:Db X.K C Ae=Ab)(hcl:CL c=Aa C)(ha:SA X CL W (e::es) fs)(hxn:∀ ds,xn c ds=.bad\/xn c ds=.ok ⟨c,[]⟩)(he:As (e::es) X.env=(Ad,eval e X.env)::As es X.env)(hpl:∀ pos,(BA pos (As es X.env)).any (·.1)=Ad)(hz:∀ U ds,fs U=.ok ds->ds.length<=100000):SS X CL W (.Raise (Aa (.Call (.Name g np) (e::es) [] cpos)) Ae pos) (λU=>O.of U (noX (fs U)) λxs=>O.of U (xn c xs) λx=>.exn x U):=λFz B pI s Y H D I ⟨U,x,p⟩=>by
 dsimp only at p;cases e1:fs U with
 |bad=>rw[e1]at p;exact p.elim
 |exn y=>rw[e1]at p;exact p.elim
 |ok ds=>
  rw[e1]at p;have p2:Bx X.K CL Fz B W (O.of U (xn c ds) λx=>.exn x U) D:=p
  rcases hxn ds with e2|e2
  .rw[e2]at p2;exact p2.elim
  .rw[e2]at p2;have p3:∀ H,(∀ b o,Fz b o->H b=Aa o)->W ⟨c,[]⟩ H:=p2;obtain⟨bm,N,nm,qn,bs,hd,sn,sub,ab,col,dd,k0,k1,k2,k3,k5,mN,hob,hni,hbase⟩:=Lq I.kIn xc;refine wpAny_Raise_call_subT (bmB:=veB) (nm:=nm) (q:=qn) (C:=C) (N:=N) (bs:=bs) (bm:=bm) (hdct:=hd) (sn:=sn) (sub:=sub) (ab:=ab) (col:=col) (dd:=dd) (k0:=k0) (k1:=k1) (k2:=k2) (k3:=k3) (k5:=k5) (mN:=mN) C7 hbase (I.ok.hd hcalm) (by rw[he];show (Ad||(BA cpos (As es X.env)).any (·.1))=Ad;rw[hpl];rfl) hni ?_
   refine HW I hg hm ⟨rfl,?_⟩ hdb;have q1:=ha (Bq B U Y) cpos pI s Y H (λvs H1=>Az H H1/\vs.length=ds.length) I ⟨x.aok,U,x.good,by rw[e1];exact λvs H1 s1 r1=>⟨s1,r1.length⟩⟩
   rw[he]at q1 ⊢;refine EQ (A9 q1 (λus s2 ⟨vs,H2,I2,r2,s2',hl⟩=>⟨rfl,?_⟩) λ_ _ z=>z)
   obtain⟨o1,o2,o3⟩:=hob _ I2.kIn;refine⟨?_,o1,o2,o3,λh' ev hmade=>?_⟩
   .rw[<-r2.length,hl,Cj];have:=hz U ds e1;omega
   .obtain⟨t,ge,_⟩:=hmade.there;have I3:Inv X pI Y H2 {s2 with heap:=h'}:=I2.kept (t':=s2.toks) hmade.keeps
    exact rz pI Y H2 _ ev C Ae t ⟨c,[]⟩ I3 (λhx=>HR I2 hx hmade.new) (HS I2.hok hmade.new) ge (λA _=>⟨C,hcl,rfl,.inl rfl⟩) (p3 H2 λb o z=>s2' _ _ (x.same b o z))
def LH(K:Fg)(CL:ClA)(up:Af->Ac Af)(c':Af)(C':Ak):Prop:=∀ c C,CL c=Aa C->BW K (.ref C) (.ref C')=Aa ((up c).contains c')
theorem RF{s:Ap}{a C:Ak}{cv:Aj}{b:Am}{Q:VK}(I:Inv X pI Y H s)(ha:H a=Aa (.ext φ))(hφ:∀ h,φ h->∃ o,h.get? a=Aa o/\o.cls=.ref C)(xc:XcOk X.K C)(e:BW X.K (.ref C) cv=Aa b)(q:Q (.bl b) H):
  Av (model X.prog X.w) X.A (call (.builtin "isinstance") [.ref a,cv]) (EP X pI Y Q) X.xe s:=by
 have p:XAt a C s.heap:=hφ _ (I.hok a _ ha).1;exact Cb (RD xc) I.kIn p e (by intro z;cases z) λtk=>⟨.bl b,H,I.tok tk,rfl,q⟩
theorem Q7:∀(Cs:Ac Ak){its:Ac Aj},A2 (Cs.map V.ref) its->its=Cs.map Bk
 |[],_,rv=>by cases rv;rfl
 |c::cs,_,rv=>by
  cases rv with
  |cons h1 h2=>rw[Q7 cs h2];cases h1;rfl
theorem fG{s:Ap}{a C tp:Ak}{Cs:Ac Ak}{b:Am}{Q:VK}(I:Inv X pI Y H s)(ha:H a=Aa (.ext φ))(hφ:∀ h,φ h->∃ o,h.get? a=Aa o/\o.cls=.ref C)(xc:XcOk X.K C)(ht:H tp=Aa (.tup (Cs.map V.ref)))(e:Ij X.K (.ref C) (Cs.map Bk)=Aa b)(q:Q (.bl b) H):
  Av (model X.prog X.w) X.A (call (.builtin "isinstance") [.ref a,.ref tp]) (EP X pI Y Q) X.xe s:=by
 have p:XAt a C s.heap:=hφ _ (I.hok a _ ha).1;obtain⟨_,its,rv,⟨o,ho,hc,n,hd⟩⟩:=I.hok tp _ ht;have ei:its=Cs.map Bk:=Q7 Cs rv;subst ei;obtain⟨cls,dd,dat,sl⟩:=o;have hc':cls=.type "tuple" := hc;have hd':dat=.seq (EE (Cs.map Bk)) n:=hd;subst hc' hd';exact PySem.W.kia_tup (RD xc) I.kIn p ho e (by intro z;cases z) λtk=>⟨.bl b,H,I.tok tk,rfl,q⟩
theorem Sz{K:Fg}{up:Af->Ac Af}{c:Af}{C:Ak}(h:CL c=Aa C):∀(cs:Ac (Af×Ak)),(∀ p∈cs,LH K CL up p.1 p.2)->Ij K (.ref C) ((cs.map λq:Af×Ak=>q.2).map Bk)=Aa (cs.any λp=>(up c).contains p.1)
  |[],_=>rfl
  |p::cs,hk=>by
    have h1:=hk p AF c C h;have h2:=Sz h cs λq hq=>hk q (Aw _ hq)
    show (match BW K (.ref C) (.ref p.2) with
      |some Ab=>Aa Ab
      |some Ad=>Ij K (.ref C) ((cs.map λq:Af×Ak=>q.2).map Bk)
      | none=>Ae)=_
    rw[h1,GX];cases (up c).contains p.1 with
    |true=>rfl
    |false=>rw[h2];rfl
theorem OE{ks:Ac Ki}{Q:VK}(hk:ks.all Eb=Ab)(hne:ks≠[])(p:AS Rp W H (EA up ks d) Q):∃ c fs,d=.exc c fs/\AS Rp W H (.ok (.bl (ks.any λk=>kiD up k d))) Q:=by
 have ha:ks.any Eb=Ab:=by
  cases ks with
  |nil=>exact absurd rfl hne
  |cons k ks=>simp only[Dm,Al]at hk;simp[GX,hk.1]
 cases d with
 | exc c fs=>exact⟨c,fs,rfl,by
   have p':AS Rp W H (if ks.all Eb=Ab then .ok (.bl (ks.any λk=>kiD up k (.exc c fs))) else .bad) Q:=p
   rw[At hk]at p';exact p'⟩
 |obj c fs=>exact A8 p
 |dic _=>exact A8 p
 |non=>simp only[EA,ha,EM]at p;exact A8 p
 |bl _=>simp only[EA,ha,EM]at p;exact A8 p
 |int _=>simp only[EA,ha,EM]at p;exact A8 p
 |str _=>simp only[EA,ha,EM]at p;exact A8 p
 |tup _=>simp only[EA,ha,EM]at p;exact A8 p
 |lst _=>simp only[EA,ha,EM]at p;exact A8 p
theorem OK{v:V}{fs:Ac (Ag×D)}(r:Cr K CL H A v (.exc c fs)):∃ a C φ,v=.ref a/\CL c=Aa C/\H a=Aa (.ext φ)/\∀ h,φ h->∃ o,h.get? a=Aa o/\o.cls=.ref C:=by
 rcases r with ⟨a,C,φ,e,_,hc,hH,hφ,_⟩|⟨a,xs,ds,_,z,_⟩
 .exact⟨a,C,φ,e,hc,hH,hφ⟩
 .cases z
variable{a:An}{fa:Rho->R D}{up:Af->Ac Af}{x:Ag}{p p2 pos:AD}
theorem Tl{c':Af}(hxc:∀ c C,CL c=Aa C->XcOk X.K C)(hg:Gl X "isinstance")(hm:X.mg "isinstance" = Ae)(hg2:Gl X x)(hm2:X.mg x=Aa (.ref C'))(hkit:LH X.K CL up c' C')(hdb:(x==("__debug__" : Ag))=Ad)(ha:ST X CL W a fa)(he:As [a,.Name x p2] X.env=(Ad,eval a X.env)::As [.Name x p2] X.env):SE X CL W (.Call (.Name "isinstance" p) [a,.Name x p2] [] pos) (λU=>(fa U).bind λx=>EA up [.cls c'] x):=λA=>
 PE.weak (Kn (r:=λxs H Q=>∃ a C φ c,xs=[.ref a,.ref C']/\CL c=Aa C/\H a=Aa (.ext φ)/\(∀ h,φ h->∃ o,h.get? a=Aa o/\o.cls=.ref C)/\Q (.bl ((up c).contains c')) H) (λpI s Y H xs us Q I r ⟨b,C,φ,c,e,hc,hH,hφ,q⟩=>by
   subst e;obtain⟨u,w',rfl,r1,r2⟩:=J3 r;cases r1;cases r2;exact RF I hH hφ (hxc c C hc) (hkit c C hc) q)
  hg hm Fk (DT (ha A) (DT (OM (v:=.ref C') hg2 hm2 rfl hdb) Ft rfl) he) (by decide) (by decide) he rfl) λY H Q ⟨hA,U,g,q⟩=>⟨hA,U,g,AS.bind q λd v H1 _ s1 r1 p1=>by
   obtain⟨c,fs,rfl,p2⟩:=OE (by rfl) (by simp) p1
   obtain⟨b,C,φ,rfl,hc,hH,hφ⟩:=OK r1;refine⟨b,C,φ,c,rfl,hc,hH,hφ,p2 _ H1 (Az.refl H1) ?_⟩;exact congrArg V.bl (Ef _).symm⟩
theorem T6(hxc:∀ c C,CL c=Aa C->XcOk X.K C)(hg:Gl X "isinstance")(hm:X.mg "isinstance" = Ae)(hg2:Gl X "ValueError")(hm2:X.mg "ValueError" = Ae)(ha:ST X CL W a fa)(he:As [a,.Name "ValueError" p2] X.env=(Ad,eval a X.env)::As [.Name "ValueError" p2] X.env):SE X CL W (.Call (.Name "isinstance" p) [a,.Name "ValueError" p2] [] pos) (λU=>(fa U).bind λx=>EA up [.verr] x):=λA=>
 PE.weak (Kn (r:=λxs H Q=>∃ a C φ c,xs=[.ref a,.ty "ValueError"]/\CL c=Aa C/\H a=Aa (.ext φ)/\(∀ h,φ h->∃ o,h.get? a=Aa o/\o.cls=.ref C)/\Q (.bl Ab) H) (λpI s Y H xs us Q I r ⟨b,C,φ,c,e,hc,hH,hφ,q⟩=>by
   subst e;obtain⟨u,w',rfl,r1,r2⟩:=J3 r;cases r1;cases r2;exact RF I hH hφ (hxc c C hc) (hxc c C hc).ve q)
  hg hm Fk (DT (ha A) (DT (SU (v:=.ty "ValueError") hg2 hm2 PyProof.Rows.Boot.«ValueError» rfl (by decide) (by decide)) Ft rfl) he) (by decide) (by decide) he rfl) λY H Q ⟨hA,U,g,q⟩=>⟨hA,U,g,AS.bind q λd v H1 _ s1 r1 p1=>by
   obtain⟨c,fs,rfl,p2⟩:=OE (by rfl) (by simp) p1
   obtain⟨b,C,φ,rfl,hc,hH,hφ⟩:=OK r1;refine⟨b,C,φ,c,rfl,hc,hH,hφ,p2 _ H1 (Az.refl H1) ?_⟩;exact congrArg V.bl (Ef _).symm⟩
theorem iO(up:Af->Ac Af)(c:Af)(fs:Ac (Ag×D))(cs:Ac (Af×Ak)):((cs.map λq=>Ki.cls q.1).any λk=>kiD up k (.exc c fs))=cs.any λq=>(up c).contains q.1:=Gd
def U_9(Cs:Ac Ak):TA:=λ_ H Q=>Q (Cs.map V.ref) H
theorem jO{ts:Ac An}{cs:Ac (Af×Ak)}(hxc:∀ c C,CL c=Aa C->XcOk X.K C)(hg:Gl X "isinstance")(hm:X.mg "isinstance" = Ae)(hts:PA X ts (U_9 (cs.map λq:Af×Ak=>q.2)))(hne:cs≠[])(hl:cs.length<=1000)(hkit:∀ q∈cs,LH X.K CL up q.1 q.2)(ha:ST X CL W a fa)(he:As [a,.Tuple ts kk p2] X.env=(Ad,eval a X.env)::As [.Tuple ts kk p2] X.env):SE X CL W (.Call (.Name "isinstance" p) [a,.Tuple ts kk p2] [] pos) (λU=>(fa U).bind λx=>EA up (cs.map λq=>.cls q.1) x):=λA=>
 PE.weak (Kn (r:=λxs H Q=>∃ a C φ c tp,xs=[.ref a,.ref tp]/\CL c=Aa C/\H a=Aa (.ext φ)/\(∀ h,φ h->∃ o,h.get? a=Aa o/\o.cls=.ref C)/\H tp=Aa (.tup ((cs.map λq:Af×Ak=>q.2).map V.ref))/\Q (.bl (cs.any λq=>(up c).contains q.1)) H) (λpI s Y H xs us Q I r ⟨b,C,φ,c,tp,e,hc,hH,hφ,ht,q⟩=>by
   subst e;obtain⟨u,w',rfl,r1,r2⟩:=J3 r;cases r1;cases r2;exact fG I hH hφ (hxc c C hc) ht (Sz hc cs hkit) q)
  hg hm Fk (DT (ha A) (DT (Tw hts) Ft rfl) he) (by decide) (by decide) he rfl) λY H Q ⟨hA,U,g,q⟩=>⟨hA,U,g,AS.bind q λd v H1 _ s1 r1 p1=>by
   have hk:(cs.map λq=>Ki.cls q.1).all Eb=Ab:=by simp[D3,Eb]
   obtain⟨c,fs,rfl,p2⟩:=OE hk (by simpa using hne) p1
   obtain⟨b,C,φ,rfl,hc,hH,hφ⟩:=OK r1;refine⟨by rw[Bo,Bo,Cj];omega,λt ht=>?_⟩
   have hbt:b≠t:=FO hH ht;refine⟨b,C,φ,c,t,rfl,hc,by rw[Bj hbt];exact hH,hφ,DJ,p2 _ _ (ET ht _) ?_⟩
   exact congrArg V.bl (iO up c fs cs).symm⟩
end
theorem Pk(q:Db K C v=Ab):∃ dd cd sl bm,K.lookup C=Aa ⟨.type "type",dd,.cls cd,sl⟩/\cd.mro=.ref C::bm:=by
 unfold Db at q;split at q
 .rename_i dd cd sl ho;split at q
  .rename_i C' bm k0 k1 k2 k3 n k5 hm hs;simp only[Al,AH,Bs]at q;obtain⟨rfl,_⟩:=q;exact⟨dd,cd,sl,bm,ho,hm⟩
  .cases q
 .cases q
theorem MC(q:Db K C v=Ab):∃ cd bm,Dp K C=Aa cd/\cd.mro=.ref C::bm:=by
 obtain⟨dd,cd,sl,bm,h1,h2⟩:=Pk q;exact⟨cd,bm,by unfold Dp;rw[h1],h2⟩
theorem Td(q:Db K C v=Ab):Dh K (.ref C)=Aa (.type "type"):=by
 obtain⟨dd,cd,sl,bm,h1,h2⟩:=Pk q;show (K.lookup C).map _=_;rw[h1];rfl
theorem fX{v:Am}{i i':Ao Aj}(q:Db K C i=Ab)(q':Db K C' i'=Ab)(su:BF K (.ref C) (.ref C')=Aa v):BW K (.ref C) (.ref C')=Aa v:=by
 unfold BW;by_cases e:C=C'
 .subst e;obtain⟨cd,bm,h1,h2⟩:=MC q;have su':B7 K C (.ref C)=Aa v:=su;have:v=Ab:=by
   unfold B7 at su';rw[h1,Wn,h2,AC (by simp)]at su'
   rw[<-Bl su'];simp
  rw[At (by simp),this]
 .rw[AC (λz=>e (IY (AH.mp z)))]
  obtain⟨cd,bm,h1,h2⟩:=MC q';show (if ((Dp K C').isSome&&Dh K (.ref C')==Aa (.type "type"))=Ab then BF K (.ref C) (.ref C') else Ae)=_
  rw[h1,Td q',At (by simp),su]
theorem pX(exc:Db K C v=Ab)(ga:Ar K (.ref C) "__getattribute__" = Aa (Aa (.builtin "BaseException.__getattribute__")))(gt:Ar K (.ref C) "__getattr__" = Aa Ae)(cl:Ar K (.ref C) "__class__" = Aa (Aa (.builtin "object.__class__")))(ob:B7 K C (.type "object")=Aa Ab)(be:BF K (.ref C) (.type "BaseException")=Aa Ab)(sv:BF K (.ref C) (.type "ValueError")=Aa Ab):XcOk K C:=by
 obtain⟨cd,bm,h1,h2⟩:=MC exc;refine⟨⟨v,exc⟩,ga,gt,cl,ob,be,by rw[h1];rfl,?_⟩
 unfold BW;rw[AC (λz=>by cases AH.mp z)]
 have hm:X1 "ValueError" = Ab:=by decide+kernel
 show (if X1 "ValueError" = Ab then BF K (.ref C) (.type "ValueError") else Ae)=_
 rw[At hm,sv]
noncomputable abbrev Nz:CXT:=λ_ _ _ _ _ _=>AW
structure HotOk (P:AM) (w:AA) (K:Fg) (mg:Ag->Ao Aj) (base:AG) (k:Af) (f:Ak) (fd:BE) (ps:Ac Ag) (sp:Sp):Prop where
 len:∀ vs H Q E,sp vs H Q E->vs.length=ps.length
 run:∀(A:AU)(ev:Ak)(outer:Ac Ci)(s:Ap)(H:Hp)(args:Args)(us:Ac Aj)(vs:Ac V)(Q:VK)(E:XK),Room k A->Env0 P w K mg base (A.mark (Aa (.ref ev))) outer s H->GB s fd args (ps.zip us)->A2 vs us->sp vs H Q E ->
  EG (model P w) (A.mark (Aa (.ref ev))) (.call (.ref f) args) (CR Nz outer P w H s Q E) s
theorem bG{v:Am}{i:Ao Aj}(q:Db K C i=Ab)(mr:B7 K C' (.type "object")=Aa Ab)(ty:Dh K (.ref C')=Aa (.type "type"))(su:BF K (.ref C) (.ref C')=Aa v):BW K (.ref C) (.ref C')=Aa v:=by
 unfold BW;by_cases e:C=C'
 .subst e;obtain⟨cd,bm,h1,h2⟩:=MC q;have su':B7 K C (.ref C)=Aa v:=su;have:v=Ab:=by
   unfold B7 at su';rw[h1,Wn,h2,AC (by simp)]at su'
   rw[<-Bl su'];simp
  rw[At (by simp),this]
 .rw[AC (λz=>e (IY (AH.mp z)))]
  show (if ((Dp K C').isSome&&Dh K (.ref C')==Aa (.type "type"))=Ab then BF K (.ref C) (.ref C') else Ae)=_
  have cs:(Dp K C').isSome=Ab:=by
   unfold B7 at mr;cases e1:Dp K C' with
   |none=>rw[e1]at mr;cases mr
   |some cd=>rfl
  rw[cs,ty,At (by simp),su]
def spH(K:Fg)(CL:ClA)(n:Af)(fr:Am)(F:Ac D->R D):Sp:=λvs H Q _=>∃(ds:Ac D)(A:Ak->Prop),vs.length=n/\AOk H A/\Reps K CL H A vs ds/\(match F ds with
  |.ok d=>∀ v H',Az H H'->DB K CL fr H A H' v d->Q v H'
  |.exn _=>AW
  | .bad=>AW)
section
variable{X:Cx}{CL:ClA}{ev:Ak}
theorem dL{t:An}{xs ys:Ac AJ}{fc:Rho->R Am}{fx fy:Rho->O}(hc:∀ pI Xw,DX (model X.prog X.w) X.A X.env Xw->SB (Cx.pw X pI Xw) CL (λ_ _=>AW) t fc)(hnx:∀ U y,fc U≠.exn y)(hx:STB X CL xs fx)(hy:STB X CL ys fy):STB X CL [.If t xs ys pos] (λU=>O.of U (fc U) λb=>if b=Ab then fx U else fy U):=by
  intro Fz B pI s Y H D U Xw own I sx q hρ;dsimp only at q hρ;cases ec:fc U with
  |bad=>rw[ec]at q;exact q.elim
  |exn y=>exact absurd ec (hnx U y)
  |ok b=>
    rw[ec]at q hρ;have key:=hc pI Xw own (Bq B U Y) [] s Y H (λb' H'=>b'=b/\Az H H') (KG I Xw) ⟨sx.aok,U,sx.good,by rw[ec];exact λH' sm=>⟨rfl,sm⟩⟩
    refine Hr (thn (wpAny_If (Q:=SP X pI D) (thn key λb' s1 ⟨H1,I1,e,sm⟩=>?_)) (λf s1 z=>by
      cases f with
      |next=>exact Eo z
      |ret v=>exact z
      |brk=>exact z
      | cont=>exact z))
    subst e;have J:=JQ I.ok I1;have up:∀{y:Ex},J6 X CL pI Y H y Xw->J6 X CL pI Y H1 y Xw:=λ{y} w s' H' e T cls dx a1 a2=>w s' H' e T cls dx a1 (sm.trans a2)
    have lift:∀{o:O},(match o with
       |.exn y U'=>U'=U->J6 X CL pI Y H y Xw
       |o=>Bx X.K CL Fz B (λ_ _=>AW) o D)->(match o with
       |.exn y U'=>U'=U->J6 X CL pI Y H1 y Xw
       | o=>Bx X.K CL Fz B (λ_ _=>AW) o D):=λ{o} z=>by
      cases o with
      |exn y U'=>exact λe=>up (z e)
      |next _=>exact z
      |ret _ _=>exact z
      |brk _=>exact z
      |cont _=>exact z
      |bad=>exact z
    cases b' with
    |true=>exact hx Fz B pI s1 Y H1 D U Xw own J (sx.grow sm) (lift q) hρ
    |false=>exact hy Fz B pI s1 Y H1 D U Xw own J (sx.grow sm) (lift q) hρ
end
section
variable{M:Gi}{A:AU}{E:Vq}{s:Ap}{env:Ci}{nm q:Ag}{C N:Ak}{bs bm bmB:Ac Aj}{hdct:Am}{sn:Ac Ag}{sub:Ac Aj}{ab:Am}{col:Ao Am}{dd:Ao Ak}{k0 k1 k2 k3 k5:Ao Aj}{B newId initId:CZ}
theorem cX{x:FJ Aj}{Q:Flow->Ap->Prop}(hb:bm.contains (.type "BaseException")=Ab)(hh:A.handled=Ae)(h:Av M A x (λv s'=>∃ e t dx,v=.ref e/\s'.heap.get? C=Aa (BV nm q C N bs bm hdct sn sub ab col dd k0 k1 k2 k3 k5 newId)/\s'.heap.get? e=Aa (F5 C dx t)/\E (.ref e) s') E s):Av M A (raiseStmt env (Aa x) Ae) Q E s:=by
 have hB:(Bk C::bm).contains (.type "BaseException")=Ab:=by rw[GO,hb,Jb]
 unfold raiseStmt;refine Aq (A9 h (λv s' z=>?_) λ_ _ z=>z)
 obtain⟨e,t,dx,rfl,gC,ge,hE⟩:=z;obtain⟨hp,g,d,tk,os⟩:=s';unfold F5 at ge
 repeat (first|(with_reducible refine B5 ge ?_)|(with_reducible refine B5 gC ?_)|(with_reducible refine E9 gC ?_;rw[hB])|wp_step)
 exact wpAny_raiseNew_none hh hE
end
section
variable{prog:AM}{w:AA}{A:AU}{E:Vq}{h:AG}{g:Bg Et}{d:HI}{t:Af}{os:Hb}
variable{nm q:Ag}{C N fI:Ak}{bs bm bmB:Ac Aj}{hdct:Am}{sn:Ac Ag}{sub:Ac Aj}{ab:Am}{col:Ao Am}{dd:Ao Ak}{k0 k1 k2 k3 k5:Ao Aj}{B newId initId:CZ}{mN:Ag->Ao Aj}{rest:Ac Aj}{oI:C9}
theorem eK{Q:Fin->Ap->Prop}(F:Hl B newId initId bmB)(T:DD h bmB bm)(gC:h.get? C=Aa (BV nm q C N bs bm hdct sn sub ab col dd k0 k1 k2 k3 k5 newId))(hn:h.Ns N mN)(hi:mN "__init__" = Aa (.ref fI))(gI:h.get? fI=Aa oI)(cI:oI.cls=.type "function")(hl:rest.length<=sizeLine)(hq:∀ h' e,Ii h h' e (.ref C) rest->Av (model prog w) A (call (.ref fI) (.ref e::rest)) (λr s'=>r=.none/\Q (.done (.ret (.ref e))) s') E ⟨h',g,d,t,os⟩):Av (model prog w) A (Builtin.«type.__call__» ⟨.ref C::rest,[]⟩) Q E ⟨h,g,d,t,os⟩:=by
 repeat (first|(with_reducible refine B5 gC ?_)|(with_reducible refine wpAny_madeBy_exc gC ?_)|wp_step)
 refine codeAny_call_builtin_code (GQ _ F.quiet) (wpAny_check_new_subT F T gC (codeAny_exc_new_subT F T gC ?_ hl));show Av _ _ _ _ _ _;have kp:∀ b o,h.get? b=Aa o->((h.push { cls:=.type "tuple",data:=.seq rest.toArray }).push {cls:=.ref C,data:=.fields #[.ref h.objs.size,.none,.none,.none,.bool Ad,.none]}).get? b=Aa o:=λb o z=>Au _ (Au _ z)
 have ge:((h.push { cls:=.type "tuple",data:=.seq rest.toArray }).push {cls:=.ref C,data:=.fields #[.ref h.objs.size,.none,.none,.none,.bool Ad,.none]}).get? (h.objs.size+1)=Aa {cls:=.ref C,data:=.fields #[.ref h.objs.size,.none,.none,.none,.bool Ad,.none]}:=by heap_get
 have gt:((h.push { cls:=.type "tuple",data:=.seq rest.toArray }).push {cls:=.ref C,data:=.fields #[.ref h.objs.size,.none,.none,.none,.bool Ad,.none]}).get? h.objs.size=Aa { cls:=.type "tuple",data:=.seq rest.toArray }:=Au _ (Xk rfl rfl);generalize (h.push { cls:=.type "tuple",data:=.seq rest.toArray }).push {cls:=.ref C,data:=.fields #[.ref h.objs.size,.none,.none,.none,.bool Ad,.none]}=h2 at *;have gC2:=kp _ _ gC;have gI2:=kp _ _ gI;have hn2:h2.Ns N mN:=let ⟨o,es,ep,z,r⟩:=hn;⟨o,es,ep,kp _ _ z,r⟩
 have T2:=T.keeps (h':=h2) kp;have cC:(Bk C::bm).contains (.ref C)=Ab:=by simp
 unfold Iw
 repeat (first|(with_reducible refine B5 ge ?_)|(with_reducible refine E9 gC2 ?_;rw[cC])|wp_step)
 show Av _ _ (typeLookup (.ref C) _) _ _ _;refine wpAny_typeLookup_tail gC2 hn2 T2 F.mroIs F.init.lookup ?_;rw[hi];refine E3 (Aq ?_);unfold bindSpecial;refine Aq (wpAny_typeOf (T := "function") ⟨_,gI2,cI⟩ ?_);rw[At (by decide)]
 refine AT (Aq (A9 (hq h2 (h.objs.size+1) ⟨kp,CJ (JJ _),h.objs.size,ge,CJ (AL _),gt⟩) (λr s' z=>?_) λ_ _ z=>z))
 obtain⟨rfl,z⟩:=z
 wp_walk
 exact z
theorem R0{Q:Vq}(F:Hl B newId initId bmB)(T:DD h bmB bm)(gC:h.get? C=Aa (BV nm q C N bs bm hdct sn sub ab col dd k0 k1 k2 k3 k5 newId))(hn:h.Ns N mN)(hi:mN "__init__" = Aa (.ref fI))(gI:h.get? fI=Aa oI)(cI:oI.cls=.type "function")(hl:rest.length<=sizeLine)(hq:∀ h' e,Ii h h' e (.ref C) rest->Av (model prog w) (A.under (.builtin "type.__call__" ⟨.ref C::rest,[]⟩)) (call (.ref fI) (.ref e::rest)) (λr s'=>r=.none/\Q (.ref e) s') E ⟨h',g,d,t,os⟩):Av (model prog w) A (call (.ref C) rest) Q E ⟨h,g,d,t,os⟩:=by
 have l1:=tc_lookup;have l2:=tc_bind (.ref C);have ty:(⟨h,g,d,t,os⟩:Ap).TypeIs (.ref C) "type" := ⟨_,gC,rfl⟩;refine FC (codeAny_of_tree ?_);show Av _ _ (callAny (.ref C) _) _ _ _
 repeat (any_goals (first|assumption|(with_reducible refine B5 gC ?_)|wp_step))
 refine⟨rfl,codeAny_call_builtin_at (GQ _ (by decide+kernel)) entry_typeCall (wpAny_check_type_call_sub gC (eK F T gC hn hi gI cI hl λh' e m=>?_))⟩
 exact hq h' e m
end
section
variable{prog:AM}{w:AA}{A:AU}{E:Vq}{s:Ap}{env:Ci}
variable{nm q:Ag}{C N fI:Ak}{bs bm bmB:Ac Aj}{hdct:Am}{sn:Ac Ag}{sub:Ac Aj}{ab:Am}{col:Ao Am}{dd:Ao Ak}{k0 k1 k2 k3 k5:Ao Aj}{B newId initId:CZ}{mN:Ag->Ao Aj}
theorem ZY{Q:Flow->Ap->Prop}{np cpos pos:AD}{args:Ac An}(F:Hl B newId initId bmB)(hb:bm.contains (.type "BaseException")=Ab)(hh:A.handled=Ae)(hp:(BA cpos (As args env)).any (·.1)=Ad)(hi:mN "__init__" = Aa (.ref fI))(h:Av (model prog w) A (eval (.Name x np) env) (λf s1=>f=.ref C/\Av (model prog w) A (evalArgs (.ref C) Ab (BA cpos (As args env)) [])
   (λa s2=>a.kw=[]/\a.pos.length<=sizeLine/\s2.heap.get? C=Aa (BV nm q C N bs bm hdct sn sub ab col dd k0 k1 k2 k3 k5 newId)/\s2.heap.Ns N mN/\DD s2.heap bmB bm/\(∃ oI,s2.heap.get? fI=Aa oI/\oI.cls=.type "function") /\
    ∀ h' e,Ii s2.heap h' e (.ref C) a.pos->Av (model prog w) (A.under (.builtin "type.__call__" ⟨.ref C::a.pos,[]⟩)) (call (.ref fI) (.ref e::a.pos)) (λr s'=>r=.none/\∃ t dx,s'.heap.get? C=Aa (BV nm q C N bs bm hdct sn sub ab col dd k0 k1 k2 k3 k5 newId)/\s'.heap.get? e=Aa (F5 C dx t)/\E (.ref e) s') E {s2 with heap:=h'}) E s1) E s):Av (model prog w) A (exec (.Raise (Aa (.Call (.Name x np) args [] cpos)) Ae pos) env) Q E s:=by
 rw[arm_exec_Raise]
 try simp only[evalOpt,Fx]
 refine Aq (Eg (cX (nm:=nm) (q:=q) (C:=C) (N:=N) (bs:=bs) (bm:=bm) (hdct:=hdct) (sn:=sn) (sub:=sub) (ab:=ab) (col:=col) (dd:=dd) (k0:=k0) (k1:=k1) (k2:=k2) (k3:=k3) (k5:=k5) (newId:=newId) hb hh ?_));refine Aq (A9 (wpAny_Call_ofName (A9 h (λf s1 z=>?_) λ_ _ z=>z)) (λv s3 z=>Aq (Eg (AT z))) λ_ _ z=>z)
 obtain⟨rfl,z⟩:=z;unfold callWith;refine Aq (E3 (A9 z (λa s2 y=>Aq (Eg ?_)) λ_ _ y=>y))
 obtain⟨us,kw⟩:=a;obtain⟨hk,hl,gC,hn,T,⟨oI,gI,cI⟩,k⟩:=y;obtain rfl:kw=[]:=hk;obtain⟨hp2,g,d,tk,os⟩:=s2;simp only[hp];refine Aq (wpAny_keeperOf_exc gC (Aq (R0 F T gC hn hi gI cI hl λh' e m=>A9 (k h' e m) (λr s' y=>?_) λ_ _ y=>y)))
 obtain⟨rfl,t,dx,c1,c2,c3⟩:=y;exact⟨rfl,Aq (E3 (wpAny_point (AT ⟨e,t,dx,rfl,c1,c2,c3⟩)))⟩
end
section
variable{prog:AM}{w:AA}{A:AU}{E:Vq}{h:AG}{g:Bg Et}{d:HI}{tk0:Af}{os:Hb}
variable{nm q:Ag}{C N e t:Ak}{dx:Ao Ak}{bs bm bmB:Ac Aj}{hdct:Am}{sn:Ac Ag}{sub:Ac Aj}{ab:Am}{col:Ao Am}{dd:Ao Ak}{k0 k1 k2 k3 k5:Ao Aj}{B newId initId:CZ}
theorem kQ{Q:Vq}(F:Hl B newId initId bmB)(T:DD h bmB bm)(gC:h.get? C=Aa (BV nm q C N bs bm hdct sn sub ab col dd k0 k1 k2 k3 k5 newId))(ge:h.get? e=Aa (F5 C dx t))(hq:∀ h' t',(∀ b o,b≠e->h.get? b=Aa o->h'.get? b=Aa o)->h'.get? e=Aa (F5 C dx t')->Q .none ⟨h',g,d,tk0,os⟩):Av (model prog w) A (call (.builtin initId) [.ref e,.str z tk]) Q E ⟨h,g,d,tk0,os⟩:=by
 refine FC (DR F.init.plain F.initEntry (wpAny_check_init_subT F T gC ge rfl ?_));unfold F5 at ge
 wp_walk
 refine hq _ h.objs.size (λb o nb z=>(BU _ _ (CI nb)).trans (Au _ z)) ?_
 rw[Cp _ (Au _ ge) rfl];rfl
end
noncomputable def xbd:Af->Af
 |0=>4
 |n+1=>8*xbd n+19
theorem SG:∀ n:Fin 100,(Ai (toString ((n.val:Af):Ah))).length<=4:=by decide+kernel
theorem TW{α:Type}(f:α->Af){m:Af}:∀ l:Ac α,(∀ x∈l,f x<=m)->(l.map f).sum<=l.length*m
 |[],_=>by simp
 |x::l,h=>by
  have h1:=h x AF;have h2:=TW f l λy hy=>h y (Aw _ hy)
  rw[A4,List.sum_cons,A7,Nat.succ_mul];omega
section
variable{X:Cx}{CL:ClA}{pI:Pn}{Y:L2.St}{H:Hp}{s:Ap}
structure Shw (h:AG) (n:Af) (u:Aj) (pd:Kc):Prop where
 rd:Reads h u pd []
 sh:pd.showable=Ab
 nd:pd.hasDict=Ad
 dp:pd.depth<=n
 ln:pd.shown.length<=xbd n
inductive ShwA (h:AG) (n:Af):Ac Aj->Ac Kc->Prop where
 |nil:ShwA h n [] []
 |cons {u:Aj} {pd:Kc} {us:Ac Aj} {pds:Ac Kc}:Shw h n u pd->ShwA h n us pds->ShwA h n (u::us) (pd::pds)
theorem SH{h:AG}{n:Af}:∀{us:Ac Aj}{pds:Ac Kc},ShwA h n us pds->ReadsAll h us pds []/\Xq pds=Ab/\Xp pds=Ad/\HJ pds<=n/\(∀ t∈DE pds,t.length<=xbd n)/\(DE pds).length=us.length
 |[],[],_=>⟨.nil,rfl,rfl,DW _,(λ_ h=>nomatch h),rfl⟩
 |u::us,pd::pds,.cons h1 h2=>by
  obtain⟨a,b,c,d,e,f⟩:=SH h2;refine⟨.cons h1.rd a,?_,?_,?_,?_,?_⟩
  .show (pd.showable&&Xq pds)=Ab;rw[h1.sh,b];rfl
  .show (pd.hasDict||Xp pds)=Ad;rw[h1.nd,c];rfl
  .show max pd.depth (HJ pds)<=n;exact Nat.max_le.mpr ⟨h1.dp,d⟩
  .intro t ht;rcases AI.mp ht with rfl|ht
   .exact h1.ln
   .exact e t ht
  .show (DE pds).length+1=us.length+1;rw[f]
theorem pY(I:Inv X pI Y H s):∀(n:Af){d:D}{v:V}{u:Aj},xfD n d=Ab->Rep X.K CL H A v d->Bu v u->∃ pd,Shw s.heap n u pd:=by
 intro n
 induction n with
 |zero=>
  intro d v u hx r rv;cases d with
  |int i=>
   have e:v=.int i:=r;subst e;obtain⟨t,rfl⟩:=rv;simp only[xfD,Al,AE]at hx;refine⟨.int i,.int i t,?_,rfl,AL _,?_⟩
   .show decide (i.natAbs.log2<1920)=Ab;refine D2 (Ej (Hi _) (by omega))
   .have:=SG ⟨i.toNat,by omega⟩
    rw[show ((i.toNat:Af):Ah)=i by omega]at this
    exact this
  |_=>exact absurd (show Ad=Ab from hx) Ay
 |succ n ih0=>
  intro d v u hx r rv;cases d with
  |tup ds=>
   obtain⟨a,xs,rfl,_,sq,rs⟩:=r;cases rv;obtain⟨its,vs,⟨o,ho,hc,m,hd⟩,hz⟩:=I.tuple sq;simp only[xfD,Al,Br]at hx;have key:∀{xs:Ac V}{ds:Ac D}{its:Ac Aj},(∀ d∈ds,xfD n d=Ab)->Reps X.K CL H A xs ds->A2 xs its->∃ pds,ShwA s.heap n its pds:=λ{xs}=>by
    induction xs with
    |nil=>
     intro ds its _ rs vs;cases vs;exact⟨[],.nil⟩
    |cons x xs ih=>
     intro ds its hd rs vs;cases ds with
     |nil=>exact rs.elim
     |cons d ds=>
      cases vs with
      |cons v1 v2=>
       obtain⟨pd,h1⟩:=ih0 (hd d AF) rs.1 v1;obtain⟨pds,h2⟩:=ih (λe he=>hd e (Aw _ he)) rs.2 v2
       exact⟨pd::pds,.cons h1 h2⟩
   obtain⟨pds,hf⟩:=key hx.2 rs vs;obtain⟨p1,p2,p3,p4,p5,p6⟩:=SH hf;have l8:its.length<=8:=by
    have h8:=Nat.ble_eq.mp hx.1;rw[<-vs.length,rs.length];exact h8
   refine⟨.tuple pds,.tuple ho hc hd (by simpa using p1),p2,p3,?_,?_⟩
   .show HJ pds+1<=n+1;omega
   .show (tupleText (DE pds)).length<=8*xbd n+19;have h1:=tupleText_len_le (DE pds);have h2:=TW (λt:Ag=>t.length) (DE pds) p5
    have h3:(DE pds).length*xbd n<=8*xbd n:=Nat.mul_le_mul_right _ (by omega)
    omega
  |_=>exact absurd (show Ad=Ab from hx) Ay
end
section
variable{X:Cx}{CL:ClA}
def tFs(K:Fg)(CL:ClA)(i:Af):TE:=λY H Q=>∃ v d A n,Y[i]?=Aa (Aa v)/\Rep K CL H A v d/\xfD n d=Ab/\n<=2/\∀ t:Ag,Q (.str t) H
def tFm(K:Fg)(CL:ClA)(i:Af):TE:=λY H Q=>∃ v d A n,Y[i]?=Aa (Aa v)/\Rep K CL H A v d/\xfD n d=Ab/\n<=2/\∀ t:Ag,t.length<=500->Q (.str t) H
theorem Tx{e:An}{i:Af}(hu:X.A.units+64<BG)(hg:X.A.guards=Aa [])(he:PE X e (EX i)):PE X (.FormattedValue e (-1) Ae p1) (tFm X.K CL i):=by
 intro pI s Y H Q I ⟨v,d,A,n,hv,r,hx,hn,q⟩;refine wpAny_FormattedValue_plain (thn (he pI s Y H (λx H1=>x=v/\H1=H) I ⟨v,hv,rfl,rfl⟩) λu s1 ⟨x,H1,I1,r1,e1,e2⟩=>?_)
 subst e1 e2;have zl:sizeLine ≥ 2000:=by decide
 obtain⟨pd,sw⟩:=pY I1 n hx r r1;have hn':n=0\/n=1\/n=2:=by omega
 have xb:xbd n<=500:=by rcases hn' with rfl|rfl|rfl<;>decide
 have ln:=sw.ln;have dp:=sw.dp;cases d with
 |int j=>
  have e:x=.int j:=r;subst e;obtain⟨t,rfl⟩:=r1;cases n with
  |zero=>
   have hx':(decide (0<=j)&&decide (j<100))=Ab:=hx;rw[Al,AE,AE]at hx';have il:=SG ⟨j.toNat,by omega⟩
   rw[show ((j.toNat:Af):Ah)=j by omega]at il
   exact formatField_int_small (Ej (Hi _) (by omega)) ⟨.str _,H1,I1.tok _,⟨_,rfl⟩,q _ (By il (by omega))⟩
  |succ n=>cases hx
 |tup ds=>
  obtain⟨a,xs,rfl,_,sq,rs⟩:=r;cases r1;refine formatField_of_reads sw.rd sw.sh (λz=>by rw[sw.nd]at z;cases z) hg (by omega) (λ_ _ z=>z) (λh' tk1 tk2 kp=>?_) (by omega)
  exact⟨.str pd.shown,H1,I1.kept kp,⟨_,rfl⟩,q _ (by omega)⟩
 |_=>cases n<;>cases hx
theorem gQ{e:An}{i:Af}(hu:X.A.units+64<BG)(hg:X.A.guards=Aa [])(hz:z.length<=1000)(he:PE X e (EX i)):PE X (.JoinedStr [.FormattedValue e (-1) Ae p1,.Constant (.str z) k p2] p3) (tFs X.K CL i):=by
 intro pI s Y H Q I ⟨v,d,A,n,hv,r,hx,hn,q⟩;have zl:sizeLine ≥ 2000:=by decide
 refine Yi ?_;show Av (model X.prog X.w) X.A (eval (.FormattedValue e (-1) Ae p1) X.env) (λv s1=>∃ y t,v=.str y t/\(Do++y).length<=sizeLine/\Joins (model X.prog X.w) X.A X.xe [eval (.Constant (.str z) k p2) X.env] (Do++y) _ s1) X.xe s
 refine thn (Tx (CL:=CL) hu hg he pI s Y H (λx H1=>∃ y:Ag,x=.str y/\y.length<=500/\H1=H) I ⟨v,d,A,n,hv,r,hx,hn,λt ht=>⟨t,rfl,ht,rfl⟩⟩) λu s1 ⟨x,H1,I1,r1,y,e1,hy,e2⟩=>?_
 subst e1 e2;obtain⟨t1,rfl⟩:=r1;have l0:(Do++y).length<=500:=by
  rw[FY];have:Do.length=0:=rfl;omega
 refine⟨y,t1,rfl,by omega,?_⟩
 show Av (model X.prog X.w) X.A (eval (.Constant (.str z) k p2) X.env) _ X.xe s1;refine thn (MM (X:=X) pI _ Y H1 (λx H2=>x=.str z/\H2=H1) I1 ⟨rfl,rfl⟩) λu2 s2 ⟨x2,H2,I3,r3,e3,e4⟩=>?_
 subst e3 e4;obtain⟨t3,rfl⟩:=r3;have l1:(Do++y++z).length<=sizeLine:=by
  rw[FY];omega
 exact⟨z,t3,rfl,l1,l1,⟨.str _,H2,I3.tok _,⟨_,rfl⟩,q _⟩⟩
theorem bX{e:An}{i:Af}{z':Ag}{k':Af}{p0:AD}(hu:X.A.units+64<BG)(hg:X.A.guards=Aa [])(hz':z'.length<=400)(hz:z.length<=1000)(he:PE X e (EX i)):PE X (.JoinedStr [.Constant (.str z') k' p0,.FormattedValue e (-1) Ae p1,.Constant (.str z) k p2] p3) (tFs X.K CL i):=by
 intro pI s Y H Q I ⟨v,d,A,n,hv,r,hx,hn,q⟩;have zl:sizeLine ≥ 2000:=by decide
 refine Yi ?_;show Av (model X.prog X.w) X.A (eval (.Constant (.str z') k' p0) X.env) (λv s1=>∃ y t,v=.str y t/\(Do++y).length<=sizeLine/\Joins (model X.prog X.w) X.A X.xe [eval (.FormattedValue e (-1) Ae p1) X.env,eval (.Constant (.str z) k p2) X.env] (Do++y) _ s1) X.xe s
 refine thn (MM (X:=X) pI _ Y H (λx H2=>x=.str z'/\H2=H) I ⟨rfl,rfl⟩) λu0 s0 ⟨x0,H0,I0,r0,e0,e00⟩=>?_
 subst e0 e00;obtain⟨t0,rfl⟩:=r0;have le:(Do++z').length<=400:=by
  rw[FY];have:Do.length=0:=rfl;omega
 refine⟨z',t0,rfl,by omega,?_⟩
 show Av (model X.prog X.w) X.A (eval (.FormattedValue e (-1) Ae p1) X.env) _ X.xe s0;refine thn (Tx (CL:=CL) hu hg he pI s0 Y H0 (λx H1=>∃ y:Ag,x=.str y/\y.length<=500/\H1=H0) I0 ⟨v,d,A,n,hv,r,hx,hn,λt ht=>⟨t,rfl,ht,rfl⟩⟩) λu s1 ⟨x,H1,I1,r1,y,e1,hy,e2⟩=>?_
 subst e1 e2;obtain⟨t1,rfl⟩:=r1;have l0:(Do++z'++y).length<=900:=by
  rw[FY];omega
 refine⟨y,t1,rfl,by omega,?_⟩
 show Av (model X.prog X.w) X.A (eval (.Constant (.str z) k p2) X.env) _ X.xe s1;refine thn (MM (X:=X) pI _ Y H1 (λx H2=>x=.str z/\H2=H1) I1 ⟨rfl,rfl⟩) λu2 s2 ⟨x2,H2,I3,r3,e3,e4⟩=>?_
 subst e3 e4;obtain⟨t3,rfl⟩:=r3;have l1:(Do++z'++y++z).length<=sizeLine:=by
  rw[FY];omega
 exact⟨z,t3,rfl,l1,l1,⟨.str _,H2,I3.tok _,⟨_,rfl⟩,q _⟩⟩
structure FsOk (par:Ag) (j:An):Prop where
 st:∀ env,As [j] env=[(Ad,eval j env)]
 pe:∀(X:Cx)(CL:ClA)(i:Af),X.A.units+64<BG->X.A.guards=Aa []->(∀ p,PE X (.Name par p) (EX i))->PE X j (tFs X.K CL i)
theorem nC{p4:AD}(hz:z.length<=1000):FsOk par (.JoinedStr [.FormattedValue (.Name par p1) (-1) Ae p2,.Constant (.str z) k p3] p4):=⟨λ_=>rfl,λ_ _ _ hu hg he=>gQ hu hg hz (he _)⟩
theorem aO{z':Ag}{k':Af}{p0 p4:AD}(hz':z'.length<=400)(hz:z.length<=1000):FsOk par (.JoinedStr [.Constant (.str z') k' p0,.FormattedValue (.Name par p1) (-1) Ae p2,.Constant (.str z) k p3] p4):=⟨λ_=>rfl,λ_ _ _ hu hg he=>bX hu hg hz' hz (he _)⟩
end
def XEx(e C:Ak)(dx:Ao Ak)(t:Ak):AG->Prop:=λh=>h.get? e=Aa (F5 C dx t)
theorem MS{e C:Ak}{t:Ak}:∀ h1 h2:AG,XEx e C dx t h1->(∀ o,h1.get? e=Aa o->h2.get? e=Aa o)->XEx e C dx t h2:=λ_ _ p k=>k _ p
section
variable{X:Cx}{CL:ClA}{C:Ak}{nm q:Ag}{N:Ak}{bs bm:Ac Aj}{hdct:Am}{sn:Ac Ag}{sub:Ac Aj}{ab:Am}{col:Ao Am}{dd:Ao Ak}{k0 k1 k2 k3 k5:Ao Aj}
theorem bW{np apos cpos:AD}{es ej:An}{i j:Af}(hob:∀ h:AG,X.K.In h->h.get? C=Aa (BV nm q C N bs bm hdct sn sub ab col dd k0 k1 k2 k3 k5 "ValueError.__new__")/\DD h veB bm)(hg:Gl X g)(hm:X.mg g=Aa (.ref OV))(hdb:(g==("__debug__" : Ag))=Ad)(s1:B2 X.K (.ref OV) "__getattribute__" = Aa (Aa (.builtin "type.__getattribute__")))(s2:Fo X.K OV (.type "type")=Ab)(s3:Fn X.K (.ref OV) (.type "type") "__init__" = Aa (.val (.builtin "ValueError.__init__")))(hline:(apos.endLine==cpos.line)=Ab)(he:PE X es (EX i))(hj:PE X ej (tFs X.K CL j))(sA:As [es,ej] X.env=(Ad,eval es X.env)::As [ej] X.env)(sB:As [ej] X.env=[(Ad,eval ej X.env)]):
  PE X (.Call (.Attribute (.Name g np) "__init__" apos) [es,ej] [] cpos) (λY H Q=>∃ e dx t v d A n,Y[i]?=Aa (Aa (.ref e))/\H e=Aa (.ext (XEx e C dx t))/\Y[j]?=Aa (Aa v)/\Rep X.K CL H A v d/\xfD n d=Ab/\n<=2/\∀ t',Q .non (upd H e (.ext (XEx e C dx t')))):=by
 have st1:As [es,ej] X.env=[(Ad,eval es X.env),(Ad,eval ej X.env)]:=by rw[sA,sB]
 intro pI s Y H Q I ⟨e,dx,t,v,d,A,n,h1,h2,h3,r,hx,hn,hq⟩;rw[arm_eval_Call];refine Aq (show Av (model X.prog X.w) X.A (eval (.Name g np) X.env) _ X.xe s from HW I hg hm ?_ hdb)
 refine Aq (Eg ?_);have form:Yb ([es,ej].length+([]:Ac DZ).length) (BA cpos (As [es,ej] X.env)) (Ho cpos (FW [] X.env))=Ab:=by
  rw[st1];rfl
 have mpos:GZ Ab (.Name g np) X.env apos cpos=pure cpos:=by
  unfold GZ;simp[hline]
 unfold methodCall;rw[form];refine Aq (E3 (PySem.W.method_cls I.kIn s1 (PySem.W.cls_value I.kIn s2 s3 rfl ?_)));refine Aq (HP mpos ?_);have I1:=I.tok (s.toks+1);have pa:PA X [es,ej] _:=DT he (DT hj Ft sB) sA;have hA:=pa cpos pI {s with toks:=s.toks+1} Y H (λxs H'=>H'=H/\∃ z,xs=[.ref e,.str z]) I1 ⟨_,h1,⟨v,d,A,n,h3,r,hx,hn,λz=>⟨rfl,z,rfl⟩⟩⟩
 rw[st1]at hA ⊢;refine WB rfl (EQ (thn hA λus s2 ⟨xs,H2,I2,rv,e2,z,ex⟩=>?_))
 subst e2 ex;obtain⟨u1,u2,rfl,ru1,ru2⟩:=J3 rv;cases ru1;obtain⟨tk,rfl⟩:=ru2;obtain⟨gC,T⟩:=hob _ I2.kIn;have ge:XEx e C dx t s2.heap:=(I2.hok e _ h2).1;obtain⟨hp,g2,d2,tk2,os2⟩:=s2;refine kQ C7 T gC ge λh' t' kp ge'=>?_
 refine⟨.non,_,I2.write (x:=e) (e:=e) (o:=.ext (XEx e C dx t')) (t':=tk2) (by rw[h2];exact trivial) (.inl rfl) kp ⟨_,ge'⟩ ⟨ge',⟨_,ge'⟩,MS⟩,rfl,hq t'⟩
end
theorem YV{bmB bm:Ac Aj}(T:DD h bmB bm){self:Aj}{what:Ag}(hb:refuseLoop self what bmB=pure ()):refuseLoop self what bm=pure ():=by
 induction T with
 |base=>exact hb
 |own _ _ _ _ ih=>rw[Yg];exact ih
section
variable{prog:AM}{w:AA}{A:AU}{E:Vq}{h:AG}{g:Bg Et}{d:HI}{tk0:Af}{os:Hb}{K:Fg}
variable{nm q:Ag}{C N e t:Ak}{bs bm bmB:Ac Aj}{sn:Ac Ag}{sub:Ac Aj}{ab:Am}{col:Ao Am}{dd:Ao Ak}{k0 k1 k2 k3 k5:Ao Aj}{B newId sa owner:CZ}
theorem eO{Q:Fin->Ap->Prop}{v:Aj}(X:K.In h)(SF:Ke B bmB sa owner)(T:DD h bmB bm)(gC:h.get? C=Aa (BV nm q C N bs bm Ab sn sub ab col dd k0 k1 k2 k3 k5 newId))(hf:Ar K (.ref C) name=Aa Ae)(ge:h.get? e=Aa (F5 C Ae t))(hq:∀ h' dx tk',(∀ b o,b≠e->h.get? b=Aa o->h'.get? b=Aa o)->h'.get? e=Aa (F5 C (Aa dx) t)->h.get? dx=Ae->h'.Ns1 dx (λy=>if y=name then Aa v else Ae)->Q (.done (.ret .none)) ⟨h',g,d,tk',os⟩):Av (model prog w) A (Builtin.«object.__setattr__» ⟨[.ref e,.str name tk,v],[]⟩) Q E ⟨h,g,d,tk0,os⟩:=by
  have pass:=YV T (SF.passes (.ref e));have L1:=Cc (M:=model prog w) X hf;obtain⟨o,ho⟩:∃ o,F5 C Ae t=o:=⟨_,rfl⟩;rw[ho]at ge;have oc:o.cls=.ref C:=by rw[<-ho];rfl
  unfold Builtin.«object.__setattr__»
  repeat (first|rw[refuse_eq]|(rw[Yg,pass])|(with_reducible refine B5 ge ?_;rw[oc])|(with_reducible refine wpAny_mroOf_exc gC ?_)|(with_reducible refine L1.at ?_)|(with_reducible refine Aq (L1.at ?_))|wp_step)
  have od:o.dict=Ae:=by rw[<-ho];rfl
  have odt:o.data=.fields #[.ref t,.none,.none,.none,.bool Ad,.none]:=by rw[<-ho];rfl
  rw[od,odt,AC (by simp[typeHasDict])]
  let D:C9:={ cls:=.type "dict",data:=.dict #[] }
  have g1:(h.push D).get? e=Aa o:=Au _ ge;have ne:e≠h.objs.size:=Bm (AK ge);refine Aq (wpAny_alloc' ?_);refine Aq (wpAny_update' g1 ?_);refine AT ?_
  let U_:C9->C9:=λo=>{cls:=o.cls,dict:=Aa h.objs.size,data:=o.data,slots:=o.slots}
  have gD:((h.push D).update e U_).get? h.objs.size=Aa D:=(Xl _ _ _ _ ne.symm).trans (Xk rfl rfl);have nD:((h.push D).update e U_).Ns h.objs.size (λ_=>Ae):=⟨_,#[],_,gD,rfl,λz hz=>absurd hz (by simp),λ_=>rfl⟩
  change Av _ _ (Wx h.objs.size (.str name tk) name v) _ _ _;unfold Wx Builtin.ObjectAttr.newKeyGuard;refine Aq (AT (Aq (wpAny_nsSet1 (Xi nD) λk hk hs=>?_)))
  obtain⟨oD,eD,pD,q1,q2,q3⟩:=hk.count (Within.cons name v Within.nil);have le:oD.data.pastItsLine=Ae:=by
    rw[q2];refine Yd (By q3 ?_);rw[A7,List.length_nil,Cj];omega
  refine Aq (Yl q1 le ?_)
  wp_walk
  refine hq k h.objs.size _ (λb ob nb hb=>?_) ?_ (CJ (AL _)) hk
  · rw[hs.2 b (Bm (AK hb)),Xl _ _ _ _ nb];exact Au _ hb
  · rw[hs.2 e ne];have:Aa (F5 C (Aa h.objs.size) t)=Aa (U_ o):=by rw[<-ho];rfl
    rw[this];exact Cp _ g1 (by rw[<-ho];rfl)
end
section
variable{prog:AM}{w:AA}{A:AU}{E:Vq}{h:AG}{g:Bg Et}{d:HI}{tk0:Af}{os:Hb}{K:Fg}
variable{nm q:Ag}{C N e t:Ak}{bs bm bmB:Ac Aj}{sn:Ac Ag}{sub:Ac Aj}{ab:Am}{col:Ao Am}{dd:Ao Ak}{k0 k1 k2 k3 k5:Ao Aj}{B newId sa owner:CZ}
theorem eP{o:C9}{a b:Aj}(SF:Ke B bmB sa owner)(T:DD h bmB bm)(gC:h.get? C=Aa (BV nm q C N bs bm Ab sn sub ab col dd k0 k1 k2 k3 k5 newId))(ge:h.get? e=Aa o)(hc:o.cls=.ref C)(hq:Q () ⟨h,g,d,tk0,os⟩):Av M A (F3 sa ⟨[.ref e,a,b],[]⟩) Q E ⟨h,g,d,tk0,os⟩:=by
 have hb:(Bk C::bm).contains (.type owner)=Ab:=by rw[GO,T.hasType SF.hasOwner,Jb]
 have ha:=SF.args (.ref e) a b;simp only[F3,SF.kind,SF.split];refine Aq ?_;unfold Iw
 repeat (first|(with_reducible refine B5 ge ?_;rw[hc])|(with_reducible refine E9 gC ?_;rw[hb])|wp_step)
 unfold argsOk at ha;split
 .rename_i sig hs;rw[hs]at ha;refine HP ha ?_;exact hq
 .exact AT hq
theorem kL{v:Aj}(X:K.In h)(SF:Ke B bmB sa owner)(T:DD h bmB bm)(gC:h.get? C=Aa (BV nm q C N bs bm Ab sn sub ab col dd k0 k1 k2 k3 k5 newId))(hf:Ar K (.ref C) name=Aa Ae)(hs:Ar K (.ref C) "__setattr__" = Aa (Aa (.builtin sa)))(ge:h.get? e=Aa (F5 C Ae t))(hq:∀ h' dx tk',(∀ b o,b≠e->h.get? b=Aa o->h'.get? b=Aa o)->h'.get? e=Aa (F5 C (Aa dx) t)->h.get? dx=Ae->h'.Ns1 dx (λy=>if y=name then Aa v else Ae)->Q () ⟨h',g,d,tk',os⟩):Av (model prog w) A (Kk (.ref e) name v) Q E ⟨h,g,d,tk0,os⟩:=by
 have f3:=SF.slot.bind (.ref e);have L1:=Cc (M:=model prog w) X hs;obtain⟨o,ho⟩:∃ o,F5 C Ae t=o:=⟨_,rfl⟩;have oc:o.cls=.ref C:=by rw[<-ho];rfl
 have ge':=ge;rw[ho]at ge';unfold Kk Jk specialOf
 repeat (any_goals (first|assumption|(with_reducible refine B5 ge' ?_;rw[oc])|(with_reducible refine Aq (L1.at ?_))|(with_reducible refine L1.at ?_)|wp_step))
 refine DR SF.slot.plain SF.entry (eP SF T gC ge' oc (eO X SF T gC hf ge λh' dx tk' k1 k2 k3 k4=>?_))
 repeat (any_goals (first|assumption|wp_step))
 exact hq h' dx tk' k1 k2 k3 k4
end
section
variable{X:Cx}{pI:Pn}{Y:L2.St}{H:Hp}{s:Ap}{e:Ak}
theorem OP{o:HO}(I:Inv X pI Y H s)(ha:F7 X pI e)(hH:H e=Ae)(ho:ObjOk X.prog X.w (upd H e o) s.heap e o):Inv X pI Y (upd H e o) s:=by
 have ne:∀ b o,H b=Aa o->b≠e:=λb o q z=>by rw[z,hH]at q;cases q
 refine⟨I.ok,I.os,I.bare,⟨I.base.keep,I.base.slot,λb o q n hb=>?_,I.base.there,λb xs q=>?_,λb o u q=>?_,λb ps q=>?_⟩,I.loc,I.cell,?_,λx c q=>?_,λp hp=>?_,λb o q=>?_,I.len⟩
 .rw[Bj λz=>by rw[z,ha.2.2.2]at q;cases q]
  exact I.base.free b o q n hb
 .have:=I.base.tups b xs q;rw[Bj (ne _ _ this)];exact this
 .have:=I.base.frzs b o u q;rw[Bj (ne _ _ this)];exact this
 .obtain⟨more,this⟩:=I.base.tbls b ps q;exact⟨more,by rw[Bj (ne _ _ this)];exact this⟩
 .rw[Bj λz=>ha.1 z.symm];exact I.free
 .rw[Bj (ha.2.1 x c q)];exact I.freeC x c q
 .obtain⟨q,n,r⟩:=I.pin p hp;exact⟨q,by rw[Bj (ha.2.2.1 p hp)];exact n,r⟩
 .by_cases hb:b=e
  .subst hb;rw[DJ]at q;cases q;exact ho
  .rw[Bj hb]at q;exact(I.hok b o q).stay (λc v hc z=>z) (λc z=>by rw[Bj (ne _ _ z)];exact z) λc zs z=>by rw[Bj (ne _ _ z)];exact z
theorem bK(I:Inv X pI Y H s)(hH:H e=Aa (.ext φ))(h0:X.s₀.heap.get? e=Ae)(h1:X.ex=[]->Hs):Inv X pI Y (λb=>if b=e then Ae else H b) s:=by
 have get:∀ b o,(if b=e then Ae else H b)=Aa o->b≠e/\H b=Aa o:=λb o q=>by
  by_cases z:b=e
  .rw[At z]at q;cases q
  .rw[AC z]at q;exact⟨z,q⟩
 have put:∀ b o,H b=Aa o->o≠.ext φ->(if b=e then Ae else H b)=Aa o:=λb o q n=>by
  by_cases z:b=e
  .rw[z,hH]at q;cases q;exact absurd rfl n
  .rw[AC z];exact q
 have non:∀ b,H b=Ae->(if b=e then Ae else H b)=Ae:=λb q=>by
  by_cases z:b=e
  .rw[At z]
  .rw[AC z];exact q
 refine⟨I.ok,I.os,I.bare,⟨λb o q n hb hx=>?_,I.base.slot,λb o q n hb=>?_,I.base.there,λb xs q=>?_,λb o u q=>?_,λb ps q=>?_⟩,I.loc,I.cell,non _ I.free,λx c q=>non _ (I.freeC x c q),λp hp=>?_,λb o q=>?_,I.len⟩
 .exact I.base.keep b o q n hb hx
 .exact non b (I.base.free b o q n hb)
 .exact put b _ (I.base.tups b xs q) (by intro z;cases z)
 .exact put b _ (I.base.frzs b o u q) (by intro z;cases z)
 .obtain⟨more,this⟩:=I.base.tbls b ps q;exact⟨more,put b _ this (by intro z;cases z)⟩
 .obtain⟨q,n,r⟩:=I.pin p hp;exact⟨q,non _ n,r⟩
 .obtain⟨nb,q⟩:=get b o q;exact(I.hok b o q).stay (λc v hc z=>z) (λc z=>put c _ z (by intro z;cases z)) λc zs z=>put c _ z (by intro z;cases z)
end
section
variable{X:Cx}{C:Ak}{nm q:Ag}{N:Ak}{bs bm:Ac Aj}{sn:Ac Ag}{sub:Ac Aj}{ab:Am}{col:Ao Am}{dd:Ao Ak}{k0 k1 k2 k3 k5:Ao Aj}
theorem gL{i j:Af}{f:Ag}{eo:An}{p8 p10:AD}(hob:∀ h:AG,X.K.In h->h.get? C=Aa (BV nm q C N bs bm Ab sn sub ab col dd k0 k1 k2 k3 k5 "ValueError.__new__")/\DD h veB bm)(hx:X.ex=[])(hf:Ar X.K (.ref C) f=Aa Ae)(hs:Ar X.K (.ref C) "__setattr__" = Aa (Aa (.builtin "object.__setattr__")))(he:PE X eo (EX i))(hv:PE X ev (EX j))(sw:CS ev (Aa (.Attribute eo f p8)) p10.line X.env=pure Ad):PS X (.Assign [.Attribute eo f p8] ev p10) (λD Y H=>∃ e t v,Y[i]?=Aa (Aa (.ref e))/\H e=Aa (.ext (XEx e C Ae t))/\Y[j]?=Aa (Aa v)/\∀ dx,H dx=Ae->dx≠e->D.nx Y (upd (upd H e (.ext (XEx e C (Aa dx) t))) dx (.xd [(f,v)]))):=by
 intro pI s Y H D I ⟨e,t,v,h1,h2,h3,hq⟩;refine Ye (thn (hv pI s Y H (λx H1=>x=v/\H1=H) I ⟨v,h3,rfl,rfl⟩) λu s1 ⟨x,H1,I1,r1,e1,e2⟩=>?_) sw
 subst e1 e2;refine thn (he pI s1 Y H1 (λx H2=>x=.ref e/\H2=H1) I1 ⟨_,h1,rfl,rfl⟩) λu2 s2 ⟨x2,H2,I2,r2,e3,e4⟩=>?_
 subst e3 e4;cases r2;obtain⟨gC,T⟩:=hob _ I2.kIn;have ge:XEx e C Ae t s2.heap:=(I2.hok e _ h2).1;obtain⟨hp,g2,d2,tk2,os2⟩:=s2;refine kL I2.kIn PySem.F.store_ValueError T gC hf hs ge λh' dx tk' kp ge' nd ns=>?_
 have nH:H2 dx=Ae:=HS I2.hok nd;have nde:dx≠e:=λz=>by rw[z,h2]at nH;cases nH
 have ap:F7 X pI dx:=JR I2 hx nd;have I3:=I2.write (x:=e) (e:=e) (o:=.ext (XEx e C (Aa dx) t)) (t':=tk') (by rw[h2];exact trivial) (.inl rfl) kp ⟨_,ge'⟩ ⟨ge',⟨_,ge'⟩,MS⟩
 have I4:=OP (o:=.xd [(f,x)]) I3 ap (by rw[Bj nde];exact nH) ⟨_,ns,λy=>by
  by_cases z:y=f
  .subst z;rw[At rfl];simp only[BZ,Du];exact r1
  .rw[AC z];have:(y==f)=Ad:=by simp[z]
   simp only[BZ,this]
   trivial⟩
 exact⟨Y,_,I4,hq dx nH nde⟩
end
noncomputable def F9(K:Fg)(C:Ak):Am:=match K.lookup C with
  |some ⟨_,_,.cls c,_⟩=>c.hasDict
  |_=>Ad
noncomputable def Qj(g par f:Ag)(j:An)(np apos p1 cpos p6 p7 p8 p9 p10:AD):Ac AJ:=
 [.Expr (.Call (.Attribute (.Name g np) "__init__" apos) [.Name "self" p1,j] [] cpos) p6,.Assign [.Attribute (.Name "self" p7) f p8] (.Name par p9) p10]
inductive XIn (K:Fg) (mg:Ag->Ao Aj) (C:Ak) (f:Ag):Prop
 |mk {fI OV:Ak} {x qual g par:Ag} {j:An} {st:AJ} {fd:BE} {np apos p1 cpos p6 p7 p8 p9 p10:AD} (xc:Db K C (Aa (.ref fI))=Ab) (dc:F9 K C=Ab) (fn:Fun K x qual st fI fd) (ty:Dh K (.ref fI)=Aa (.type "function"))
  (S:FnScope ["self",par] ["self",par] (BK st)) (l1:(BK st).names.lookup ("self" : Ag)=Aa .local) (l2:(BK st).names.lookup par=Aa .local) (bd:EK K fd ["self",par] []) (body:Ew st=Qj g par f j np apos p1 cpos p6 p7 p8 p9 p10)
  (gl:(BK st).names.lookup g=Aa .globalImplicit) (mo:mg g=Aa (.ref OV)) (dg:(g==("__debug__" : Ag))=Ad) (dp:(par==("__debug__" : Ag))=Ad) (dq:(par==("__classdict__" : Ag))=Ad)
  (s1:B2 K (.ref OV) "__getattribute__" = Aa (Aa (.builtin "type.__getattribute__"))) (s2:Fo K OV (.type "type")=Ab) (s3:Fn K (.ref OV) (.type "type") "__init__" = Aa (.val (.builtin "ValueError.__init__")))
  (hl:(apos.endLine==cpos.line)=Ab) (hz:FsOk par j) (hf:Ar K (.ref C) f=Aa Ae) (hs:Ar K (.ref C) "__setattr__" = Aa (Aa (.builtin "object.__setattr__"))):XIn K mg C f
section
variable{P:AM}{w:AA}{K:Fg}{mg:Ag->Ao Aj}{base:AG}{CL:ClA}{C fI OV:Ak}{x qual g par f:Ag}{j:An}{st:AJ}{fd:BE}{np apos p1 cpos p6 p7 p8 p9 p10:AD}
variable{nm q:Ag}{N:Ak}{bs bm:Ac Aj}{sn:Ac Ag}{sub:Ac Aj}{ab:Am}{col:Ao Am}{dd:Ao Ak}{k0 k1 k2 k3 k5:Ao Aj}
theorem Sh(hob:∀ h:AG,K.In h->h.get? C=Aa (BV nm q C N bs bm Ab sn sub ab col dd k0 k1 k2 k3 k5 "ValueError.__new__")/\DD h veB bm)(fn:Fun K x qual st fI fd)(S:FnScope ["self",par] ["self",par] (BK st))(l1:(BK st).names.lookup ("self" : Ag)=Aa .local)(l2:(BK st).names.lookup par=Aa .local)(bd:EK K fd ["self",par] [])(body:Ew st=Qj g par f j np apos p1 cpos p6 p7 p8 p9 p10)(gl:(BK st).names.lookup g=Aa .globalImplicit)(mo:mg g=Aa (.ref OV))(dg:(g==("__debug__" : Ag))=Ad)(dp:(par==("__debug__" : Ag))=Ad)(dq:(par==("__classdict__" : Ag))=Ad)(s1:B2 K (.ref OV) "__getattribute__" = Aa (Aa (.builtin "type.__getattribute__")))(s2:Fo K OV (.type "type")=Ab)(s3:Fn K (.ref OV) (.type "type") "__init__" = Aa (.val (.builtin "ValueError.__init__")))(hl:(apos.endLine==cpos.line)=Ab)(hz:FsOk par j)(hf:Ar K (.ref C) f=Aa Ae)(hs:Ar K (.ref C) "__setattr__" = Aa (Aa (.builtin "object.__setattr__"))){A:AU}{outer:Ac Ci}{s:Ap}{E:XK}{e t:Ak}{v:V}{u:Aj}{n:Af}(hh:A.handled=Ae)(hdp:A.depth<Im)(hun:A.units+70<BG)(hgd:A.guards=Aa [])(e0:Env0 P w K mg base A outer s H)(he:H e=Aa (.ext (XEx e C Ae t)))(rp:Rep K CL H B v d)(hx:xfD n d=Ab)(hn:n<=2)(r:Bu v u):EG (model P w) A (.call (.ref fI) ⟨[.ref e,u],[]⟩) (CR Nz outer P w H s (λy H'=>y=.non/\∃ t' dx,H dx=Ae/\dx≠e/\H'=upd (upd H e (.ext (XEx e C (Aa dx) t'))) dx (.xd [(f,v)])) E) s:=by
 obtain⟨oc,od,kV,doc,pm,an,cdv,ct,osl,rfl,lk,hcd⟩:=fn.ex;have KX:K.In s.heap:=e0.mod.kin.keeps λb o e=>(e0.bs b o e).1
 have lim:s.heap.NoLimit:=e0.mod.nolimit.keeps λb o e=>(e0.bs b o e).1
 have hkind:∀ y∈(["self",par]:Ac Ag).zip [Bk e,u],(BK st).names.lookup y.1=Aa .local\/((BK st).names.lookup y.1=Aa .cell/\((CQ (s.heap.objs.size+1) (BK st).names []).lookup y.1).isSome=Ab):=λy hy=>by
  refine .inl ?_;rcases AI.mp hy with rfl|hy
  .exact l1
  .rw[Bf.mp hy];exact l2
 have rv:A2 [.ref e,v] [.ref e,u]:=.cons rfl (.cons r .nil);refine X8 hdp (KX _ _ lk) rfl S.co S.gen rfl (XV KX hcd) (bd s [.ref e,u] KX rfl _ _ _ _ ?_);refine Ym S.kind hkind λenv hen s1' x=>?_
 subst hen;refine⟨lim.keeps x.toInCall.keep,codeAny_func ?_⟩;have I:Inv (Fh Nz P w K mg base ["self",par] qual (BK st) fI cdv A outer s H E) [] (start ["self",par] [.ref e,v]) H s1':=Rk S hh e0 rfl rv x;generalize hX:Fh Nz P w K mg base ["self",par] qual (BK st) fI cdv A outer s H E=X at I;have pself:∀ p,PE X (.Name "self" p) (EX 0):=λp=>by rw[<-hX];exact Kz rfl (.inl l1)
 have ppar:∀ p,PE X (.Name par p) (EX 1):=λp=>by rw[<-hX];exact Kz rfl (.inl l2) dp dq
 have st1:=bW (X:=X) (CL:=CL) (C:=C) (g:=g) (np:=np) (apos:=apos) (cpos:=cpos) (i:=0) (j:=1) (OV:=OV) (by rw[<-hX];exact hob) (by rw[<-hX];exact gl) (by rw[<-hX];exact mo) dg (by rw[<-hX];exact s1) (by rw[<-hX];exact s2) (by rw[<-hX];exact s3) hl (pself p1)
  (hz.pe X CL 1 (by rw[<-hX];show A.units+3+64<BG;omega) (by rw[<-hX];exact hgd) ppar) rfl (hz.st _)
 have st2:=gL (X:=X) (p8:=p8) (p10:=p10) (by rw[<-hX];exact hob) (by rw[<-hX];rfl) (by rw[<-hX];exact hf) (by rw[<-hX];exact hs) (pself p7) (ppar p9) rfl
 have all:=Ot (LC (pos:=p6) st1 rfl) (Kv st2);have hk:=all [] s1' _ H {nx:=λ_ H'=>∃ t' dx,H dx=Ae/\dx≠e/\H'=upd (upd H e (.ext (XEx e C (Aa dx) t'))) dx (.xd [(f,v)]),rt:=λ_ _=>AW} I ⟨e,Ae,t,v,d,B,n,rfl,he,rfl,by rw[<-hX];exact rp,hx,hn,λt'=>⟨e,t',v,rfl,DJ,rfl,λdx h1 h2=>⟨t',dx,by rw[Bj h2]at h1;exact h1,h2,by rw[OR]⟩⟩⟩
 rw[body];refine A9 (by rw[<-hX]at hk;exact hk) (λfl s' hfl=>?_) λev s' hev=>hev
 cases fl with
 |next=>
  obtain⟨Y',H',J,w'⟩:=hfl;exact⟨.non,H',J.os,J.bare,J.base,J.hok,rfl,rfl,w'⟩
 |ret y=>obtain⟨_,_,_,_,_,w'⟩:=hfl;exact w'.elim
 |brk=>obtain⟨_,_,_,w'⟩:=hfl;exact w'.elim
 |cont=>obtain⟨_,_,_,w'⟩:=hfl;exact w'.elim
end
theorem Uh:∀(n m:Af)(d:D),xfD n d=Ab->n+1<=m->nlD m d=Ab
 |0,m+1,.int i,_,_=>rfl
 |n+1,m+1,.tup ds,h,hm=>by
  have h':(Dl ds.length 8&&ds.all (xfD n))=Ab:=h;rw[Al]at h';show ds.all (nlD m)=Ab;rw[Br]at h' ⊢;exact λx hx=>Uh n m x (h'.2 x hx) (by omega)
 |0,_,.tup _,h,_=>nomatch h
 |n+1,_,.int _,h,_=>nomatch h
section
variable{X:Cx}{CL:ClA}{W:XW}
def J8(xn:Af->Ac D->R Ex)(c:Af)(f:Ag)(ds:Ac D):Prop:=∃ d n,ds=[d]/\xfD n d=Ab/\n<=2/\xn c ds=.ok ⟨c,[(f,d)]⟩
theorem Y_9{np cpos pos:AD}{e:An}{es:Ac An}{fs:Rho->R (Ac D)}(hcalm:X.calm=Ab)(hx:X.ex=[])(hr:Room k X.A)(rz:L8 X CL W)(hg:Gl X g)(hm:X.mg g=Aa (.ref C))(hdb:(g==("__debug__" : Ag))=Ad)(hcl:CL c=Aa C)(ha:SA X CL W (e::es) fs)(hxn:∀ ds,xn c ds=.bad\/(xn c ds=.ok ⟨c,[]⟩/\Db X.K C Ae=Ab)\/∃ f,XIn X.K X.mg C f/\J8 xn c f ds)(he:As (e::es) X.env=(Ad,eval e X.env)::As es X.env)(hpl:∀ pos,(BA pos (As es X.env)).any (·.1)=Ad)(hz:∀ U ds,fs U=.ok ds->ds.length<=100000):SS X CL W (.Raise (Aa (.Call (.Name g np) (e::es) [] cpos)) Ae pos) (λU=>O.of U (noX (fs U)) λxs=>O.of U (xn c xs) λx=>.exn x U):=λFz B pI s Y H D I ⟨U,x,p⟩=>by
 have hpl':(BA cpos (As (e::es) X.env)).any (·.1)=Ad:=by rw[he];show (Ad||(BA cpos (As es X.env)).any (·.1))=Ad;rw[hpl];rfl
 cases e1:fs U with
 |bad=>dsimp only at p;rw[e1]at p;exact p.elim
 |exn y=>dsimp only at p;rw[e1]at p;exact p.elim
 |ok ds=>
  rcases hxn ds with e2|⟨e2,xc⟩|⟨f,xi,d,n,rfl,xf,hn,e2⟩
  .dsimp only at p;rw[e1]at p;have p2:Bx X.K CL Fz B W (O.of U (xn c ds) λx=>.exn x U) D:=p
   rw[e2]at p2;exact p2.elim
  .refine aC (fs:=fs) (xn:=λ_ ds'=>match xn c ds' with | .ok ⟨_,[]⟩=>.ok ⟨c,[]⟩|_=>.bad) hcalm rz hg hm hdb xc hcl ha (λds'=>by
    split
    .exact .inr rfl
    .exact .inl rfl) he hpl hz Fz B pI s Y H D I ⟨U,x,?_⟩
   dsimp only at p ⊢;rw[e1]at p ⊢;have p2:Bx X.K CL Fz B W (O.of U (xn c ds) λx=>.exn x U) D:=p
   rw[e2]at p2;show Bx X.K CL Fz B W (O.of U (match xn c ds with | .ok ⟨_,[]⟩=>(.ok ⟨c,[]⟩:R Ex)|_=>.bad) λx=>.exn x U) D
   rw[e2];exact p2
  .dsimp only at p;rw[e1]at p;have p2:Bx X.K CL Fz B W (O.of U (xn c [d]) λx=>.exn x U) D:=p
   rw[e2]at p2;have p3:∀ H,(∀ b o,Fz b o->H b=Aa o)->W ⟨c,[(f,d)]⟩ H:=p2;cases xi with
   |mk xc dc fn ty S l1 l2 bd body gl mo dg dp dq w1 w2 w3 hl hz0 hf hs=>
    rename_i fI OV x0 qual g0 par j0 st fd np0 apos q1 cpos0 q6 q7 q8 q9 q10;obtain⟨bm,N,nm,qn,bs,hd,sn,sub,ab,col,dd,k0,k1,k2,k3,k5,mN,hob,hni,hbase⟩:=Lq I.kIn xc;have hdt:hd=Ab:=by
     unfold F9 at dc;split at dc
     .rename_i c0 d0 cd sl lk;have g1:=I.kIn _ _ lk;rw[(hob _ I.kIn).1]at g1;unfold BV at g1;cases g1;exact dc
     .cases dc
    subst hdt;have hob2:∀ h:AG,X.K.In h->h.get? C=Aa (BV nm qn C N bs bm Ab sn sub ab col dd k0 k1 k2 k3 k5 "ValueError.__new__")/\DD h veB bm:=λh z=>⟨(hob h z).1,(hob h z).2.2⟩
    refine ZY (bmB:=veB) (nm:=nm) (q:=qn) (C:=C) (N:=N) (fI:=fI) (bs:=bs) (bm:=bm) (hdct:=Ab) (sn:=sn) (sub:=sub) (ab:=ab) (col:=col) (dd:=dd) (k0:=k0) (k1:=k1) (k2:=k2) (k3:=k3) (k5:=k5) (mN:=mN) C7 hbase (I.ok.hd hcalm) hpl' hni ?_;refine HW I hg hm ⟨rfl,?_⟩ hdb;have q1:=ha (Bq B U Y) cpos pI s Y H (λvs H1=>Az H H1/\Reps X.K CL H1 (Bq B U Y) vs [d]) I ⟨x.aok,U,x.good,by rw[e1];exact λvs H1 s1 r1=>⟨s1,r1⟩⟩
    rw[he]at q1 ⊢;refine EQ (A9 q1 (λus s2 ⟨vs,H2,I2,r2,sm2,rps⟩=>⟨rfl,?_⟩) λ_ _ z=>z)
    cases vs with
    |nil=>exact rps.elim
    |cons v vs=>
     cases vs with
     |cons=>exact rps.2.elim
     |nil=>
      obtain⟨u,rfl,ru⟩:=Hy r2;obtain⟨o1,o2,o3⟩:=hob _ I2.kIn;obtain⟨oc,od,kV,doc,pm,an,cdv,ct,osl,efd,lk,hcd⟩:=fn.ex;have coc:oc=.type "function" := by
       have ty':(X.K.lookup fI).map _=_:=ty;rw[lk]at ty';exact Bl ty'
      refine⟨by rw[Cj];show 1<=_;omega,o1,o2,o3,⟨_,I2.kIn _ _ lk,coc⟩,λh' e0 made=>?_⟩
      obtain⟨t,ge,_⟩:=made.there;have I3:Inv X pI Y H2 {s2 with heap:=h'}:=I2.kept (t':=s2.toks) made.keeps
      have ap:F7 X pI e0:=JR I2 hx made.new;have n0:H2 e0=Ae:=HS I2.hok made.new;have I4:=OP (o:=.ext (XEx e0 C Ae t)) I3 ap n0 ⟨ge,⟨_,ge⟩,MS⟩;have sm4:Az H2 (upd H2 e0 (.ext (XEx e0 C Ae t))):=λb o z=>by rw[Bj λy=>by rw[y,n0]at z;cases z];exact z
      have ru0:=hr.mono (DW k);have run:=Sh (P:=X.prog) (w:=X.w) (mg:=X.mg) (base:=X.base) (CL:=CL) (E:=λ_ _ _=>AW) (B:=Bq B U Y) (H:=upd H2 e0 (.ext (XEx e0 C Ae t))) (t:=t) hob2 fn S l1 l2 bd body gl mo dg dp dq w1 w2 w3 hl hz0 hf hs (A:=X.A.under (.builtin "type.__call__" ⟨.ref C::[u],[]⟩)) (outer:=X.stack) hr.hd (by rw[N3];have:=ru0.dp;omega) (by rw[N2];have:=ru0.un;omega) hr.gd (I4.env0.make C [u] []) DJ (Rep.same sm4 rps.1) xf hn ru
      refine FC (EH run λr s' hq=>?_)
      cases r with
      |error _=>exact A8 hq
      |ok fl=>
       cases fl with
       |next=>exact A8 hq
       |brk=>exact A8 hq
       |cont=>exact A8 hq
       |ret u'=>
        obtain⟨v',H5,I5,rr,ev,t',dx,ndx,dne,eH⟩:=I4.after hq;subst ev;cases rr;have nd2:H2 dx=Ae:=by rw[Bj dne]at ndx;exact ndx
        rw[OR]at eH;have H5e:H5 e0=Aa (.ext (XEx e0 C (Aa dx) t')):=by rw[eH,Bj (CI dne),DJ]
        have ge5:XEx e0 C (Aa dx) t' s'.heap:=(I5.hok e0 _ H5e).1;have I6:=bK I5 H5e ap.2.2.2 λ_=>trivial
        have H6d:(if dx=e0 then Ae else H5 dx)=Aa (.xd [(f,v)]):=by rw[AC dne,eH,DJ]
        have sm6:Az H2 (λb=>if b=e0 then Ae else H5 b):=λb o z=>by
         have nb:b≠e0:=λy=>by rw[y,n0]at z;cases z
         have nb2:b≠dx:=λy=>by rw[y,nd2]at z;cases z
         show (if b=e0 then Ae else H5 b)=Aa o
         rw[AC nb,eH,Bj nb2,Bj nb];exact z
        refine⟨rfl,t',Aa dx,(hob2 _ I6.kIn).1,ge5,rz pI Y _ s' e0 C (Aa dx) t' ⟨c,[(f,d)]⟩ I6 (λhx=>HR I2 hx made.new) (At rfl) ge5 (λA hA=>⟨C,hcl,rfl,.inr ⟨dx,[(f,v)],rfl,λz=>?_,H6d,⟨rfl,?_⟩,trivial⟩⟩) (p3 _ λb o z=>sm6 _ _ (sm2 _ _ (x.same b o z)))⟩
        .obtain⟨ys,q⟩:=hA dx z;have q':(if dx=e0 then Ae else H5 dx)=Aa (.lst ys):=q
         rw[H6d]at q';cases q'
        .exact PF hA 5 d (Uh n 5 d xf (by omega)) (Rep.sub (λ_ z=>z.elim) _ (Rep.same sm6 rps.1))
end
section
variable{prog:AM}{w:AA}{A:AU}{E:Vq}{h:AG}{g:Bg Et}{d:HI}{t:Af}{os:Hb}{K:Fg}{e C dx:Ak}{f:Ag}{mA:Ag->Ao Aj}{v:Aj}
theorem O4(p:IV e C (Aa dx) h):XAt e C h:=let ⟨o,a,b,_⟩:=p;⟨o,a,b⟩
theorem Zc{Q:Fin->Ap->Prop}(X:K.In h)(hf:Ar K (.ref C) f=Aa Ae)(hd:F9 K C=Ab)(p:IV e C (Aa dx) h)(hn:h.Ns1 dx mA)(hv:mA f=Aa v)(hq:Q (.done (.ret v)) ⟨h,g,d,t,os⟩):Av (model prog w) A (Builtin.«object.__getattribute__» ⟨[.ref e,.str f tk],[]⟩) Q E ⟨h,g,d,t,os⟩:=by
 have L0:=Ju (M:=model prog w) (O4 p);have L1:=Cc (M:=model prog w) X hf;obtain⟨o,ge,oc,od,us,dt⟩:=p;unfold F9 at hd;split at hd
 .rename_i c' d' cd' sl' lk;have gC:=X _ _ lk;unfold Builtin.«object.__getattribute__»
  repeat (any_goals (first|assumption|with_reducible refine L0.at ?_|with_reducible refine L1.at ?_|wp_step))
  rw[dt];unfold instanceDict
  repeat (first|(with_reducible refine B5 ge ?_;rw[oc])|with_reducible refine B5 gC ?_|wp_step)
  rw[od]
  repeat (first|(with_reducible refine wpAny_nsGet hn.ns ?_;rw[hv])|wp_step)
  exact hq
 .cases hd
theorem kJ{Q:Vq}(X:K.In h)(x:XcOk K C)(hf:Ar K (.ref C) f=Aa Ae)(hd:F9 K C=Ab)(p:IV e C (Aa dx) h)(hn:h.Ns1 dx mA)(hv:mA f=Aa v)(hh:handedOut v=pure v)(hq:Q v ⟨h,g,d,t,os⟩):Av (model prog w) A (getAttrBy (.ref e) (.str f tk) fill expr) Q E ⟨h,g,d,t,os⟩:=by
 have L0:=Ju (M:=model prog w) (O4 p);have L1:=Cc (M:=model prog w) X x.ga;have L2:=Cc (M:=model prog w) X x.gt;have f3:=FH.ga.bind (.ref e);have hx0:(expr&&Jn (Ct "BaseException.__getattribute__"))=Ad:=by cases expr<;>rfl
 have hx2:(Ct "BaseException.__getattribute__" == Ct "object.__getattribute__")=Ad:=by decide+kernel
 have hx1:(Jn (Bk C)&&Ct "BaseException.__getattribute__" == Ct "object.__getattribute__")=Ad:=by rw[hx2];rfl
 repeat (any_goals (first|assumption|with_reducible refine L0.at ?_|with_reducible refine L1.at ?_|with_reducible refine L2.at ?_|wp_step))
 refine DR FH.ga.plain W8 (QL X x (O4 p) (Zc X hf hd p hn hv ?_))
 repeat (any_goals (first|assumption|wp_step))
 all_goals trace_state
theorem ZZ{b:Am}{Q:Vq}(X:K.In h)(x:XcOk K C)(hf:Ar K (.ref C) f=Aa Ae)(hd:F9 K C=Ab)(p:IV e C (Aa dx) h)(hn:h.Ns1 dx mA)(hv:mA f=Aa v)(hh:handedOut v=pure v)(hq:Q v ⟨h,g,d,t+1,os⟩):Av (model prog w) A (JH (.ref e) f b) Q E ⟨h,g,d,t,os⟩:=by
 unfold JH
 repeat (any_goals (first|assumption|with_reducible apply kJ X x hf hd p hn hv hh|wp_step))
end
section
variable{X:Cx}{CL:ClA}{W:XW}{K:Fg}{H:Hp}{A:Ak->Prop}
theorem Os{f:Ag}{d:D}:∀{vs:Ac (Ag×V)}{fs:Ac (Ag×D)},Repf K CL H A vs fs->fs.lookup f=Aa d->∃ v,vs.lookup f=Aa v/\Rep K CL H A v d
 |[],[],_,q=>nomatch q
 |(n,v)::vs,(m,d')::fs,⟨⟨e,r⟩,rs⟩,q=>by
  have e':n=m:=e;subst e';by_cases z:(f==n)=Ab
  .simp only[BZ,z]at q ⊢;cases q;exact⟨v,rfl,r⟩
  .simp only[BZ,z]at q ⊢;exact Os rs q
theorem SK{a:An}{fa:Rho->R D}{f:Ag}(hxc:∀ c C,CL c=Aa C->XcOk X.K C)(hnf:∀ c C,CL c=Aa C->F9 X.K C=Ab/\Ar X.K (.ref C) f=Aa Ae)(ha:ST X CL W a fa)(hb:C8 a f X.env (eval a X.env)=eval a X.env):SE X CL W (.Attribute a f pos) (λU=>(fa U).bind λx=>KY x f):=λA=>by
 intro pI s Y H Q I ⟨hA,U,gd,q⟩;refine S9 hb (thn (ha A pI s Y H _ I ⟨hA,U,gd,AS.bind q (Q':=λv H1=>∃ d,Cr X.K CL H1 A v d/\AS (λH2=>Rep X.K CL H2 A) W H1 (KY d f) Q) λd v H1 _ s1 r1 p1=>⟨d,r1,p1⟩⟩) λu s1 ⟨v,H1,I1,rv,d,rp,p1⟩=>?_)
 cases d with
 |exc c fs=>
  have p2:AS (λH2=>Rep X.K CL H2 A) W H1 (match fs.lookup f with|some d=>.ok d|none=>.bad) Q:=p1
  cases el:fs.lookup f with
  |none=>rw[el]at p2;exact p2.elim
  |some d=>
   rw[el]at p2;rcases rp with ⟨e,C,φ,rfl,_,hc,hH,hφ,hfs⟩|⟨a,xs,ds,_,z,_⟩
   .rcases hfs with z|⟨dx,vs,nd,hd,rf,hφ2⟩
    .rw[z]at el;cases el
    .obtain⟨y,l,ry⟩:=Os rf el;cases rv;have ph:=(I1.hok e _ hH).1;obtain⟨o,ge,oc⟩:=hφ _ ph;obtain⟨o',ge',od,us,odt⟩:=hφ2 _ ph;rw[ge]at ge';cases ge';obtain⟨mA,hn,rel⟩:=I1.hok dx _ hd;obtain⟨u',hu,ru⟩:=HE.some_of (v:=y) (o:=mA f) (by rw[<-l];exact rel f)
     obtain⟨k1,k2⟩:=hnf c C hc;obtain⟨hp,g2,d2,tk2,os2⟩:=s1;exact ZZ I1.kIn (hxc c C hc) k2 k1 ⟨o,ge,oc,od,us,odt⟩ hn hu (PySem.W.handedOut_of (Rr ru)) ⟨y,H1,I1.tok _,ru,p2 y H1 (Az.refl H1) ry⟩
   .cases z
 |_=>exact p1.elim
end
section
variable{X:Cx}{CL:ClA}{W:XW}
theorem kK{e C:Ak}:∀ h1 h2:AG,XAt e C h1->(∀ o,h1.get? e=Aa o->h2.get? e=Aa o)->XAt e C h2:=λ_ _ ⟨o,a,b⟩ k=>⟨o,k _ a,b⟩
theorem jN{np pos:AD}{e:An}{es:Ac An}{fs:Rho->R (Ac D)}(hx:X.ex=[])(hk:Bi X.K (.ref C)=Ab)(hg:Gl X g)(hm:X.mg g=Aa (.ref C))(hdb:(g==("__debug__" : Ag))=Ad)(xc:Db X.K C Ae=Ab)(hcl:CL c=Aa C)(ha:SA X CL W (e::es) fs)(he:As (e::es) X.env=(Ad,eval e X.env)::As es X.env)(hpl:(BA pos (As es X.env)).any (·.1)=Ad)(hz:∀ U ds,fs U=.ok ds->ds.length<=100000):SE X CL W (.Call (.Name g np) (e::es) [] pos) (λU=>(fs U).bind λ_=>.ok (.exc c [])):=λA=>by
 intro pI s Y H Q I ⟨hA,U,gd,p⟩;dsimp only at p;obtain⟨bm,N,nm,qn,bs,hd,sn,sub,ab,col,dd,k0,k1,k2,k3,k5,mN,hob,hni,hbase⟩:=Lq I.kIn xc;refine Di (HW I hg hm ?_ hdb);have q1:=ha A pos pI s Y H (λvs H1=>Az H H1/\vs.length<=100000/\∀ v H',Az H H'->Rep X.K CL H' A v (.exc c [])->Q v H') I ⟨hA,U,gd,by
  cases e1:fs U with
  |bad=>rw[e1]at p;exact p
  |exn y=>rw[e1]at p;exact p
  |ok ds=>
   rw[e1]at p;exact λvs H1 s1 r1=>⟨s1,by rw[r1.length];exact hz U ds e1,p⟩⟩
 refine En (h₀:=X.base) I.ok.mod.kin hk (thn q1 λus s1 ⟨vs,H1,I1,r,sm,hl,q⟩=>⟨I1.kIn,?_⟩) he hpl
 obtain⟨o1,o2,o3⟩:=hob _ I1.kIn;have ap:∀ e',s1.heap.get? e'=Ae->F7 X pI e':=λe' z=>JR I1 hx z
 have hf:=λe' (z:s1.heap.get? e'=Ae)=>HS I1.hok z
 obtain⟨h1,g1,d1,t1,os1⟩:=s1;refine wpAny_call_exc_subT C7 o3 o1 o2 hni (λh' ev hmade=>?_) (by rw[List.nil_append,<-r.length,Cj];omega)
 obtain⟨t,ge,_⟩:=hmade.there;have nH:H1 ev=Ae:=hf ev hmade.new;have xa:XAt ev C h':=⟨_,ge,rfl⟩;have I3:Inv X pI Y H1 ⟨h',g1,d1,t1,os1⟩:=I1.kept (t':=t1) hmade.keeps;have I2:=Rj I3 hx (ap ev hmade.new) nH ⟨_,ge⟩ xa kK;have s2:Az H1 (upd H1 ev (.ext (XAt ev C))):=ET nH _;refine⟨.ref ev,_,I2,rfl,q _ _ (sm.trans s2) ⟨ev,C,XAt ev C,rfl,λz=>?_,hcl,DJ,λh x=>x,.inl rfl⟩⟩
 obtain⟨xs,z'⟩:=hA.same sm ev z;rw[nH]at z';cases z'
theorem lA{f:Ag}{ds:Ac D}{Q:VK}(p:AS Rp W H ((mkA c f ds).bind λx=>.ok (.exc x.c x.fs)) Q):∃ d n,ds=[d]/\xfD n d=Ab/\n<=2/\mkA c f ds=.ok ⟨c,[(f,d)]⟩:=by
  match ds,p with
  |[],p=>exact p.elim
  |_::_::_,p=>exact p.elim
  |[d],p=>
    have e':mkA c f [d]=if (xfD 0 d||(xfD 1 d||xfD 2 d))=Ab then .ok ⟨c,[(f,d)]⟩ else .bad:=rfl
    by_cases z:(xfD 0 d||(xfD 1 d||xfD 2 d))=Ab
    · rw[At z]at e';rcases (B8 _ _).mp z with h|h
      · exact⟨d,0,rfl,h,by omega,e'⟩
      · rcases (B8 _ _).mp h with h|h
        · exact⟨d,1,rfl,h,by omega,e'⟩
        · exact⟨d,2,rfl,h,by omega,e'⟩
    · rw[AC z]at e';rw[e']at p;exact p.elim
theorem jM{g f:Ag}{np pos:AD}{e:An}{es:Ac An}{fs:Rho->R (Ac D)}(hx:X.ex=[])(hr:Room k X.A)(hk:Bi X.K (.ref C)=Ab)(hg:Gl X g)(hm:X.mg g=Aa (.ref C))(hdb:(g==("__debug__" : Ag))=Ad)(xi:XIn X.K X.mg C f)(hcl:CL c=Aa C)(ha:SA X CL W (e::es) fs)(he:As (e::es) X.env=(Ad,eval e X.env)::As es X.env)(hpl:(BA pos (As es X.env)).any (·.1)=Ad):SE X CL W (.Call (.Name g np) (e::es) [] pos) (λU=>(fs U).bind λds=>mkA c f ds |>.bind λx=>.ok (.exc x.c x.fs)):=λA=>by
 intro pI s Y H Q I ⟨hA,U,gd,p⟩;dsimp only at p;cases xi with
 |mk xc dc fn ty S l1 l2 bd body gl mo dg dp dq w1 w2 w3 hl hz0 hf hs=>
  rename_i fI OV x0 qual g0 par j0 st fd np0 apos q1 cpos0 q6 q7 q8 q9 q10;obtain⟨bm,N,nm,qn,bs,hd,sn,sub,ab,col,dd,k0,k1,k2,k3,k5,mN,hob,hni,hbase⟩:=Lq I.kIn xc;have hdt:hd=Ab:=by
   unfold F9 at dc;split at dc
   .rename_i c0 d0 cd sl lk;have g1:=I.kIn _ _ lk;rw[(hob _ I.kIn).1]at g1;unfold BV at g1;cases g1;exact dc
   .cases dc
  subst hdt;have hob2:∀ h:AG,X.K.In h->h.get? C=Aa (BV nm qn C N bs bm Ab sn sub ab col dd k0 k1 k2 k3 k5 "ValueError.__new__")/\DD h veB bm:=λh z=>⟨(hob h z).1,(hob h z).2.2⟩
  refine Di (HW I hg hm ?_ hdb);have q1:=ha A pos pI s Y H (λvs H1=>Az H H1/\∃ d n,Reps X.K CL H1 A vs [d]/\xfD n d=Ab/\n<=2/\∀ v H',Az H H'->Rep X.K CL H' A v (.exc c [(f,d)])->Q v H') I ⟨hA,U,gd,by
   cases e1:fs U with
   |bad=>rw[e1]at p;exact p
   |exn y=>rw[e1]at p;exact p
   |ok ds=>
    rw[e1]at p;have p':AS (λH=>Rep X.K CL H A) W H ((mkA c f ds).bind λx=>.ok (.exc x.c x.fs)) Q:=p
    obtain⟨d,n,rfl,xf,hn,em⟩:∃ d n,ds=[d]/\xfD n d=Ab/\n<=2/\mkA c f ds=.ok ⟨c,[(f,d)]⟩:=lA p';rw[em]at p';exact λvs H1 s1 r1=>⟨s1,d,n,r1,xf,hn,p'⟩⟩
  refine En (h₀:=X.base) I.ok.mod.kin hk (thn q1 λus s2 ⟨vs,H2,I2,r2,sm2,d,n,rps,xf,hn,q⟩=>⟨I2.kIn,?_⟩) he hpl
  cases vs with
  |nil=>exact rps.elim
  |cons v vs=>
   cases vs with
   |cons=>exact rps.2.elim
   |nil=>
    obtain⟨u,rfl,ru⟩:=Hy r2;obtain⟨o1,o2,o3⟩:=hob _ I2.kIn;obtain⟨oc,od,kV,doc,pm,an,cdv,ct,osl,efd,lk,hcd⟩:=fn.ex;have coc:oc=.type "function" := by
     have ty':(X.K.lookup fI).map _=_:=ty;rw[lk]at ty';exact Bl ty'
    have apO:∀ e',s2.heap.get? e'=Ae->F7 X pI e':=λe' z=>JR I2 hx z
    have hfO:=λe' (z:s2.heap.get? e'=Ae)=>HS I2.hok z
    have lkI:=I2.kIn _ _ lk;obtain⟨h1,g1,d1,t1,os1⟩:=s2;refine R0 C7 o3 o1 o2 hni lkI coc (by rw[Cj];show 1<=_;omega) λh' e0 made=>?_
    obtain⟨t,ge,_⟩:=made.there;have I3:Inv X pI Y H2 ⟨h',g1,d1,t1,os1⟩:=I2.kept (t':=t1) made.keeps;have ap:F7 X pI e0:=apO e0 made.new;have n0:H2 e0=Ae:=hfO e0 made.new;have I4:=OP (o:=.ext (XEx e0 C Ae t)) I3 ap n0 ⟨ge,⟨_,ge⟩,MS⟩;have sm4:Az H2 (upd H2 e0 (.ext (XEx e0 C Ae t))):=ET n0 _;have ru0:=hr.mono (DW k);have run:=Sh (P:=X.prog) (w:=X.w) (mg:=X.mg) (base:=X.base) (CL:=CL) (E:=λ_ _ _=>AW) (B:=A) (H:=upd H2 e0 (.ext (XEx e0 C Ae t))) (t:=t) hob2 fn S l1 l2 bd body gl mo dg dp dq w1 w2 w3 hl hz0 hf hs (A:=X.A.under (.builtin "type.__call__" ⟨.ref C::[u],[]⟩)) (outer:=X.stack) hr.hd (by rw[N3];have:=ru0.dp;omega) (by rw[N2];have:=ru0.un;omega) hr.gd (I4.env0.make C [u] []) DJ (Rep.same sm4 rps.1) xf hn ru
    refine FC (EH run λr s' hq=>?_)
    cases r with
    |error _=>exact A8 hq
    |ok fl=>
     cases fl with
     |next=>exact A8 hq
     |brk=>exact A8 hq
     |cont=>exact A8 hq
     |ret u'=>
      obtain⟨v',H5,I5,rr,ev,t',dx,ndx,dne,eH⟩:=I4.after hq;subst ev;cases rr;have nd2:H2 dx=Ae:=by rw[Bj dne]at ndx;exact ndx
      rw[OR]at eH;have H5e:H5 e0=Aa (.ext (XEx e0 C (Aa dx) t')):=by rw[eH,Bj (CI dne),DJ]
      have H5d:H5 dx=Aa (.xd [(f,v)]):=by rw[eH,DJ]
      have s5:Az H2 H5:=λb o z=>by
       have nb:b≠e0:=λy=>by rw[y,n0]at z;cases z
       have nb2:b≠dx:=λy=>by rw[y,nd2]at z;cases z
       rw[eH,Bj nb2,Bj nb];exact z
      have nA:∀ b,H2 b=Ae->¬ A b:=λb z ha'=>by
       obtain⟨xs,q'⟩:=hA.same sm2 b ha';rw[z]at q';cases q'
      refine⟨rfl,.ref e0,H5,I5,rfl,q _ _ (sm2.trans s5) ?_⟩;exact⟨e0,C,_,rfl,nA e0 n0,hcl,H5e,λh x=>⟨_,x,rfl⟩,.inr ⟨dx,[(f,v)],nA dx nd2,H5d,⟨⟨rfl,Rep.same s5 rps.1⟩,trivial⟩,λh x=>⟨_,x,rfl,_,rfl⟩⟩⟩
theorem RE{i:Ao Aj}(q:Db K C i=Ab):Bi K (.ref C)=Ab:=by
  obtain⟨dd,cd,sl,bm,h1,_⟩:=Pk q;have e:B2 K (.ref C) "__call__" = Aa (Aa (.builtin "type.__call__")):=by
    unfold B2;rw[Td q];show PySem.fastLookup "type" "__call__" = _;decide+kernel
  show (match K.lookup C with
      |some ⟨_,_,.func _,_⟩=>Ab
      |some ⟨_,_,.cls _,_⟩=>B2 K (.ref C) "__call__" == Aa (Aa (.builtin "type.__call__"))
      | _=>Ad)=Ab
  rw[h1,e];show (Aa (Aa (Ct "type.__call__"))==Aa (Aa (Ct "type.__call__")))=Ab;exact Du _
theorem qL{np pos:AD}{e:An}{es:Ac An}{fs:Rho->R (Ac D)}(hx:X.ex=[])(hr:Room k X.A)(hg:Gl X g)(hm:X.mg g=Aa (.ref C))(hdb:(g==("__debug__" : Ag))=Ad)(hcl:CL c=Aa C)(ha:SA X CL W (e::es) fs)(hxn:∀ ds,xn c ds=.bad\/(xn c ds=.ok ⟨c,[]⟩/\Db X.K C Ae=Ab)\/∃ f,XIn X.K X.mg C f/\J8 xn c f ds)(he:As (e::es) X.env=(Ad,eval e X.env)::As es X.env)(hpl:(BA pos (As es X.env)).any (·.1)=Ad)(hz:∀ U ds,fs U=.ok ds->ds.length<=100000):SE X CL W (.Call (.Name g np) (e::es) [] pos) (λU=>(noX (fs U)).bind λds=>(xn c ds).bind λx=>.ok (.exc x.c x.fs)):=λA=>by
 intro pI s Y H Q I ⟨hA,U,gd,p⟩;dsimp only at p;cases e1:fs U with
 |bad=>
  rw[e1]at p;exact p.elim
 |exn y=>
  rw[e1]at p;exact p.elim
 |ok ds=>
  rw[e1]at p;have p':AS (λH=>Rep X.K CL H A) W H ((xn c ds).bind λx=>.ok (.exc x.c x.fs)) Q:=p
  rcases hxn ds with e2|⟨e2,xc⟩|⟨f,xi,d,n,rfl,xf,hn,e2⟩
  .rw[e2]at p';exact p'.elim
  .rw[e2]at p';refine jN (fs:=fs) hx (RE xc) hg hm hdb xc hcl ha he hpl hz A pI s Y H Q I ⟨hA,U,gd,?_⟩;dsimp only;rw[e1];exact p'
  .rw[e2]at p';have m:mkA c f [d]=.ok ⟨c,[(f,d)]⟩:=by
    have:(xfD 0 d||(xfD 1 d||xfD 2 d))=Ab:=by
     have hn':n=0\/n=1\/n=2:=by omega
     rcases hn' with rfl|rfl|rfl<;>rw[xf]<;>simp
    show (if (xfD 0 d||(xfD 1 d||xfD 2 d))=Ab then (.ok ⟨c,[(f,d)]⟩:R Ex) else .bad)=_
    rw[At this]
   have kp:Bi X.K (.ref C)=Ab:=by
    cases xi with
    |mk xc=>exact RE xc
   refine jM (fs:=fs) hx hr kp hg hm hdb xi hcl ha he hpl A pI s Y H Q I ⟨hA,U,gd,?_⟩;dsimp only;rw[e1];show AS (λH=>Rep X.K CL H A) W H ((mkA c f [d]).bind λx=>.ok (.exc x.c x.fs)) Q
   rw[m];exact p'
end
theorem Z_8:∀{ss:Ac Ag}{its:Ac Aj},A2 (ss.map V.str) its->∃ l:Ac (Ag×Cz),its=strValues l/\l.map (·.1)=ss:=by
 intro ss
 induction ss with
 |nil=>intro its v;cases v;exact⟨[],rfl,rfl⟩
 |cons x ss ih=>
  intro its v;cases v with
  |cons v1 v2=>
   obtain⟨t,rfl⟩:=v1;obtain⟨l,e1,e2⟩:=ih v2;exact⟨(x,t)::l,by rw[e1];rfl,by rw[A4,e2]⟩
section
variable{X:Cx}{CL:ClA}{W:XW}
def sK(K:Fg):V->Ac V->Hp->VK->Prop:=λx xs H Q=>∃ sep q ss,x=.str sep/\xs=[.ref q]/\SqL K H q (ss.map V.str)/\Jf sep ss=Ab/\Q (.str (Eu sep ss)) H
theorem fU:MtR X "str.join" (sK X.K):=by
 intro pI s Y H x vs v us Q I rx rv h;obtain⟨sep,l,ss,rfl,rfl,sq,hok,q⟩:=h;obtain⟨t,rfl⟩:=rx;obtain⟨u,rfl,ru⟩:=rv.one;cases ru;obtain⟨its,r,pl,hz⟩:=I.list sq;obtain⟨ls,rfl,rfl⟩:=Z_8 r;unfold Jf at hok;rw[Bs]at hok;refine Gj Xe (FB _ _ _) PySem.F.entry_str_join (PySem.F.args_str_join_2 _ _) (meets_str_join_list sep t l ls hok) ⟨pl.isList,post_join ls ⟨joinFit_length hok,λt' k=>?_⟩⟩
 exact⟨.str _,H,I.kept (t':=k) λ_ _ e=>e,⟨_,rfl⟩,q⟩
theorem Y_7:∀{es:Ac D}{ss:Ac Ag}{ys:Ac V},KI es=Aa ss->Reps K CL H A ys es->ys=ss.map V.str:=by
 intro es
 induction es with
 |nil=>
  intro ss ys h r;cases h;cases ys with
  |nil=>rfl
  |cons=>exact r.elim
 |cons e es ih=>
  intro ss ys h r;cases ys with
  |nil=>exact r.elim
  |cons y ys=>
   cases e with
   |str x=>
    have h':(KI es).map (x :: ·)=Aa ss:=h;cases e2:KI es with
    |none=>rw[e2]at h';cases h'
    |some js=>
     rw[e2]at h';cases h';have e1:y=.str x:=r.1;rw[ih e2 r.2,e1];rfl
   |_=>cases h
theorem eG{y:An}{s:Ag}(hy:SE X CL W y fy)(hbase:C8 (.Constant (.str s) k p) "join" X.env (eval (.Constant (.str s) k p) X.env)=eval (.Constant (.str s) k p) X.env)(hfew:((BA cpos (As [y] X.env)).all (λx=>!x.1)&&(Ho cpos (FW [] X.env)).all (λx=>x.1.isSome)&&decide ([y].length+([]:Ac DZ).length+(if ([]:Ac DZ).isEmpty then 0 else 1)<30))=Ab)(hline:(apos.endLine==cpos.line)=Ab)(hs:As [y] X.env=[(Ad,eval y X.env)]):
  SE X CL W (.Call (.Attribute (.Constant (.str s) k p) "join" apos) [y] [] cpos) (λU=>(fy U).bind λx=>biD .sjoin [.str s,x]):=λA=>
 PE.weak (M7 Xc Xe PySem.F.type_str_join fU (MW (X:=X) (CL:=CL) (W:=W) A) (DT (hy A) Ft hs) hbase hfew hline hs rfl) λY H Q ⟨hA,U,g,p⟩=>⟨hA,U,g,λv H1 s1 r1=>by
  dsimp only at p;have ev:v=.str s:=r1;subst ev;refine⟨rfl,hA.same s1,U,g.same s1,?_⟩;cases e:fy U with
  |bad=>rw[e]at p;exact p.elim
  |exn x=>rw[e]at p;exact λH2 s2=>p H2 (s1.trans s2)
  |ok d=>
   rw[e]at p;intro v' H2 s2 r2;have p1:AS (λH=>Rep X.K CL H A) W H (biD .sjoin [.str s,d]) Q:=p
   cases d with
   |lst ds=>
    obtain⟨a,xs,rfl,_,sq,rs⟩:=r2;have p2:AS (λH=>Rep X.K CL H A) W H (O3 s ds) Q:=p1
    unfold O3 at p2;cases e3:KI ds with
    |none=>rw[e3]at p2;exact p2.elim
    |some ss=>
     rw[e3]at p2;dsimp only at p2;split at p2
     .rename_i hok;have ex:=Y_7 e3 rs;subst ex;exact⟨s,a,ss,rfl,rfl,sq,hok,p2 _ H2 (s1.trans s2) rfl⟩
     .exact p2.elim
   | _=>exact p1.elim⟩
end
theorem Q6:∀(l:Ac Ag)(k:Af),A2 (l.map V.str) (strsFrom k l)
 |[],_=>.nil
 |_::r,k=>.cons ⟨_,rfl⟩ (Q6 r (k+1))
section
variable{X:Cx}{CL:ClA}{W:XW}
def mR:V->Ac V->Hp->VK->Prop:=λx xs H Q=>∃ z y,x=.str z/\xs=[.str y]/\(y.length==0)=Ad/\Hz z y=Ab/\∀ p,H p=Ae->Q (.ref p) (upd H p (.lst ((Em z y).map V.str)))
theorem aZ:MtR X "str.split" mR:=by
 intro pI s Y H x vs v us Q I rx rv h;obtain⟨z,y,rfl,rfl,hy,hok,q⟩:=h;obtain⟨t,rfl⟩:=rx;obtain⟨u0,rfl,ru⟩:=rv.one;obtain⟨u,rfl⟩:=ru;unfold Hz at hok;rw[Al]at hok;have z1:z.length<=sizeLine:=by have:=BD hok.1;rw[Cj];omega
 have z2:(Wz z (Ed z y 0 z.length (z.length+1)) y.length).length<=sizeLine:=by have:=BD hok.2;rw[Cj];omega
 have one:∀(l:Ac Ag)(its:Ac Aj)(tk:Af),Em z y=l->l.length<=sizeLine->A2 (l.map V.str) its->EP X pI Y Q (.ref s.heap.objs.size) { s with heap:=s.heap.push { cls:=.type "list",data:=.seq its.toArray },toks:=tk }:=λl its tk e hl hv=>
  ⟨.ref s.heap.objs.size,_,I.laid (t':=tk) (o:=.lst (l.map V.str)) (λb ob q=>Au _ q) (AL _) ⟨by rw[Bo];exact hl,its,0,hv,A3 _ rfl⟩,rfl,by rw[<-e];exact q _ (I.hok.fresh (AL _))⟩
 have self1:1<=sizeLine:=by decide
 cases h1:(decide (z.length<y.length)||decide (E8 z<E8 y))
 .cases hf:(Ed z y 0 z.length (z.length+1)).isEmpty
  .exact Gj Er (FB _ _ _) FF (Fp _ _) (meets_str_split_sep z y t u h1 hy hf z1 z2) (one _ _ _ ((AC (Gz h1)).trans (AC (Gz hf))) z2 (Q6 _ _))
  .exact Gj Er (FB _ _ _) FF (Fp _ _) (meets_str_split_not_found z y t u h1 hy hf) (one [z] [.str z t] s.toks ((AC (Gz h1)).trans (At hf)) self1 (.cons ⟨_,rfl⟩ .nil))
 .exact Gj Er (FB _ _ _) FF (Fp _ _) (meets_str_split_cannot_occur z y t u h1) (one [z] [.str z t] s.toks (At h1) self1 (.cons ⟨_,rfl⟩ .nil))
theorem Rb{K:Fg}{H:Hp}{A:Ak->Prop}:∀ l:Ac Ag,Reps K CL H A (l.map V.str) (l.map D.str)
 |[]=>trivial
 |_::r=>⟨rfl,Rb r⟩
theorem aG{o:An}{y:Ag}(ho:ST X CL W o fo)(hbase:C8 o "split" X.env (eval o X.env)=eval o X.env)(hline:(apos.endLine==cpos.line)=Ab):SC X CL W Ab (.Call (.Attribute o "split" apos) [.Constant (.str y) k p] [] cpos) (λU=>(fo U).bind λx=>biD .ssplit [x,.str y]):=λA=>
 PE.weak (M7 Xc Er PySem.F.type_str_split aZ (ho A) (DT (MW (X:=X) (CL:=CL) (W:=W) A) Ft rfl) hbase rfl hline rfl rfl) λY H Q ⟨hA,U,g,q⟩=>⟨hA,U,g,AS.bind q λd v H1 _ s1 r1 p1=>by
  cases d with
  |str z=>
   have e:=r1.str_of;subst e;refine⟨rfl,hA.same s1,U,g.same s1,λv' H2 s2 r2=>?_⟩
   have e2:v'=.str y:=r2;subst e2;have p2:AS (DB X.K CL Ab H A) W H1 (if (!(y.length==0)&&Hz z y)=Ab then .ok (.lst ((Em z y).map D.str)) else .bad) Q:=p1
   split at p2
   .rename_i hk;rw[Al,Bs]at hk;exact⟨z,y,rfl,rfl,hk.1,hk.2,λa ha=>p2 _ _ (s2.trans (ET ha _)) (Jr (s1.trans s2) ((hA.same s1).same s2) ha (Rb _))⟩
   .exact p2.elim
  | _=>exact p1.elim⟩
theorem oR:Jy X CL W (.type "str") (biD .str):=by
  intro A pI s Y H xs us Q I r ⟨hA,ds,rs,p⟩
  match ds,rs,p with
  |[.int i],rs,p=>
    obtain⟨v,rfl,rv⟩:=rs.one;have e:=rv.int_of;subst e;have p2:AS (λH=>Rep X.K CL H A) W H (if LV i=Ab then .ok (.str (Ai (toString i))) else .bad) Q:=p
    split at p2
    · rename_i hk;have hk':i.natAbs<1000:=AO hk;exact YW pI s Y H _ us Q I r ⟨i,rfl,Ej (Hi _) (Nat.lt_trans hk' (by decide)),p2 _ H (Az.refl H) rfl⟩
    · exact p2.elim
  |[.bl _],_,p=>exact p.elim
  |[],_,p=>exact p.elim
  |[.non],_,p=>exact p.elim
  |[.str _],_,p=>exact p.elim
  |[.tup _],_,p=>exact p.elim
  |[.lst _],_,p=>exact p.elim
  |[.obj _ _],_,p=>exact p.elim
  |[.exc _ _],_,p=>exact p.elim
  |[.dic _],rs,p=>first|exact p.elim|(obtain⟨v,rfl,rv⟩:=rs.one;exact rv.plain.elim)
  |x::_::_,_,p=>cases x<;>exact p.elim
end
structure OCls (K:Fg) (C:Ak):Prop where
 cl:Cls K C
 np:G1 K C "p"
 nt:G1 K C "triple"
 ha:Ar K (.ref C) "__class__" = Aa (Aa (.builtin "object.__class__"))
 hn:B2 K (.builtin "object.__class__") "__get__" = Aa (Aa (.builtin "getset_descriptor.__get__"))
 htk:HM K (.builtin "object.__class__")=Aa Ab
 hm:B7 K C (.type "object")=Aa Ab
theorem Rc{K:Fg}{CL:ClA}{H:Hp}{A:Ak->Prop}{f:Ag}:∀{vs:Ac (Ag×V)}{fs:Ac (Ag×D)},Repf K CL H A vs fs->fs.lookup f=Ae->vs.lookup f=Ae
 |[],[],_,_=>rfl
 |v::vs,(n,d)::fs,h,q=>by
  obtain⟨⟨e,_⟩,h2⟩:=h;obtain⟨m,y⟩:=v;have e':m=n:=e;subst e';by_cases z:(f==m)=Ab
  .simp only[BZ,z]at q;cases q
  .have z':(f==m)=Ad:=by simpa using z
   simp only[BZ,z']at q ⊢;exact Rc h2 q
 |[],_::_,h,_=>h.elim
 |_::_,[],h,_=>h.elim
section
variable{CL:ClA}{K:Fg}{H:Hp}{A:Ak->Prop}{x C dx:Ak}{vs:Ac (Ag×V)}{o:HO}
mutual
theorem TB(hx:H x=Aa (.ins C dx vs)):∀(n:Af)(d:D){v:V},nlD n d=Ab->Rep K CL H A v d->Rep K CL (upd H x o) A v d
 |_,.non,_,_,h=>h
 |_,.bl _,_,_,h=>h
 |_,.int _,_,_,h=>h
 |_,.str _,_,_,h=>h
 |0,.tup _,_,hn,_=>by cases hn
 |n+1,.tup ds,_,hn,h=>by
  obtain⟨a,xs,e,na,s,r⟩:=h;refine⟨a,xs,e,na,?_,nls_ins hx n ds hn r⟩;rcases s with s|s
  .rcases s with s|⟨ob,s⟩
   .exact .inl (.inl (by rw[Bj λz=>by rw[z,hx]at s;cases s];exact s))
   .exact .inl (.inr ⟨ob,by rw[Bj λz=>by rw[z,hx]at s;cases s];exact s⟩)
  .exact .inr s
 |n,.lst _,_,hn,_=>by cases n<;>cases hn
 |n,.obj _ _,_,hn,_=>by cases n<;>cases hn
 |n,.exc _ _,_,hn,_=>by cases n<;>cases hn
 |n,.dic _,_,hn,_=>by cases n<;>cases hn
theorem nls_ins(hx:H x=Aa (.ins C dx vs)):∀(n:Af)(ds:Ac D){us:Ac V},ds.all (nlD n)=Ab->Reps K CL H A us ds->Reps K CL (upd H x o) A us ds
 |_,[],[],_,h=>h
 |n,d::ds,_::_,hn,h=>by
  simp only[Dm,Al]at hn;exact⟨TB hx n d hn.1 h.1,nls_ins hx n ds hn.2 h.2⟩
 |_,[],_::_,_,h=>h.elim
 |_,_::_,[],_,h=>h.elim
end
theorem OJ{v:V}{fs:Ac (Ag×D)}(r:Cr K CL H A v (.obj c fs)):∃ a C dx vs,v=.ref a/\¬ A a/\OC K c=Aa C/\H a=Aa (.ins C dx vs)/\Repf K CL H A vs fs:=by
 rcases r with r|⟨a,xs,ds,_,z,_⟩
 .exact r
 .cases z
end
section
variable{X:Cx}{CL:ClA}{W:XW}{a:An}{fa:Rho->R D}
theorem jK{f:Ag}(ho:∀ c C,OC X.K c=Aa C->Cls X.K C/\G1 X.K C f)(ha:ST X CL W a fa)(hb:C8 a f X.env (eval a X.env)=eval a X.env):SE X CL W (.Attribute a f pos) (λU=>(fa U).bind λx=>ofD x f):=λA=>by
 intro pI s Y H Q I ⟨hA,U,gd,q⟩;refine S9 hb (thn (ha A pI s Y H _ I ⟨hA,U,gd,AS.bind q (Q':=λv H1=>∃ d,Cr X.K CL H1 A v d/\AS (λH2=>Rep X.K CL H2 A) W H1 (ofD d f) Q) λd v H1 _ s1 r1 p1=>⟨d,r1,p1⟩⟩) λu s1 ⟨v,H1,I1,rv,d,rp,p1⟩=>?_)
 cases d with
 |obj c fs=>
  have p2:AS (λH2=>Rep X.K CL H2 A) W H1 (match fs.lookup f with|some d=>.ok d|none=>.bad) Q:=p1
  cases el:fs.lookup f with
  |none=>rw[el]at p2;exact p2.elim
  |some d=>
   rw[el]at p2;obtain⟨e,C,dx,vs,rfl,_,hc,hH,rf⟩:=OJ rp;obtain⟨y,l,ry⟩:=Os rf el;cases rv;obtain⟨k1,k2⟩:=ho c C hc;exact Zo I1 hH k1 k2 l λu s' I2 ru=>⟨y,H1,I2,ru,p2 y H1 (Az.refl H1) ry⟩
 |_=>exact p1.elim
theorem lX(hoc:∀ c C,OC X.K c=Aa C->OCls X.K C)(hg:Gl X "isinstance")(hm:X.mg "isinstance" = Ae)(hg2:Gl X x)(hm2:X.mg x=Aa (.ref C'))(hkit:∀ c C,OC X.K c=Aa C->BW X.K (.ref C) (.ref C')=Aa ((oup c).contains k))(hdb:(x==("__debug__" : Ag))=Ad)(ha:ST X CL W a fa)(he:As [a,.Name x p2] X.env=(Ad,eval a X.env)::As [.Name x p2] X.env):SE X CL W (.Call (.Name "isinstance" p) [a,.Name x p2] [] pos) (λU=>(fa U).bind λx=>Qn k x):=λA=>
 PE.weak (Kn (r:=λxs H Q=>∃ a C dx vs c,xs=[.ref a,.ref C']/\OC X.K c=Aa C/\H a=Aa (.ins C dx vs)/\Q (.bl ((oup c).contains k)) H) (λpI s Y H xs us Q I r ⟨b,C,dx,vs,c,e,hc,hH,q⟩=>by
   subst e;obtain⟨u,w',rfl,r1,r2⟩:=J3 r;cases r2;have o:=hoc c C hc;exact ZG I r1 (.ins hH o.cl o.ha o.hn o.htk o.hm) (hkit c C hc) λtk=>⟨.bl _,H,I.tok tk,rfl,q⟩)
  hg hm Fk (DT (ha A) (DT (OM (v:=.ref C') hg2 hm2 rfl hdb) Ft rfl) he) (by decide) (by decide) he rfl) λY H Q ⟨hA,U,g,q⟩=>⟨hA,U,g,AS.bind q λd v H1 _ s1 r1 p1=>by
   cases d with
   |obj c fs=>
    obtain⟨b,C,dx,vs,rfl,_,hc,hH,_⟩:=OJ r1;exact⟨b,C,dx,vs,c,rfl,hc,hH,p1 _ H1 (Az.refl H1) rfl⟩
   | _=>exact p1.elim⟩
theorem eE{m:Ag}{ms:Ac (Af×Af)}{F:Af->Ac D->R D}(hr:Room k X.A)(hx:∀ A,IH (CXR X.prog X.w) X (EKW X.K CL A W))(ha:ST X CL W a fa)(hms:∀ c id C,ms.lookup c=Aa id->OC X.K c=Aa C->∃ f fd ps fr,Cls X.K C/\Meth X.K C m f/\EK X.K fd ps []/\FnOk X.prog X.w X.K X.mg X.base (CXR X.prog X.w) k f fd ps (spD X.K CL 1 fr (F id)))(hbase:C8 a m X.env (eval a X.env)=eval a X.env)(hline:(apos.endLine==pos.line)=Ab):SE X CL W (.Call (.Attribute a m apos) [] [] pos) (λU=>(fa U).bind λx=>LQ F m ms x):=λA=>by
 intro pI s Y H Q I ⟨hA,U,gd,q⟩;rw[arm_eval_Call,hbase];refine Aq (thn (ha A pI s Y H (λv H1=>Az H H1/\∃ d,Cr X.K CL H1 A v d/\AS (λH2=>Rep X.K CL H2 A) W H1 (LQ F m ms d) Q) I ⟨hA,U,gd,AS.bind q λd v H1 _ s1 r1 p1=>⟨s1,d,r1,p1⟩⟩) λu s1 ⟨v,H1,I1,rv,s1',d,rp,p1⟩=>?_)
 refine Aq (Eg ?_);have hform:Yb (([]:Ac An).length+([]:Ac DZ).length) (BA pos (As [] X.env)) (Ho pos (FW [] X.env))=Ab:=rfl;have hpos:GZ Ab a X.env apos pos=pure pos:=by
  unfold GZ;simp[hline]
 unfold methodCall;rw[hform];cases d with
 |obj c fs=>
  have p2:AS (λH2=>Rep X.K CL H2 A) W H1 (match ms.lookup c with|some id=>if (fs.lookup m).isNone=Ab then F id [.obj c fs] else .bad|none=>.bad) Q:=p1
  cases el:ms.lookup c with
  |none=>rw[el]at p2;exact p2.elim
  |some id=>
   rw[el]at p2;dsimp only at p2;split at p2
   .rename_i hn;obtain⟨e,C,dx,vs,rfl,na,hc,hH,rf⟩:=OJ rp;obtain⟨f,fd,ps,fr,cl,me,hb,G⟩:=hms c id C el hc;cases rv;refine Aq (E3 (Zn I1 hH cl me (Rc rf (DN.mp hn)) ?_));refine Aq (HP hpos ?_);refine PySem.W.callWith_K0 (first:=[.ref e]) I1.kIn me.kp (Ts (us:=[.ref e]) (vs:=[.ref e]) G hr hb .nil (hx A) I1 (.cons rfl .nil) ?_)
    refine⟨[.obj c fs],A,rfl,hA.same s1',⟨⟨e,C,dx,vs,rfl,na,hc,hH,rf⟩,trivial⟩,?_⟩;cases e2:F id [.obj c fs] with
    |ok d=>rw[e2]at p2;exact λv H2 s2 r2=>p2 v H2 s2 r2.1
    |exn y=>rw[e2]at p2;exact λcls dx H2 s2 xr=>⟨y,xr,p2 H2 s2⟩
    |bad=>rw[e2]at p2;exact p2.elim
   .exact p2.elim
 |_=>exact p1.elim
def spI(K:Fg)(CL:ClA)(G:Ac D->R D):Sp:=λvs H Q _=>∃(x C dx:Ak)(us:Ac V)(ds:Ac D)(A:Ak->Prop)(H0:Hp),vs=.ref x::us/\us.length=2/\Cls K C/\G1 K C "p"/\G1 K C "triple"/\H x=Aa (.ins C dx [])/\H0 x=Ae/\Az H0 H/\AOk H0 A/\Reps K CL H0 A us ds/\(match G ds with
  |.ok d=>∀ d1 d2,d=.tup [d1,d2]->∀ v1 v2 H',Az H0 H'->H' x=Aa (.ins C dx [("p",v1),("triple",v2)])->Rep K CL H' A v1 d1->Rep K CL H' A v2 d2->Q .non H'
  | _=>AW)
theorem fV{Q:VK}(p:AS Rp W H (EJ c d) Q):∃ d1 d2,d=.tup [d1,d2]/\EJ c d=.ok (.obj c [("p",d1),("triple",d2)]):=by
  cases d with
  |tup ds=>
    match ds,p with
    |[],p=>exact p.elim
    |[_],p=>exact p.elim
    |_::_::_::_,p=>exact p.elim
    |[a,b],p=>
      refine⟨a,b,rfl,?_⟩;have p2:AS Rp W H (if nlD 5 b=Ab then .ok (.obj c [("p",a),("triple",b)]) else .bad) Q:=p
      show (if nlD 5 b=Ab then R.ok (D.obj c [("p",a),("triple",b)]) else .bad)=_
      split at p2
      · rename_i z;rw[At z]
      · exact p2.elim
  |_=>exact p.elim
theorem eF{C f:Ak}{np pos:AD}{e:An}{es:Ac An}{fs:Rho->R (Ac D)}{G F:Ac D->R D}(M:Mk X.K C f)(hoc:OC X.K c=Aa C)(o:OCls X.K C)(FI:FnOk X.prog X.w X.K X.mg X.base (CXR X.prog X.w) k f fd ["self", "p", "numbers"] (spI X.K CL G))(hr:Room (k+1) X.A)(hb:EK X.K fd ["self", "p", "numbers"] [])(hx:∀ A,IH (CXR X.prog X.w) X (EKW X.K CL A W))(hF:∀ ds,ds.length=2->F ds=.bad\/F ds=(G ds).bind (EJ c))(hG:∀ ds y,G ds≠.exn y)(hg:Gl X g)(hm:X.mg g=Aa (.ref C))(hdb:(g==("__debug__" : Ag))=Ad)(ha:SA X CL W (e::es) fs)(hn:∀ U ds,fs U=.ok ds->ds.length=2)(he:As (e::es) X.env=(Ad,eval e X.env)::As es X.env)(hpl:(BA pos (As es X.env)).any (·.1)=Ad):SE X CL W (.Call (.Name g np) (e::es) [] pos) (λU=>(noX (fs U)).bind λds=>F ds):=λA=>by
 intro pI s Y H Q I ⟨hA,U,gd,p⟩;dsimp only at p;refine Di (HW I hg hm ?_ hdb);have q1:=ha A pos pI s Y H (λvs H1=>∃ ds,Az H H1/\ds.length=2/\Reps X.K CL H1 A vs ds/\AS (λH=>Rep X.K CL H A) W H (F ds) Q) I ⟨hA,U,gd,by
  cases e1:fs U with
  |bad=>rw[e1]at p;exact p
  |exn y=>rw[e1]at p;exact p.elim
  | ok ds=>rw[e1]at p;exact λvs H1 s1 r1=>⟨ds,s1,hn U ds e1,r1,p⟩⟩
 refine En (h₀:=X.base) I.ok.mod.kin M.kp (thn q1 λus s1 ⟨vs,H1,I1,r,ds,sm,hl,rps,q⟩=>⟨I1.kIn,?_⟩) he hpl
 rcases hF ds hl with z|z
 .rw[z]at q;exact q.elim
 .rw[z]at q;cases e2:G ds with
  |bad=>rw[e2]at q;exact q.elim
  |exn y=>exact absurd e2 (hG ds y)
  |ok d=>
   rw[e2]at q;have q':AS (λH=>Rep X.K CL H A) W H (EJ c d) Q:=q
   obtain⟨d1,d2,rfl,em⟩:=fV q';rw[em]at q';refine ZV (Q:=Q) (E:=EKW X.K CL A W) M FI hr hb .nil (hx A) I1 r λx dx nx ndx ne=>?_
   refine⟨x,C,dx,vs,ds,A,H1,by rw[CC],by rw[rps.length];exact hl,o.cl,o.np,o.nt,DJ,nx,λb ob h=>?_,hA.same sm,rps,?_⟩
   .have n1:b≠x:=λz=>by rw[z,nx]at h;cases h
    have n2:b≠dx:=λz=>by rw[z,ndx]at h;cases h
    rw[Bj n1,Bj n2];exact h
   .rw[e2];exact λe1 e3 ee v1 v2 H' sm2 hx' r1 r2=>by
     cases ee;exact⟨rfl,q' _ H' (sm.trans sm2) ⟨x,C,dx,_,rfl,(hA.same sm).new nx,hoc,hx',⟨⟨rfl,r1⟩,⟨rfl,r2⟩,trivial⟩⟩⟩
theorem Zx{p0 p4 p5 p6:AD}{id:Af}{t0:Cx}{H0:Hp}{x dx:Ak}{v1 v2:V}{Q:VK}(pself:∀ p,PE X (.Name "self" p) (EX 0))(pp:∀ p,PE X (.Name "p" p) (EX 1))(hv:SE X CL W ev (λU=>evE Z U (.call id (.cons (.var 1) (.cons (.var 2) .nil)))))(hs:CS ev (Aa (.Attribute (.Name "self" p3) "triple" p4)) p5.line X.env=pure Ad):
    ∃ t,PSs X [.Assign [.Attribute (.Name "self" p0) "p" p1] (.Name "p" p2) p6,.Assign [.Attribute (.Name "self" p3) "triple" p4] ev p5] t /\
      (Y=[Aa (.ref x),Aa v1,Aa v2]->Cls X.K C->G1 X.K C "p"->G1 X.K C "triple"->H x=Aa (.ins C dx [])->H0 x=Ae->Az H0 H->AOk H0 A->Rep X.K CL H0 A v1 d1->Rep X.K CL H0 A v2 d2 ->
        (∃ t,Z.F id [d1,d2]=.ok t/\nlD 5 t=Ab/\∀ w1 w2 H',Az H0 H'->H' x=Aa (.ins C dx [("p",w1),("triple",w2)])->Rep X.K CL H' A w1 d1->Rep X.K CL H' A w2 t->Q .non H')->t {nx:=λ_ H'=>Q .non H',rt:=Q} Y H):=by
  have all:=Ot (Tu (X:=X) (f := "p") (pos:=p6) (pos':=p1) (pself p0) (pp p2) rfl) (Kv (Tu (X:=X) (f := "triple") (pos:=p5) (pos':=p4) (pself p3) (hv A) hs));refine⟨_,all,?_⟩;rintro rfl cl np nt hx h0 sm hA r1 r2 ⟨t,ef,hnl,q⟩;have nx:∀ b o,H0 b=Aa o->b≠x:=λb o e z=>by rw[z,h0]at e;cases e
  have sm2:Az H0 (upd H x (.ins C dx (Ff "p" v1 []))):=λb o e=>by rw[Bj (nx b o e)];exact sm b o e
  refine⟨v1,rfl,.ref x,rfl,x,C,dx,[],rfl,hx,cl,np,by decide,hA.same sm2,[Ae,Aa (d1,Ad),Aa (d2,Ad)],⟨λi d h=>?_,λi d h=>?_,rfl⟩,?_⟩
  · match i,h with
    |0,h=>cases h
    |1,h=>cases h;exact⟨v1,rfl,Rep.same sm2 r1⟩
    |2,h=>cases h;exact⟨v2,rfl,Rep.same sm2 r2⟩
    |n+3,h=>cases h
  · match i,h with
    |0,h=>cases h
    |1,h=>cases h
    |2,h=>cases h
    |n+3,h=>cases h
  · have ee:evE Z [Ae,Aa (d1,Ad),Aa (d2,Ad)] (.call id (.cons (.var 1) (.cons (.var 2) .nil)))=.ok t:=by
      show ((Z.F id [d1,d2]).bind λd=>.ok d)=_
      rw[ef];rfl
    dsimp only;rw[ee];intro w2 H3 s3 r3;have hx3:H3 x=Aa (.ins C dx [("p",v1)]):=s3 _ _ DJ;refine⟨.ref x,rfl,x,C,dx,[("p",v1)],rfl,hx3,cl,nt,show 1<1000 by decide,?_⟩
    have sm4:Az H0 (upd H3 x (.ins C dx (Ff "triple" w2 [("p",v1)]))):=λb o e=>by rw[Bj (nx b o e)];exact s3 _ _ (sm2 b o e)
    exact q v1 w2 _ sm4 DJ (Rep.same sm4 r1) (TB hx3 5 t hnl r3)
end
theorem Pi{i:Af}(h:GK U i=Ab):U[i]?=Aa (Aa (.non,Ab)):=by
 unfold GK at h;split at h
 .rename_i e;exact e
 .cases h
theorem HX{i:Af}(hi:U[i]?=Aa (Aa (d,Ab)))(j:Af)(e:D):(U.set i (Aa (d',Ab)))[j]?=Aa (Aa (e,Ab))↔(i=j/\e=d')\/(i≠j/\U[j]?=Aa (Aa (e,Ab))):=by
 have hil:=(A5.mp hi).1;by_cases hj:i=j
 .subst hj;rw[Cu hil];simp;exact⟨λz=>z.symm,λz=>z.symm⟩
 .rw[BQ hj];simp[hj]
theorem Iy{i:Af}(hi:U[i]?=Aa (Aa (d,Ab)))(b:Ak):Bq B (U.set i (Aa (d',Ab))) Y b↔Bq B U Y b:=by
 constructor
 .rintro (h|⟨j,e,h1,h2⟩)
  .exact .inl h
  .rcases (HX hi j e).mp h1 with ⟨rfl,_⟩|⟨_,h1⟩
   .exact .inr ⟨i,d,hi,h2⟩
   .exact .inr ⟨j,e,h1,h2⟩
 .rintro (h|⟨j,e,h1,h2⟩)
  .exact .inl h
  .by_cases hj:i=j
   .subst hj;exact .inr ⟨i,d',(HX hi i _).mpr (.inl ⟨rfl,rfl⟩),h2⟩
   .exact .inr ⟨j,e,(HX hi j e).mpr (.inr ⟨hj,h1⟩),h2⟩
section
variable{K:Fg}{CL:ClA}{Fz Fy:Fr}{B:Ak->Prop}{U:Rho}{Y:L2.St}{H:Hp}{W:XW}
theorem Sx.dis2(x:Sx K CL Fz B U Y H){i:Af}(hi:U[i]?=Aa (Aa (d,Ab)))(j k:Af)(e f:D)(b:Ak)(g1:(U.set i (Aa (d',Ab)))[j]?=Aa (Aa (e,Ab)))(g2:(U.set i (Aa (d',Ab)))[k]?=Aa (Aa (f,Ab)))(g3:Y[j]?=Aa (Aa (.ref b)))(g4:Y[k]?=Aa (Aa (.ref b))):j=k:=by
 rcases (HX hi j e).mp g1 with ⟨rfl,_⟩|⟨hj,h'⟩
 .rcases (HX hi k f).mp g2 with ⟨rfl,_⟩|⟨hk,h''⟩
  .rfl
  .exact x.dis i k d f b hi h'' g3 g4
 .rcases (HX hi k f).mp g2 with ⟨rfl,_⟩|⟨hk,h''⟩
  .exact x.dis j i e d b h' hi g3 g4
  .exact x.dis j k e f b h' h'' g3 g4
theorem Sx.new2(x:Sx K CL Fz B U Y H){i:Af}(hi:U[i]?=Aa (Aa (d,Ab)))(j:Af)(e:D)(b:Ak)(g1:(U.set i (Aa (d',Ab)))[j]?=Aa (Aa (e,Ab)))(g2:Y[j]?=Aa (Aa (.ref b))):((∀ o,¬ Fz b o)/\¬ B b)/\∃(j:Af)(d:D),U[j]?=Aa (Aa (d,Ab))/\Y[j]?=Aa (Aa (.ref b)):=by
 rcases (HX hi j e).mp g1 with ⟨rfl,_⟩|⟨_,h'⟩
 .exact⟨x.new i d b hi g2,i,d,hi,g2⟩
 .exact⟨x.new j e b h' g2,j,e,h',g2⟩
theorem Sx.sh2(x:Sx K CL Fz B U Y H){i:Af}(hi:U[i]?=Aa (Aa (d,Ab)))(j:Af)(e:D)(h:(U.set i (Aa (d',Ab)))[j]?=Aa (Aa (e,Ad))):∃ v,Y[j]?=Aa (Aa v)/\Rep K CL H (Bq B (U.set i (Aa (d',Ab))) Y) v e:=by
 have hj:i≠j:=by
  rintro rfl;have:=Gp h;cases this
 rw[BQ hj]at h;obtain⟨v,q,r⟩:=x.good.sh j e h;exact⟨v,q,Rep.sub (λb hb=>(Iy hi b).mp hb) _ r⟩
theorem Sx.pinned(x:Sx K CL Fz B U Y H){i:Af}{ds:Ac D}{a:Ak}{xs:Ac V}(hi:U[i]?=Aa (Aa (.lst ds,Ab)))(ha:Y[i]?=Aa (Aa (.ref a)))(hh:H a=Aa (.lst xs)):Sx K CL ⟨λb o=>H b=Aa o/\¬ ∃(j:Af)(d:D),U[j]?=Aa (Aa (d,Ab))/\Y[j]?=Aa (Aa (.ref b)),λj b ys=>(j=i/\b=a/\ys=xs)\/(j≠i/\Fz.pin j b ys)⟩ B (U.set i (Aa (.non,Ab))) Y H:=by
 refine⟨⟨x.sh2 hi,λj e h hn=>?_,by rw[AV];exact x.len⟩,λb h=>x.aok b ((Iy hi b).mp h),λj e b g1 g2=>⟨λo z=>z.2 (x.new2 hi j e b g1 g2).2,(x.new2 hi j e b g1 g2).1.2⟩,x.dis2 hi,λb o z=>z.1,by rw[AV];exact x.len,λj h=>?_⟩
 .rcases (HX hi j e).mp h with ⟨_,rfl⟩|⟨hj,h'⟩
  .exact absurd rfl hn
  .obtain⟨b,ys,es,q,z,hb,h2,rr⟩:=x.good.ow j e h' hn;exact⟨b,ys,es,q,z,(Iy hi b).mpr hb,h2,Reps.sub (λb hb=>(Iy hi b).mp hb) _ rr⟩
 .by_cases hj:i=j
  .exact⟨a,xs,.inl ⟨hj.symm,rfl,rfl⟩,hj ▸ ha,hh⟩
  .rw[BQ hj]at h;obtain⟨b,ys,p1,p2⟩:=x.pin j h;exact⟨b,ys,.inr ⟨CI hj,p1⟩,p2⟩
theorem Sx.unpinned(x:Sx K CL Fy B U Y H){i:Af}{ds:Ac D}{a:Ak}{xs:Ac V}(hi:U[i]?=Aa (Aa (.non,Ab)))(hf:∀ b o,Fz b o->Fy b o)(hpn:∀ j b ys,Fy.pin j b ys->(j=i/\b=a/\ys=xs)\/(j≠i/\Fz.pin j b ys))(r:Reps K CL H (Bq B U Y) xs ds):Sx K CL Fz B (U.set i (Aa (.lst ds,Ab))) Y H:=by
 refine⟨⟨x.sh2 hi,λj e h hn=>?_,by rw[AV];exact x.len⟩,λb h=>x.aok b ((Iy hi b).mp h),λj e b g1 g2=>⟨λo z=>(x.new2 hi j e b g1 g2).1.1 o (hf b o z),(x.new2 hi j e b g1 g2).1.2⟩,x.dis2 hi,λb o z=>x.same b o (hf b o z),by rw[AV];exact x.len,λj h=>?_⟩
 .rcases (HX hi j e).mp h with ⟨rfl,rfl⟩|⟨hj,h'⟩
  .obtain⟨b,ys,p1,p2,p3⟩:=x.pin i hi;rcases hpn i b ys p1 with ⟨_,rfl,rfl⟩|⟨z,_⟩
   .exact⟨b,ys,ds,p2,rfl,(Iy hi b).mpr (.inr ⟨i,.non,hi,p2⟩),p3,Reps.sub (λb hb=>(Iy hi b).mp hb) _ r⟩
   .exact absurd rfl z
  .obtain⟨b,ys,es,q,z,hb,h2,rr⟩:=x.good.ow j e h' hn;exact⟨b,ys,es,q,z,(Iy hi b).mpr hb,h2,Reps.sub (λb hb=>(Iy hi b).mp hb) _ rr⟩
 .rcases (HX hi j _).mp h with ⟨_,z⟩|⟨hj,h'⟩
  .cases z
  .obtain⟨b,ys,p1,p2⟩:=x.pin j h';rcases hpn j b ys p1 with ⟨z,_⟩|⟨_,z⟩
   .exact absurd z.symm hj
   .exact⟨b,ys,z,p2⟩
theorem Bx.turnO{i:Af}{ds:Ac D}{o:O}{g:Rho->O}{D':Ends}{N:L2.St->Hp->Prop}(hf:∀ b q,Fz b q->Fy b q)(hu:∀ U' Y' H',Sx K CL Fy B U' Y' H'->GK U' i=Ab->Sx K CL Fz B (U'.set i (Aa (.lst ds,Ab))) Y' H')(h:Bx K CL Fz B W (J4 i ds (o.turn g)) D')(k:∀ U' Y' H',Sx K CL Fy B U' Y' H'->Bx K CL Fz B W (J4 i ds (g U')) D'->N Y' H'):Bx K CL Fy B W o {D' with nx:=N,ct:=N,bk:=D'.nx}:=by
 cases o with
 |next U'=>exact λY' H' x=>k U' Y' H' x h
 |cont U'=>exact λY' H' x=>k U' Y' H' x h
 |brk U'=>
  have h':Bx K CL Fz B W (if GK U' i=Ab then .next (U'.set i (Aa (.lst ds,Ab))) else .bad) D':=h
  by_cases hp:GK U' i=Ab
  .rw[At hp]at h';exact λY' H' x=>h' Y' H' (hu U' Y' H' x hp)
  .rw[AC hp]at h';exact h'.elim
 |ret d b=>exact λv H' s r n=>h v H' (λb o z=>s b o (hf b o z)) r λz ds e=>let ⟨a,xs,h1,h2,h3⟩:=n z ds e;⟨a,xs,h1,λo q=>h2 o (hf a o q),h3⟩
 |exn y U'=>exact h.elim
 |bad=>exact h
end
section
variable{X:Cx}{CL:ClA}{W:XW}
theorem dR{i:Af}{es:Ac An}{n:Af}{tpos:AD}{a:An}{fbd:Rho->O}{as:D->Rho->R Rho}{g:TG}(hp:DX (model X.prog X.w) X.A X.env X.xe)(hc:X.calm=Ab)(hGT:GT X.K CL as g)(hg:PG X (.Tuple es n tpos) g)(ha:PE X a (EX i))(hgl:Gl X "enumerate")(hm:X.mg "enumerate" = Ae)(hst:As [a] X.env=[(Ad,eval a X.env)])(hb:SSs X CL W body fbd)(hs:∀ x,B4 (.Call (.Name "enumerate" p1) [a] [] cpos) X.env x=pure x)(hax:∀ d U x,as d U≠.exn x):
  SS X CL W (.For (.Tuple es n tpos) (.Call (.Name "enumerate" p1) [a] [] cpos) body [] pos) (λU=>O.of U (Ea U i) λxs=>J4 i xs (Dk (λx U'=>if GK U' i=Ab then O.of U' (as x U') fbd else .bad) (CM 0 xs) (U.set i (Aa (.non,Ab))))):=λFz B pI s Y H D I ⟨U,x,p⟩=>by
 dsimp only at p;cases e:Ea U i with
 |bad=>rw[e]at p;exact p.elim
 |exn y=>exact(Rv e).elim
 |ok ds=>
  rw[e,O.of_ok]at p;have hi:=Sk e;obtain⟨a',xs,ds',qa,e2,oa,hh,r⟩:=x.good.ow i _ hi (λz=>nomatch z)
  have ez:ds=ds':=by injection e2
  subst ez;refine Tt hp hc (SN hgl hm (DT ha Ft hst) hst) hg (tb:=λD Y H=>∃ Fy,(λD Y H=>∃ U,Sx X.K CL Fy B U Y H/\Bx X.K CL Fy B W (fbd U) D) D Y H) (λpI s Y H D I ⟨Fy,q⟩=>hb Fy B pI s Y H D I q) hs pI s Y H D I ?_
  refine⟨.ref a',qa,Ad,a',xs,rfl,SqL.of hh,λhz=>?_⟩
  generalize hbd:(fun(x:Ov.D)(U':Rho)=>if GK U' i=Ab then O.of U' (as x U') fbd else .bad)=bd at p
  let Fy:Fr:=⟨λb o=>H b=Aa o/\¬ ∃(j:Af)(d:Ov.D),U[j]?=Aa (Aa (d,Ab))/\Y[j]?=Aa (Aa (.ref b)),λj b ys=>(j=i/\b=a'/\ys=xs)\/(j≠i/\Fz.pin j b ys)⟩
  have hfy:∀ b o,Fz b o->Fy b o:=λb o z=>⟨x.same b o z,λ⟨j,d,h1,h2⟩=>(x.new j d b h1 h2).1 o z⟩
  have xy:Sx X.K CL Fy B (U.set i (Aa (.non,Ab))) Y H:=x.pinned hi qa hh;have wd:∀{U':Rho}{Y':L2.St}{H':Hp},Sx X.K CL Fy B U' Y' H'->∀ b,Bq B U' Y' b->Bq B U Y b\/H b=Ae:=λ{U' Y' H'} x' b hb'=>by
   rcases hb' with h|⟨j,d,h1,h2⟩
   .exact .inl (.inl h)
   .cases e:H b with
    |none=>exact .inr rfl
    |some o=>
     by_cases ho:∃(j:Af)(d:Ov.D),U[j]?=Aa (Aa (d,Ab))/\Y[j]?=Aa (Aa (.ref b))
     .exact .inl (.inr ho)
     .exact absurd ⟨e,ho⟩ ((x'.new j d b h1 h2).1 o)
  have kpx:∀{U':Rho}{Y':L2.St}{H':Hp},Sx X.K CL Fy B U' Y' H'->Kp (Bq B U Y) H H':=λ{U' Y' H'} x' b o e na=>x'.same b o ⟨e,λz=>na (.inr z)⟩
  have later:∀{U':Rho}{Y':L2.St}{H':Hp},Sx X.K CL Fy B U' Y' H'->Reps X.K CL H' (Bq B U' Y') xs ds:=λ{U' Y' H'} x'=>by
   have r1:Reps X.K CL H (λb=>Bq B U Y b\/Bq B U' Y' b) xs ds:=Reps.wide (λb hb'=>hb'.elim .inl (wd x' b)) _ r
   have r2:Reps X.K CL H' (λb=>Bq B U Y b\/Bq B U' Y' b) xs ds:=Reps.kp (λb o e na=>kpx x' b o e λz=>na (.inl z)) _ r1
   exact Reps.sub (λb hb'=>.inr hb') _ r2
  have hu:∀ U' Y' H',Sx X.K CL Fy B U' Y' H'->GK U' i=Ab->Sx X.K CL Fz B (U'.set i (Aa (.lst ds,Ab))) Y' H':=λU' Y' H' x' hp'=>x'.unpinned (Pi hp') hfy (λj b ys z=>z) (later x')
  refine⟨λk m Y' H'=>m=ds.length-k/\k<=ds.length/\∃ U',Sx X.K CL Fy B U' Y' H'/\Bx X.K CL Fz B W (J4 i ds (Dk bd ((CM 0 ds).drop k) U')) D,⟨ds.length,by simp,DW _,_,xy,p⟩,?_⟩
  rintro k m Y' H' ⟨rfl,hk,U',x',q'⟩;have hle:(CM 0 ds).length=ds.length:=MA _ _;by_cases hlt:k<ds.length
  .have hlt':k<(CM 0 ds).length:=by rw[hle];exact hlt
   rw[DL hlt']at q';have q2:Bx X.K CL Fz B W (J4 i ds ((bd (CM 0 ds)[k] U').turn (Dk bd ((CM 0 ds).drop (k+1))))) D:=q';have hd:(CM 0 ds)[k]?=Aa (CM 0 ds)[k]:=Bc hlt';obtain⟨y,hy,ed⟩:=Op _ _ _ _ hd;by_cases hpin:GK U' i=Ab
   .have hpin':=Pi hpin;obtain⟨b,ys,p1',p2',p3'⟩:=x'.pin i hpin';have hab:b=a'/\ys=xs:=by
     rcases p1' with ⟨_,h1,h2⟩|⟨z,_⟩
     .exact⟨h1,h2⟩
     .exact absurd rfl z
    obtain⟨rfl,rfl⟩:=hab;have sq:SqX Ad X.K H' b ys:=SqL.of p3';obtain⟨u,hu1,ru⟩:=(later x').get hy;refine .inr ⟨⟨ys,u,sq,hu1⟩,λY'' H''=>∃ U'',Sx X.K CL Fy B U'' Y'' H''/\Bx X.K CL Fz B W (J4 i ds (Dk bd ((CM 0 ds).drop (k+1)) U'')) D,λY'' H'' z=>⟨ds.length-(k+1),by omega,rfl,hlt,z⟩,?_⟩
    rintro w' H2 ⟨pp,x2,hpp,rfl,c1,rfl⟩;have ex:x2=u:=Bl ((c1 ys sq).symm.trans hu1);subst ex;have sm:Az H' (L2.upd H' pp (.tup [.int k,x2])):=ET hpp _;have rv:Rep X.K CL (L2.upd H' pp (.tup [.int k,x2])) (Bq B U' Y') (.ref pp) (CM 0 ds)[k]:=by
     rw[ed,Jc];exact Kx x'.aok hpp ⟨rfl,ru,trivial⟩
    have eb:bd (CM 0 ds)[k] U'=O.of U' (as (CM 0 ds)[k] U') fbd:=by rw[<-hbd];exact At hpin
    rw[eb]at q2;cases ea:as (CM 0 ds)[k] U' with
    |bad=>rw[ea]at q2;exact q2.elim
    |exn z=>exact absurd ea (hax _ _ z)
    |ok U2=>
     rw[ea,O.of_ok]at q2;exact hGT Fy B U' Y' _ _ _ U2 _ (x'.grow sm) rv ea λY3 x3=>⟨Fy,U2,x3,Bx.turnO hfy hu q2 λU3 Y3 H3 x3 q3=>⟨U3,x3,q3⟩⟩
   .have eb:bd (CM 0 ds)[k] U'=.bad:=by rw[<-hbd];exact AC hpin
    rw[eb]at q2;exact q2.elim
  .have hk':(CM 0 ds).length<=k:=by omega
   rw[Ep hk']at q';have q2:Bx X.K CL Fz B W (if GK U' i=Ab then .next (U'.set i (Aa (.lst ds,Ab))) else .bad) D:=q'
   by_cases hpin:GK U' i=Ab
   .rw[At hpin]at q2;obtain⟨b,ys,p1',p2',p3'⟩:=x'.pin i (Pi hpin);have hab:b=a'/\ys=xs:=by
     rcases p1' with ⟨_,h1,h2⟩|⟨z,_⟩
     .exact⟨h1,h2⟩
     .exact absurd rfl z
    obtain⟨rfl,rfl⟩:=hab;exact .inl ⟨⟨ys,SqL.of p3',by rw[(later x').length];omega⟩,q2 Y' H' (hu U' Y' H' x' hpin)⟩
   .rw[AC hpin]at q2;exact q2.elim
end
theorem Un.shiftX{fs0 fs ex xs:Ac Ak}{h0:AG}(u:Un fs0 xs H H' h0 h)(sh:Shift ex fs h h')(h1:∀ b∈ex,h0.get? b=Ae)(h2:∀ b∈fs,b∈fs0\/h0.get? b=Ae):Un fs0 xs H H' h0 h' where
 keep:=λb o q n hb hx=>sh.keep b o (u.keep b o q n hb hx) (λz=>by rw[h1 b z]at q;cases q) λz=>(h2 b z).elim hb λe=>by rw[e]at q;cases q
 slot:=λb o q n hb hx=>by
  obtain⟨sl,e1⟩:=u.slot b o q n hb hx;by_cases hf:b∈fs
  .obtain⟨sl',e2⟩:=sh.slot b _ e1 hf;exact⟨sl',e2⟩
  .exact⟨sl,sh.keep b _ e1 (λz=>by rw[h1 b z]at q;cases q) hf⟩
 free:=u.free
 there:=λb o q hx=>by
  obtain⟨o',e1⟩:=u.there b o q hx;by_cases hf:b∈fs
  .obtain⟨sl',e2⟩:=sh.slot b _ e1 hf;exact⟨_,e2⟩
  .exact⟨o',sh.keep b _ e1 (λz=>by rw[h1 b z]at q;cases q) hf⟩
 tups:=u.tups
 frzs:=u.frzs
 tbls:=u.tbls
section
variable{M:Gi}{A:AU}{E:Vq}{s:Ap}{env:Ci}{outer:Ac Ci}{L e T:Ak}{cls:Aj}{dx:Ao Ak}{base:AG}
theorem Zz(hfr:A.frames=Aa (env::outer))(hf:env.frame=Aa L)(ff:s.heap.FunFrames base (env::outer))(fl:HF e T cls dx fv s.heap)(hQ:∀ h' T' fl',HF e T' cls dx fl' h'->Shift [e,T] (frs (env::outer)) s.heap h'->(T'=T\/s.heap.get? T'=Ae)->Q () {s with heap:=h'}):Av M A (DY (.ref e) env) Q E s:=by
 obtain⟨oe,vs,oT,ts,a0,he,hc,hx,h0,dt,h1,ne,hT,dT,h3⟩:=id fl;have z3:=HQ h3;unfold DY;simp only[hf];refine Aq (Cq he dt h1 ?_);rw[At (by simp:(Bk T != CD)=Ab)]
 refine Aq (Cq hT dT h3 ?_);by_cases hz:(fv==D8 L)=Ab
 .rw[At hz];exact AT (hQ s.heap T fv fl ⟨λb o q _ _=>q,λb o q _=>⟨o.slots,q⟩⟩ (.inl rfl))
 rw[AC hz];refine Aq (D1 hT dT z3 ?_);have up:∀ b,b≠T->(s.heap.update T (E2 (·.setIfInBounds 3 CD))).get? b=s.heap.get? b:=λb nb=>BU _ _ (CI nb)
 have rcd:∀ b o,s.heap.get? b=Aa o->(∀ us,o.data≠.fields us)->b≠T:=λb o q n z=>by
  rw[z,hT]at q;cases q;exact n ts dT
 refine Om (base:=base) hfr hf (ff.of_keeps λb o q n=>⟨o,(up b (rcd b o q n)).trans q,rfl⟩) ((up e (CI ne)).trans he) dt (HQ h1) λh' T' oT' ts' g nT gn gT dT' f3 sh=>?_
 have T0:s.heap.get? T'=Ae:=by
  by_cases z:T'=T
  .rw[z]at gn;rw[Cp _ hT (Dg (Ca dT _))]at gn;cases gn
  .rw[<-up T' z];exact gn
 refine hQ h' T' _ (Od hc hx h0 dt (HQ h1) g nT gT dT' f3) ⟨λb o q n1 n2=>?_,λb o q hb=>?_⟩ (.inr T0)
 .simp only[AI,Ch,EB,GV]at n1;exact sh.keep b o ((up b n1.2).trans q) (by simp[n1.1]) n2
 .obtain⟨_,o',q',n⟩:=ff.mem hb;rw[q]at q';cases q';exact sh.slot b o ((up b (rcd b o q n)).trans q) hb
theorem aP{fr:Ao Ak}(fl:HF e T cls dx fv s.heap)(hQ:∀ h' fl',HF e T cls dx fl' h'->(∀ b o,b≠T->s.heap.get? b=Aa o->h'.get? b=Aa o)->Q () {s with heap:=h'}):Av M A (Gc (.ref e) fr) Q E s:=by
 obtain⟨oe,vs,oT,ts,a0,he,hc,hx,h0,dt,h1,ne,hT,dT,h3⟩:=fl;have z3:=HQ h3;unfold Gc;refine Aq (Cq he dt h1 ?_);rw[At (by simp:(Bk T != CD)=Ab)]
 refine D1 hT dT z3 (hQ _ (fr.elim CD λf=>D8 f) ?_ λb o nb q=>(BU _ _ (CI nb)).trans q)
 exact⟨oe,vs,_,_,a0,(BU _ _ ne).trans he,hc,hx,h0,dt,h1,ne,Cp _ hT (Dg (Ca dT _)),Ca dT _,by simp[z3]⟩
theorem Zp(hfr:A.frames=Aa (env::outer))(hf:env.frame=Aa L)(ff:s.heap.FunFrames base (env::outer))(fl:HF e T cls dx fv s.heap)(hQ:∀ h' T',Fly e T' cls dx h'->Shift [e,T] (frs (env::outer)) s.heap h'->(T'=T\/s.heap.get? T'=Ae)->Q () {s with heap:=h'}):Av M A (leaving env (.ref e)) Q E s:=by
 unfold leaving;refine Aq (Zz hfr hf ff fl λh1 T' fl' f1 sh hT=>Ly f1 λh2 f2 k=>hQ h2 T' f2 ?_ hT)
 rcases hT with rfl|hT
 .obtain⟨oe,vs,oT,ts,a0,he,hc,hx,h0,dt,h1,ne,hTT,dT,h3⟩:=id fl;refine⟨λb o q n1 n2=>k b o (λz=>n1 (by rw[z];simp)) (sh.keep b o q n1 n2),λb o q hb=>?_⟩
  obtain⟨sl,q2⟩:=sh.slot b o q hb;refine⟨sl,k b _ (λz=>?_) q2⟩
  obtain⟨_,o',q',n⟩:=ff.mem hb;rw[z,hTT]at q';cases q';exact n ts dT
 .exact Mu ff sh hT k
end
def K5(X:Cx)(CL:ClA)(W:XW):Prop:=∀ pI Y H s e T cls dx fl x,Inv X pI Y H s->(X.ex=[]->X.s₀.heap.get? e=Ae/\X.s₀.heap.get? T=Ae)->H e=Ae->H T=Ae->HF e T cls dx fl s.heap->Fe X.K CL H cls dx x->W x H->X.xe (.ref e) s
theorem VG:K5 X CL W0:=λ_ _ _ _ _ _ _ _ _ _ _ _ _ _ _ _ z=>z.elim
section
variable{P:AM}{w:AA}{K:Fg}{mg:Ag->Ao Aj}{base:AG}{N:Ac Ag}{qual:Ag}{scope:BN}{f:Ak}{cd:Aj}{A:AU}{outer:Ac Ci}{s:Ap}{H:Hp}{E:XK}{CL:ClA}{W:XW}
theorem fzR(hE:∀ x cls dx H',W x H'->Fe K CL H' cls dx x->E cls dx H'):K5 (Fh (CXR P w) P w K mg base N qual scope f cd A outer s H E) CL W:=by
 intro pI Y H1 s1 e T cls dx fl x I e0 he hT ge xr hw;have hb0:Un (frs outer) [] H H1 s.heap s1.heap:=I.base;obtain⟨e0,T0⟩:=e0 rfl;have e0:s.heap.get? e=Ae:=e0;have T0:s.heap.get? T=Ae:=T0;show Av (model P w) (A.deeper (Ek qual scope s.heap.objs.size f cd)) (leaving (Ek qual scope s.heap.objs.size f cd) (.ref e)) _ _ s1;refine Zp (L:=s.heap.objs.size) I.ok.frames rfl I.stack ge λh' T' fl' sh hT'=>?_
 refine⟨e,T',cls,dx,H1,rfl,I.os,I.bare,Un.shift hb0 sh ?_ (MJ I),HOk.shift I.hok sh ?_ I.stkFree,fl',he,?_,e0,?_,hE x cls dx H1 hw xr⟩
 .intro b hb;rcases AI.mp hb with rfl|hb
  .exact e0
  .rw[Bf.mp hb];exact T0
 .intro b hb;rcases AI.mp hb with rfl|hb
  .exact he
  .rw[Bf.mp hb];exact hT
 .rcases hT' with rfl|z
  .exact hT
  .exact HS I.hok z
 .rcases hT' with rfl|z
  .exact T0
  .exact HR I rfl z
end
section
variable{X:Cx}{CL:ClA}{W:XW}
theorem Ze{s:Ap}{cl:Ac (Ag×Ak)}{C D:Ak}{fp:Ac Ak}{Q0:VK}(hst:X.stack=X.env::X.outer)(hfm:X.env.frame=Aa X.env.locals)(I:Inv X pI Y H s)(hf:∀ b∈fp,GJ X pI H b)(fz:K5 X CL W)(hC:s.heap.objs.size<=C)(hpl:∀ b∈fp,∃ o,(b,o)∈pl):∀ pins' H1 s1 ev s',Inv (Cx.pw (cxC X scope cl C N' s H fp) pl Xw) pins' Y0 H1 s1->CXR X.prog X.w X.stack H1 s1 (EKW X.K CL A' W) ev s'->GE (model X.prog X.w) X.A (GD scope cl C X.env) (λe s''=>JL (model X.prog X.w) X.A X.xe Ae (EP X pI Y Q0) (.ref D) C (.error e) s'') ev s':=by
  intro pins' H1 s1 ev s' J h;obtain⟨e,T,cls,dx,H',rfl,os,bare,un,hok,fl,he,hT,ne,nT,x,xr,wx⟩:=h;have J':Inv (Cx.pw (cxC X scope cl C N' s H fp) pl Xw) pins' Y0 H' s':=J.call' (s':=s') (ch:=[]) os un hok bare (λb z=>absurd z (by simp))
  have fresh:∀{H2:Hp}{s2:Ap},Inv (Cx.pw (cxC X scope cl C N' s H fp) pl Xw) pins' Y0 H2 s2->∀ b,s2.heap.get? b=Ae->s.heap.get? b=Ae:=λ{H2 s2} K2 b hb=>by
    cases q:s.heap.get? b with
    |none=>rfl
    |some o=>
      by_cases hx:b∈fp
      · obtain⟨o',ho⟩:=hpl b hx;have:=(K2.pin (b,o') (EO _ (Bh _ ho))).1;rw[hb]at this;cases this
      · have K0:Un (frs X.stack) fp H H2 s.heap s2.heap:=K2.base;obtain⟨o',z⟩:=K0.there b o q hx;rw[hb]at z;cases z
  have e0:=fresh J e ne;have T0:=fresh J T nT;have u1:Un (frs X.stack) fp H H' s.heap s'.heap:=J'.base;have C0:s.heap.get? C=Ae:=CJ hC;have en:DY (.ref e) (GD scope cl C X.env)=DY (.ref e) X.env:=rfl;show Av _ X.A (DY (.ref e) (GD scope cl C X.env)) _ _ s';rw[en];have fr':X.A.frames=Aa (X.env::X.outer):=by rw[<-hst];exact J'.ok.frames
  have ff':s'.heap.FunFrames X.base (X.env::X.outer):=by rw[<-hst];exact J'.stack
  refine On (base:=X.base) fr' hfm ff' fl λh2 T2 f2 sh hT2=>?_
  rw[<-hst]at sh;obtain⟨m,hm,_⟩:=J'.loc;have hm:s'.heap.Ns C m:=hm;have noF:C∉frs X.stack:=λz=>by
    obtain⟨_,o,ho,_⟩:=I.stack.mem z;rw[C0]at ho;cases ho
  obtain⟨oe,vs,oT,ts,a0,ge,gc,gd,g0,gt,g1,gne,gT,gdT,g3⟩:=id fl;have Ce:C≠e:=λz=>by
    obtain⟨o,es,ep,q,qd,_⟩:=hm;rw[z,ge]at q;cases q;rw[gt]at qd;cases qd
  have CT:C≠T:=λz=>by
    obtain⟨o,es,ep,q,qd,_⟩:=hm;rw[z,gT]at q;cases q;rw[gdT]at qd;cases qd
  have CT2:C≠T2:=λz=>by
    obtain⟨o,es,ep,q,qd,_⟩:=hm;rw[z,hT2]at q;cases q
  have cN:h2.Ns C m:=by
    obtain⟨o,es,ep,q,qd⟩:=hm;exact⟨o,es,ep,sh.keep C o q (by simp[Ce,CT]) noF,qd⟩
  refine⟨m,cN,λh3 sb cenv hcv=>?_⟩
  have k3:∀ b o,b≠C->h2.get? b=Aa o->h3.get? b=Aa o:=λb o hb q=>(sb.2 b hb).trans q
  have f3:HF e T2 cls dx (D8 X.env.locals) h3:=by
    obtain⟨oe,vs,oT,ts,a0,ge,gc,gd,g0,gt,g1,gne,gT,gdT,g3⟩:=f2;exact⟨oe,vs,oT,ts,a0,k3 e oe (CI Ce) ge,gc,gd,g0,gt,g1,gne,k3 T2 oT (CI CT2) gT,gdT,g3⟩
  unfold PySem.passOn;obtain⟨oe3,vs3,oT3,ts3,a3,ge3,gc3,gd3,g03,gt3,g13,gne3,gT3,gdT3,g33⟩:=id f3;refine Aq (Cq (s:={s' with heap:=h3}) ge3 gt3 g13 ?_)
  rw[AC (by simp)]
  refine Aq (aP (s:={s' with heap:=h3}) f3 λh4 fl4 f4 k4=>wpAny_throw ?_)
  have T20:s.heap.get? T2=Ae:=fresh J' T2 hT2;have HC:H' C=Ae:=J'.free;have HT2:H' T2=Ae:=HS hok hT2;have sh4:Shift [e,T,C,T2] (frs X.stack) s'.heap h4:=by
    refine⟨λb o q n1 n2=>?_,λb o q hb=>?_⟩
    · simp only[AI,Ch,EB,GV]at n1;exact k4 b o n1.2.2.2 (k3 b o n1.2.2.1 (sh.keep b o q (by simp[n1.1,n1.2.1]) n2))
    · obtain⟨sl,q2⟩:=sh.slot b o q hb;refine⟨sl,k4 b _ (λz=>by rw[z,hT2]at q;cases q) (k3 b _ (λz=>noF (z ▸ hb)) q2)⟩
  have n4:∀{Z_:Ak->Prop},Z_ e->Z_ T->Z_ C->Z_ T2->∀ b∈[e,T,C,T2],Z_ b:=λ{Z_} a b c d y hy=>by
    simp only[AI,Ch,EB]at hy;rcases hy with rfl|rfl|rfl|rfl
    · exact a
    · exact b
    · exact c
    · exact d
  have u4:Un (frs X.stack) fp H H' s.heap h4:=Un.shiftX u1 sh4 (n4 (Z_:=λb=>s.heap.get? b=Ae) e0 T0 C0 T20) λb hb=>.inl hb
  have hok4:HOk X.prog X.w H' h4:=HOk.shift hok sh4 (n4 (Z_:=λb=>H' b=Ae) he hT HC HT2) J'.stkFree
  have os4:s'.os=s.os:=J'.os;have I4:Inv X pI Y H' {s' with heap:=h4}:=I.call' (s':={s' with heap:=h4}) (ch:=fp) os4 u4 hok4 bare λb hb=>⟨(hf b hb).2.2.2.1,(hf b hb).2.1,(hf b hb).2.2.2.2.1,(hf b hb).2.2.2.2.2⟩
  exact fz pI Y H' _ e T2 cls dx fl4 x I4 (λhx=>⟨HR I hx e0,HR I hx T20⟩) he HT2 f4 xr wx
theorem Uu{Y_:Cx}{es:Ac An}{t:TA}(hx:Y_.xe=λ_ _=>AW)(h:PA Y_ es t):PA (Cx.pw Y_ pl Xw) es t:=λpos pI s Y H Q I q=>by
 have okY:Y_.Ok:=⟨I.ok.mod,I.ok.kind,I.ok.glob,I.ok.blt,I.ok.above,I.ok.inj,I.ok.has,I.ok.cab,I.ok.hd,I.ok.frames,I.ok.stk,I.ok.exf,I.ok.bs,I.ok.bsz,I.ok.noex,I.ok.exfs,I.ok.funs,I.ok.frf⟩;have I':Inv Y_ (pl++pI) Y H s:=⟨okY,I.os,I.bare,I.base,I.loc,I.cell,I.free,I.freeC,λp hp=>I.pin p (by
  show p∈(Y_.pn++pl)++pI;rw[VY];exact hp),I.hok,I.len⟩
 refine A9 (h pos (pl++pI) s Y H Q I' q) (λus s' ⟨vs,H',J,r,z⟩=>⟨vs,H',⟨Ur J.ok,J.os,J.bare,J.base,J.loc,J.cell,J.free,J.freeC,λp hp=>J.pin p (by
  have hp':p∈(Y_.pn++pl)++pI:=hp;rw[VY]at hp';exact hp'),J.hok,J.len⟩,r,z⟩) λ_ _ z=>by rw[hx]at z;exact z.elim
theorem bY{iter:An}{wi:TI}{g:TG}{tt:TT}{te:TE}{ifs:Ac An}(hc:X.calm=Ab)(hst:X.stack=X.env::X.outer)(hfm:X.env.frame=Aa X.env.locals)(fz:K5 X CL W)(B:BlockOk X scope N' ts)(hi:PI X tg iter wi)(hg:∀ cl C s H fp,PG (cxC X scope cl C N' s H fp) tg g)(ht:∀ cl C s H fp,PTs (cxC X scope cl C N' s H fp) ifs tt)(he:∀ cl C s H fp pl Xw Y0,(∀ pins' H1 s1 ev s',Inv (Cx.pw (cxC X scope cl C N' s H fp) pl Xw) pins' Y0 H1 s1->CXR X.prog X.w X.stack H1 s1 (EKW X.K CL A' W) ev s'->Xw ev s')->PE (Cx.pw (cxC X scope cl C N' s H fp) pl Xw) elt (λY H Q=>Y=Y0/\te Y H Q))(hs:∀ x,B4 iter X.env x=pure x):PE X (.ListComp elt [⟨tg,iter,ifs,0⟩] scope pos) (λY H Q=>wi Y H λJ H1=>Jt J ts g tt te Y H1 Q):=by
 intro pI s Y H Q I h;obtain⟨cl,hclos,hcl,hcl2⟩:=NV (scope:=scope) (env:=X.env) λx hx hk=>I.ok.has x.1 ((B.free x hx hk).imp id id)
 rw[eval_ListComp];refine Fs (use:=Ae) rfl hs hclos B.kind B.names (thn (hi pI s Y H _ I h) λv s1 h1=>thn h1 λitv s2 h2=>?_)
 obtain⟨it,fp,tn,J,H2,e,I2,T,st2,f2,h3⟩:=h2;subst e;refine Oq (RR:=λacc C=>JL (model X.prog X.w) X.A X.xe Ae (EP X pI Y Q) acc C) hc B I2 T st2 f2 hcl hcl2 (λcl C s H=>hg cl C s H fp) (λcl C s H=>ht cl C s H fp) (λcl' C D pl Y' H' s' Q' hC I' hpl q=>?_) h3 λcl' D C s' H' Y' pins' xs ys n m I' hd hDn rv hz hD hDC hC hm q=>?_
 .exact A9 (he cl' C s2 H2 fp pl _ Y' (Ze hst hfm I2 f2 fz hC hpl) [] s' Y' H' Q' (KG I' _) ⟨rfl,q⟩) (λu s'' ⟨v,H'',J,r,z⟩=>⟨v,H'',JQ I'.ok J,r,z⟩) λ_ _ z=>z
 .exact⟨m,hm,λh'' hs''=>⟨.ref D,_,Oi I2 f2 I' hD hDC hC hd hDn rv hz hs'',rfl,q⟩⟩
theorem cP{as:D->Rho->R Rho}{ds:Ac D}{x:Ex}(hax:∀ d U x,as d U≠.exn x)(h:Bv (λx=>(as x U).bind λ_=>.ok Ab) (λx=>(as x U).bind fe) (d::ds)=.exn x):∃ U',as d U=.ok U'/\(fe U'=.exn x\/∃ y,fe U'=.ok y/\Bv (λx=>(as x U).bind λ_=>.ok Ab) (λx=>(as x U).bind fe) ds=.exn x):=by
 have h':((as d U).bind λ_=>R.ok Ab).bind (λb=>if b=Ab then ((as d U).bind fe).bind λy=>(Bv (λx=>(as x U).bind λ_=>.ok Ab) (λx=>(as x U).bind fe) ds).bind λys=>.ok (y::ys) else Bv (λx=>(as x U).bind λ_=>.ok Ab) (λx=>(as x U).bind fe) ds)=.exn x:=h
 cases ea:as d U with
 |bad=>rw[ea]at h';cases h'
 |exn z=>exact absurd ea (hax _ _ z)
 |ok U'=>
  refine⟨U',rfl,?_⟩;rw[ea]at h';have h2:((fe U').bind λy=>(Bv (λx=>(as x U).bind λ_=>.ok Ab) (λx=>(as x U).bind fe) ds).bind λys=>.ok (y::ys))=.exn x:=h'
  cases ef:fe U' with
  |bad=>rw[ef]at h2;cases h2
  |exn z=>rw[ef]at h2;cases h2;exact .inl rfl
  |ok y=>
   rw[ef]at h2;refine .inr ⟨y,rfl,?_⟩;cases ec:Bv (λx=>(as x U).bind λ_=>.ok Ab) (λx=>(as x U).bind fe) ds with
   |bad=>rw[ec]at h2;cases h2
   |exn z=>rw[ec]at h2;cases h2;rfl
   |ok ys=>rw[ec]at h2;cases h2
theorem Zs{H1:Hp}{J:It}{ds:Ac D}{Q:VK}{as:D->Rho->R Rho}{g:TG}{x:Ex}(hGG:GG K CL ts as g)(hax:∀ d U x,as d U≠.exn x)(hA:AOk H1 A)(gd:Good K CL A U Y H1)(yl:IU K CL A ds J H1)(hz:ds.length<=sizeLine)(hcp:Bv (λx=>(as x U).bind λ_=>.ok Ab) (λx=>(as x U).bind fe) ds=.exn x)(q:∀ H2,Az H1 H2->W x H2):Jt J ts g (λY H Q=>AOk H A/\∃ U,Good K CL A U Y H/\CK W0 H (.ok Ab) Q) (λY H Q=>AOk H A/\∃ U,Good K CL A U Y H/\AS (λH=>Rep K CL H A) W H (fe U) Q) Y H1 Q:=by
 refine⟨λi m xs Y' H'=>m=ds.length-i/\i<=ds.length/\xs.length<=i/\Az H1 H'/\Good K CL A (Fd ts U) Y' H'/\Bv (λx=>(as x U).bind λ_=>.ok Ab) (λx=>(as x U).bind fe) (ds.drop i)=.exn x,
  ⟨ds.length,by simp,DW _,AL _,Az.refl _,gd.hideT ts,hcp⟩,?_⟩
 rintro i m xs Y' H' ⟨rfl,hi,hxl,sm,g',hc⟩;obtain⟨yst,ygo⟩:=yl H' (Kp.of sm) i;by_cases hlt:i<ds.length
 .have hd:ds[i]?=Aa ds[i]:=Bc hlt;obtain⟨hgo,hyl⟩:=ygo _ hd;refine .inr ⟨hgo,by omega,λx' H2 hx=>?_⟩
  obtain⟨s2,rx⟩:=hyl x' H2 hx;have rx':=rx A (λa ha=>.inl ha) (hA.same sm)
  rw[DL hlt]at hc;have sm2:=sm.trans s2;obtain⟨U',ea,h1⟩:=cP hax hc;refine hGG A U Y' H2 x' ds[i] U' _ (g'.same s2) rx' ea λY3 g3 g4=>⟨hA.same sm2,U',g3,λH3 s3=>?_⟩
  dsimp only;rw[At rfl];refine⟨(hA.same sm2).same s3,U',g3.same s3,?_⟩;rcases h1 with h1|⟨y,h1,h2⟩
  .rw[h1];exact λH4 s4=>q H4 ((sm2.trans s3).trans s4)
  .rw[h1];exact λv H4 s4 r4=>⟨ds.length-(i+1),by omega,rfl,hlt,by rw[BS,De];omega,(sm2.trans s3).trans s4,(g4.same s3).same s4,h2⟩
 .have hk':ds.length<=i:=by omega
  rw[Ep hk']at hc;cases hc
theorem Zr{Q:VK}{as:D->Rho->R Rho}{g:TG}{fi:Rho->R (Ac D)}(hGG:GG X.K CL ts as g)(hax:∀ d U x,as d U≠.exn x)(hA:AOk H A)(gd:Good X.K CL A U Y H)(p:AS (DB X.K CL Ab H A) W H ((fi U).bind λxs=>(Bv (λx=>(as x U).bind λ_=>.ok Ab) (λx=>(as x U).bind fe) xs).bind λys=>.ok (.lst ys)) Q):EU X.K CL A W H (fi U) (λJ H1=>Jt J ts g (λY H Q=>AOk H A/\∃ U,Good X.K CL A U Y H/\CK W0 H (.ok Ab) Q) (λY H Q=>AOk H A/\∃ U,Good X.K CL A U Y H/\AS (λH=>Rep X.K CL H A) W H (fe U) Q) Y H1 Q):=
 EU.ok_of p λds J H1 e1 s1 yl hz p1=>by
  cases e2:Bv (λx=>(as x U).bind λ_=>.ok Ab) (λx=>(as x U).bind fe) ds with
  |ok ys=>
   rw[e2]at p1;exact QZ (fc:=λ_=>.ok Ab) hGG (hA.same s1) (gd.same s1) yl hz e2 λxs H2 s2 rs q hq=>p1 _ _ (s2.trans (ET hq _)) (Jr (s1.trans s2) ((hA.same s1).same s2) hq rs)
  |exn x=>
   rw[e2]at p1;exact Zs hGG hax (hA.same s1) (gd.same s1) yl hz e2 p1
  |bad=>rw[e2]at p1;exact p1.elim
theorem ZR{iter:An}{as:D->Rho->R Rho}{g:TG}{fi:Rho->R (Ac D)}{k n:Af}{fr:Am}{f:Ak}{F:Ac D->R D}{e:An}{es:Ac An}{fs ft:Rho->R (Ac D)}{sh:Rho->Am}(hc:X.calm=Ab)(hst:X.stack=X.env::X.outer)(hfm:X.env.frame=Aa X.env.locals)(fz:K5 X CL W)(B:BlockOk X scope N' ts)(hi:SI X CL W tg iter fi)(hGG:GG X.K CL ts as g)(hax:∀ d U x,as d U≠.exn x)(hg:∀ cl C s H fp,PG (cxC X scope cl C N' s H fp) tg g)(hs:∀ x,B4 iter X.env x=pure x)(G:FnOk X.prog X.w X.K X.mg X.base (CXR X.prog X.w) k f fd ps (spD X.K CL n fr F))(hr:Room k X.A)(hgl:∀ cl C s H fp,Gl (cxC X scope cl C N' s H fp) x)(hm:X.mg x=Aa (.ref f))(hk:Bi X.K (.ref f)=Ab)(hb:EK X.K fd ps [])(ha:∀ cl C s H fp,SA (cxC X scope cl C N' s H fp) CL W0 (e::es) fs/\SAT (cxC X scope cl C N' s H fp) CL W0 (e::es) ft)(hsh:∀ U,sh U=Ab->ft U=fs U)(hn:∀ U ds,ft U=.ok ds->ds.length=n)(hnx:∀ U y,ft U≠.exn y)(hdb:(x==("__debug__" : Ag))=Ad)(hse:∀ env,As (e::es) env=(Ad,eval e env)::As es env)(hpl:∀ env pos,(BA pos (As es env)).any (·.1)=Ad):SC X CL W Ab (.ListComp (.Call (.Name x p) (e::es) [] cpos) [⟨tg,iter,[],0⟩] scope pos) (λU=>(fi U).bind λxs=>(Bv (λx=>(as x U).bind λ_=>.ok Ab) (λx=>(as x U).bind λU=>(ft U).bind λds=>(F ds).bind λd=>if sh U=Ab then .ok d else if FT fr d=Ab then .ok d else .bad) xs).bind λys=>.ok (.lst ys)):=λA pI s Y H Q I ⟨hA,U,gd,q⟩=>by
 refine bY (W:=W) (A':=A) hc hst hfm fz B (hi A) hg (λcl C s H fp=>Sf A) (λcl C s H fp pl Xw Y0 want=>?_) hs pI s Y H Q I ⟨hA,U,gd,Zr hGG hax hA gd q⟩
 have key:=Lv (X:=Cx.pw (cxC X scope cl C N' s H fp) pl Xw) (p:=p) (pos:=cpos) (Y0:=Y0) (fr:=fr) (F:=F) (n:=n) (sh:=sh) (E0:=EKW X.K CL A W) G hr (hgl cl C s H fp) hm hk hb want (λA=>Uu rfl ((ha cl C s H fp).1 A)) (λA=>Uu rfl ((ha cl C s H fp).2 A)) hsh hn hnx hdb (hse _) (hpl _) A
 refine PE.weak key λY H Q ⟨e0,hA,U,gd,z⟩=>⟨e0,hA,U,gd,?_⟩
 cases er:((ft U).bind λds=>(F ds).bind λd=>if sh U=Ab then R.ok d else if FT fr d=Ab then .ok d else .bad) with
 |ok d=>rw[er]at z;exact λv H' sm r=>z v H' sm r.1
 |exn y=>rw[er]at z;exact λcls dx H' sm xr=>⟨y,xr,z H' sm⟩
 |bad=>rw[er]at z;exact z
end
section
variable{X:Cx}{CL:ClA}{W:XW}
def mS(K:Fg)(CL:ClA):V->Ac V->Hp->VK->Prop:=λx vs H Q=>∃ l xs ds v d j,x=.ref l/\vs=[v]/\SqL K H l xs/\Reps K CL H A0 xs ds/\Rep K CL H A0 v d/\flD 5 d=Ab/\ds.all (flD 5)=Ab/\(ds.findIdx? λy=>eqD y d)=Aa j/\Q (.int (j:Af)) H
theorem bA(hu:X.A.units+64<BG):MtR X "list.index" (mS X.K CL):=by
 intro pI s Y H x vs v us Q I rx rv h;obtain⟨l,xs,ds,y,d,j,rfl,rfl,sq,rs,ry,h1,h2,hj,q⟩:=h;cases rx;obtain⟨u,rfl,ru⟩:=rv.one;obtain⟨its,r,pl,hz⟩:=I.list sq;obtain⟨⟨c,dct,dt,sl⟩,n,e,hc,hd,hdt⟩:=pl;obtain⟨f,hf,hn⟩:=pA I (n:=5) X.A.in1 h1 h2 rs r ry ru (by show X.A.units+1+5<BG;omega)
 replace hc:c=.type "list" := hc;replace hdt:dt=.seq its.toArray n:=hdt;subst hc hdt;have hl:its.length=ds.length:=by rw[<-r.length,rs.length]
 obtain⟨g1,g2,g3⟩:=V3.mp hj;have gd:∀ m (h:m<ds.length),ds.getD m .non=ds[m]:=λm h=>by rw[C4,Bc h];rfl
 have hzl:its.length<=sizeLine:=by rw[hl,<-rs.length];exact hz
 have zl:sizeLine<2 ^ 62:=by decide
 refine Gj Xd ⟨_,e,rfl⟩ PySem.F.entry_list_index (PySem.F.args_list_index_2 _ _) (SeqAt.list_indexAt l its.toArray n dct sl u f j (by rw[AN];omega) (by omega) ?_ ?_) ⟨e,hf,?_⟩
 .have:=hn j (by omega)
  rw[gd j g1]at this;simpa [g2] using this
 .intro m hm hmj;have hm':m<its.length:=by rw[AN]at hm;exact hm
  have:=hn m hm';rw[gd m (by omega)]at this
  have h3:eqD ds[m] d=Ad:=by
   have:=g3 m hmj;simpa using this
  rw[h3]at this;simpa using this
 .exact⟨.int _,H,I.tok _,⟨_,rfl⟩,q⟩
theorem RT{o y:An}(hu:X.A.units+64<BG)(ho:ST X CL W o fo)(hy:ST X CL W y fy)(hny:∀ U e,fy U≠.exn e)(hbase:C8 o "index" X.env (eval o X.env)=eval o X.env)(hfew:((BA cpos (As [y] X.env)).all (λx=>!x.1)&&(Ho cpos (FW [] X.env)).all (λx=>x.1.isSome)&&decide ([y].length+([]:Ac DZ).length+(if ([]:Ac DZ).isEmpty then 0 else 1)<30))=Ab)(hline:(apos.endLine==cpos.line)=Ab)(hs:As [y] X.env=[(Ad,eval y X.env)]):
  SE X CL W (.Call (.Attribute o "index" apos) [y] [] cpos) (λU=>(fo U).bind λx=>(fy U).bind λd=>match x with | .lst xs=>LL xs d|_=>.bad):=λA=>
 PE.weak (M7 Xb Xd PySem.F.type_list_index (bA (CL:=CL) hu) (ho A) (DT (hy A) Ft hs) hbase hfew hline hs rfl) λY H Q ⟨hA,U,g,p⟩=>⟨hA,U,g,AS.bind p λd v H1 _ s1 r1 p1=>by
  have nb:∀{f:D->R D},(∀ d,f d=.bad)->AS (λH=>Rep X.K CL H A) W H1 ((fy U).bind f) Q->AW:=λ{f} hf z=>by
   cases e:fy U with
   |ok d2=>rw[e]at z;have z':AS (λH=>Rep X.K CL H A) W H1 (f d2) Q:=z;rw[hf]at z';exact z'
   |exn e'=>exact hny U e' e
   |bad=>rw[e]at z;exact z
  cases d with
  |lst ds=>
   obtain⟨a,xs,rfl,sq,rs⟩:=r1.lst_of;refine⟨.inl ⟨rfl,xs,sq⟩,hA.same s1,U,g.same s1,AS.bind p1 λd2 v' H2 _ s2 r2 p2=>?_⟩
   have r3:Rep X.K CL H2 A0 (.ref a) (.lst ds):=(Cr.same s2 r1).plain;obtain⟨a',xs',e',_,sq',rs'⟩:=r3;cases e';replace p2:AS (λH=>Rep X.K CL H A) W H2 (LL ds d2) Q:=p2
   unfold LL at p2;split at p2
   .rename_i h;simp only[Al]at h;cases e3:ds.findIdx? λy=>eqD y d2 with
    |none=>rw[e3]at p2;exact p2.elim
    |some j=>
     rw[e3]at p2;exact⟨a,xs',ds,v',d2,j,rfl,rfl,sq',rs',r2.plain,h.1,h.2,e3,p2 _ H2 (Az.refl H2) rfl⟩
   .exact p2.elim
  | _=>exact(nb (λ_=>rfl) p1).elim⟩
end
theorem noF{P:Prop}(h:Ad=Ab):P:=nomatch h
structure Tc where
 sc:BN
 N:Ac Ag
 /-- a def's name,its number,how many parameters it has -/
 fns:Ac (Ag×Af×Af)
 /-- built-in names that the text does not hide -/
 bl:Ac Ag
 /-- exceptions' classes by their names: those that are raised,all that are asked for -/
 rzs:Ac (Ag×Af)
 exs:Ac (Ag×Af)
 /-- the text's constants -/
 gls:Ac (Ag×Af)
 /-- in no comprehension -/
 tp:Am
noncomputable def Qg(T:Tc)(x:Ag):Am:=match T.sc.names.lookup x with
  |some .local=>Ab
  |some .cell=>Ab
  |some .free=>Ab
  |_=>Ad
noncomputable def IS(T:Tc)(x:Ag):Am:=match T.sc.names.lookup x with
  |some .local=>Ab
  |some .cell=>Ab
  |_=>Ad
noncomputable def glB(T:Tc)(x:Ag):Am:=T.sc.names.lookup x==Aa .globalImplicit
noncomputable def Fw(x:Ag):Am:=(!(x==("__debug__" : Ag)) && !(x==("__classdict__" : Ag)) && !(x==("__name__" : Ag)))&&(GL.lookup x).isNone
noncomputable def isV(T:Tc)(x:Ag)(i:Af):Am:=T.N[i]? == Aa x&&Qg T x&&Fw x
noncomputable def isB(T:Tc)(x:Ag):Am:=T.bl.contains x&&glB T x&&Fw x
noncomputable def Qt(T:Tc)(e:An)(b:BI)(as:Es):Am:=match e with
  |.Call (.Attribute (.Name x _) m ap) [.Name y _] [] cp=>decide (b=.index)&&m==("index" : Ag)&&ap.endLine==cp.line&&(match as with | .cons (.var i) (.cons (.var j) .nil)=>isV T x i&&isV T y j|_=>Ad)
  |.Call (.Attribute (.Name x _) m ap) [.Constant .none _ _] [] cp=>decide (b=.index)&&m==("index" : Ag)&&ap.endLine==cp.line&&(match as with | .cons (.var i) (.cons .non .nil)=>isV T x i|_=>Ad)
  |_=>Ad
theorem Bt{a b:Am}(h:(a&&b)=Ab):a=Ab/\b=Ab:=(Al a b).mp h
theorem orT{a b:Am}(h:(a||b)=Ab):a=Ab\/b=Ab:=(B8 a b).mp h
noncomputable def Fa(e:An)(F:Ag->Am):Am:=if c:e.ctorIdx=23 then WW (motive_1:=λ_=>Am) e c λx _=>F x else Ad
theorem Fu{e:An}{F:Ag->Am}(h:Fa e F=Ab):∃ x p,e=WV x p/\F x=Ab:=by
 by_cases c:e.ctorIdx=23
 .exact WW (motive_1:=λe=>Fa e F=Ab->∃ x p,e=WV x p/\F x=Ab) e c (λx p h=>⟨x,p,rfl,h⟩) h
 .exact noF ((BP c).symm.trans h)
noncomputable def G3(e:An)(F:Const->Am):Am:=if c:e.ctorIdx=19 then WP (motive_1:=λ_=>Am) e c λc _ _=>F c else Ad
theorem Js{e:An}{F:Const->Am}(h:G3 e F=Ab):∃ c u p,e=WO c u p/\F c=Ab:=by
 by_cases c:e.ctorIdx=19
 .exact WP (motive_1:=λe=>G3 e F=Ab->∃ c u p,e=WO c u p/\F c=Ab) e c (λc u p h=>⟨c,u,p,rfl,h⟩) h
 .exact noF ((BP c).symm.trans h)
noncomputable def M2(e:An)(F:An->Fq->An->Am):Am:=if c:e.ctorIdx=2 then WH (motive_1:=λ_=>Am) e c λx o y _=>F x o y else Ad
theorem RA{e:An}{F:An->Fq->An->Am}(h:M2 e F=Ab):∃ x o y p,e=WG x o y p/\F x o y=Ab:=by
 by_cases c:e.ctorIdx=2
 .exact WH (motive_1:=λe=>M2 e F=Ab->∃ x o y p,e=WG x o y p/\F x o y=Ab) e c (λx o y p h=>⟨x,o,y,p,rfl,h⟩) h
 .exact noF ((BP c).symm.trans h)
noncomputable def Ka(e:An)(F:JG->An->Am):Am:=if c:e.ctorIdx=3 then W5 (motive_1:=λ_=>Am) e c λo x _=>F o x else Ad
theorem MF{e:An}{F:JG->An->Am}(h:Ka e F=Ab):∃ o x p,e=W4 o x p/\F o x=Ab:=by
 by_cases c:e.ctorIdx=3
 .exact W5 (motive_1:=λe=>Ka e F=Ab->∃ o x p,e=W4 o x p/\F o x=Ab) e c (λo x p h=>⟨o,x,p,rfl,h⟩) h
 .exact noF ((BP c).symm.trans h)
noncomputable def JA(e:An)(F:BoolOp->Ac An->AD->Am):Am:=if c:e.ctorIdx=0 then WJ (motive_1:=λ_=>Am) e c λo xs p=>F o xs p else Ad
theorem Lp{e:An}{F:BoolOp->Ac An->AD->Am}(h:JA e F=Ab):∃ o xs p,e=WI o xs p/\F o xs p=Ab:=by
 by_cases c:e.ctorIdx=0
 .exact WJ (motive_1:=λe=>JA e F=Ab->∃ o xs p,e=WI o xs p/\F o xs p=Ab) e c (λo xs p h=>⟨o,xs,p,rfl,h⟩) h
 .exact noF ((BP c).symm.trans h)
noncomputable def KN(e:An)(F:An->Ac C5->Ac An->Am):Am:=if c:e.ctorIdx=15 then WN (motive_1:=λ_=>Am) e c λx os ys _=>F x os ys else Ad
theorem Oz{e:An}{F:An->Ac C5->Ac An->Am}(h:KN e F=Ab):∃ x os ys p,e=WM x os ys p/\F x os ys=Ab:=by
 by_cases c:e.ctorIdx=15
 .exact WN (motive_1:=λe=>KN e F=Ab->∃ x os ys p,e=WM x os ys p/\F x os ys=Ab) e c (λx os ys p h=>⟨x,os,ys,p,rfl,h⟩) h
 .exact noF ((BP c).symm.trans h)
noncomputable def IL(e:An)(F:An->Ac An->Ac DZ->AD->Am):Am:=if c:e.ctorIdx=16 then WL (motive_1:=λ_=>Am) e c λf as ks p=>F f as ks p else Ad
theorem Lw{e:An}{F:An->Ac An->Ac DZ->AD->Am}(h:IL e F=Ab):∃ f as ks p,e=WK f as ks p/\F f as ks p=Ab:=by
 by_cases c:e.ctorIdx=16
 .exact WL (motive_1:=λe=>IL e F=Ab->∃ f as ks p,e=WK f as ks p/\F f as ks p=Ab) e c (λf as ks p h=>⟨f,as,ks,p,rfl,h⟩) h
 .exact noF ((BP c).symm.trans h)
noncomputable def Hx(e:An)(F:An->Ag->AD->Am):Am:=if c:e.ctorIdx=20 then WF (motive_1:=λ_=>Am) e c λo m p=>F o m p else Ad
theorem JT{e:An}{F:An->Ag->AD->Am}(h:Hx e F=Ab):∃ o m p,e=WE o m p/\F o m p=Ab:=by
 by_cases c:e.ctorIdx=20
 .exact WF (motive_1:=λe=>Hx e F=Ab->∃ o m p,e=WE o m p/\F o m p=Ab) e c (λo m p h=>⟨o,m,p,rfl,h⟩) h
 .exact noF ((BP c).symm.trans h)
noncomputable def M8(e:An)(F:An->An->Am):Am:=if c:e.ctorIdx=21 then W1 (motive_1:=λ_=>Am) e c λx y _=>F x y else Ad
theorem Rw{e:An}{F:An->An->Am}(h:M8 e F=Ab):∃ x y p,e=WZ x y p/\F x y=Ab:=by
 by_cases c:e.ctorIdx=21
 .exact W1 (motive_1:=λe=>M8 e F=Ab->∃ x y p,e=WZ x y p/\F x y=Ab) e c (λx y p h=>⟨x,y,p,rfl,h⟩) h
 .exact noF ((BP c).symm.trans h)
noncomputable def PB(e:An)(F:Ao An->Ao An->Ao An->Am):Am:=if c:e.ctorIdx=26 then WY (motive_1:=λ_=>Am) e c λl u s _=>F l u s else Ad
theorem cE{e:An}{F:Ao An->Ao An->Ao An->Am}(h:PB e F=Ab):∃ l u s p,e=WX l u s p/\F l u s=Ab:=by
 by_cases c:e.ctorIdx=26
 .exact WY (motive_1:=λe=>PB e F=Ab->∃ l u s p,e=WX l u s p/\F l u s=Ab) e c (λl u s p h=>⟨l,u,s,p,rfl,h⟩) h
 .exact noF ((BP c).symm.trans h)
noncomputable def Jz(e:An)(F:Ac An->Am):Am:=if c:e.ctorIdx=25 then W3 (motive_1:=λ_=>Am) e c λxs _ _=>F xs else Ad
theorem Ko{e:An}{F:Ac An->Am}(h:Jz e F=Ab):∃ xs c p,e=W2 xs c p/\F xs=Ab:=by
 by_cases c:e.ctorIdx=25
 .exact W3 (motive_1:=λe=>Jz e F=Ab->∃ xs c p,e=W2 xs c p/\F xs=Ab) e c (λxs c p h=>⟨xs,c,p,rfl,h⟩) h
 .exact noF ((BP c).symm.trans h)
noncomputable def Nb(e:An)(F:Ac An->Am):Am:=if c:e.ctorIdx=24 then WR (motive_1:=λ_=>Am) e c λxs _=>F xs else Ad
theorem Ow{e:An}{F:Ac An->Am}(h:Nb e F=Ab):∃ xs p,e=WQ xs p/\F xs=Ab:=by
 by_cases c:e.ctorIdx=24
 .exact WR (motive_1:=λe=>Nb e F=Ab->∃ xs p,e=WQ xs p/\F xs=Ab) e c (λxs p h=>⟨xs,p,rfl,h⟩) h
 .exact noF ((BP c).symm.trans h)
noncomputable def PC(e:An)(F:An->Ac IX->BN->Am):Am:=if c:e.ctorIdx=8 then WU (motive_1:=λ_=>Am) e c λx gs sc _=>F x gs sc else Ad
theorem cK{e:An}{F:An->Ac IX->BN->Am}(h:PC e F=Ab):∃ x gs sc p,e=WT x gs sc p/\F x gs sc=Ab:=by
 by_cases c:e.ctorIdx=8
 .exact WU (motive_1:=λe=>PC e F=Ab->∃ x gs sc p,e=WT x gs sc p/\F x gs sc=Ab) e c (λx gs sc p h=>⟨x,gs,sc,p,rfl,h⟩) h
 .exact noF ((BP c).symm.trans h)
noncomputable def PD(e:AJ)(F:Ac An->An->Am):Am:=if c:e.ctorIdx=5 then Xv (motive_2:=λ_=>Am) e c λts v _=>F ts v else Ad
theorem aW{e:AJ}{F:Ac An->An->Am}(h:PD e F=Ab):∃ ts v p,e=Xu ts v p/\F ts v=Ab:=by
 by_cases c:e.ctorIdx=5
 .exact Xv (motive_2:=λe=>PD e F=Ab->∃ ts v p,e=Xu ts v p/\F ts v=Ab) e c (λts v p h=>⟨ts,v,p,rfl,h⟩) h
 .exact noF ((BP c).symm.trans h)
noncomputable def KM(e:AJ)(F:An->Am):Am:=if c:e.ctorIdx=24 then Xy (motive_2:=λ_=>Am) e c λv _=>F v else Ad
theorem Oy{e:AJ}{F:An->Am}(h:KM e F=Ab):∃ v p,e=Xx v p/\F v=Ab:=by
 by_cases c:e.ctorIdx=24
 .exact Xy (motive_2:=λe=>KM e F=Ab->∃ v p,e=Xx v p/\F v=Ab) e c (λv p h=>⟨v,p,rfl,h⟩) h
 .exact noF ((BP c).symm.trans h)
noncomputable def M9(e:AJ)(F:Ao An->Am):Am:=if c:e.ctorIdx=3 then XH (motive_2:=λ_=>Am) e c λo _=>F o else Ad
theorem Ry{e:AJ}{F:Ao An->Am}(h:M9 e F=Ab):∃ o p,e=XG o p/\F o=Ab:=by
 by_cases c:e.ctorIdx=3
 .exact XH (motive_2:=λe=>M9 e F=Ab->∃ o p,e=XG o p/\F o=Ab) e c (λo p h=>⟨o,p,rfl,h⟩) h
 .exact noF ((BP c).symm.trans h)
noncomputable def Nu(e:AJ)(F:An->Ac AJ->Ac AJ->Am):Am:=if c:e.ctorIdx=12 then XC (motive_2:=λ_=>Am) e c λt xs ys _=>F t xs ys else Ad
theorem Su{e:AJ}(h:Nu e F=Ab):∃ t xs ys p,e=Stmt.If t xs ys p/\F t xs ys=Ab:=by
 by_cases c:e.ctorIdx=12
 .exact XC (motive_2:=λe=>Nu e F=Ab->∃ t xs ys p,e=Stmt.If t xs ys p/\F t xs ys=Ab) e c (λt xs ys p h=>⟨t,xs,ys,p,rfl,h⟩) h
 .exact noF ((BP c).symm.trans h)
noncomputable def LN(e:AJ)(F:An->An->Ac AJ->Ac AJ->Am):Am:=if c:e.ctorIdx=9 then Xz (motive_2:=λ_=>Am) e c λt it xs ys _=>F t it xs ys else Ad
theorem Ox{e:AJ}{F:An->An->Ac AJ->Ac AJ->Am}(h:LN e F=Ab):∃ t it xs ys p,e=Stmt.For t it xs ys p/\F t it xs ys=Ab:=by
 by_cases c:e.ctorIdx=9
 .exact Xz (motive_2:=λe=>LN e F=Ab->∃ t it xs ys p,e=Stmt.For t it xs ys p/\F t it xs ys=Ab) e c (λt it xs ys p h=>⟨t,it,xs,ys,p,rfl,h⟩) h
 .exact noF ((BP c).symm.trans h)
noncomputable def Py(e:AJ)(F:An->Ac AJ->Ac AJ->Am):Am:=if c:e.ctorIdx=11 then XJ (motive_2:=λ_=>Am) e c λt xs ys _=>F t xs ys else Ad
theorem cB{e:AJ}(h:Py e F=Ab):∃ t xs ys p,e=XI t xs ys p/\F t xs ys=Ab:=by
 by_cases c:e.ctorIdx=11
 .exact XJ (motive_2:=λe=>Py e F=Ab->∃ t xs ys p,e=XI t xs ys p/\F t xs ys=Ab) e c (λt xs ys p h=>⟨t,xs,ys,p,rfl,h⟩) h
 .exact noF ((BP c).symm.trans h)
noncomputable def Na(e:AJ)(F:Ao An->Ao An->Am):Am:=if c:e.ctorIdx=16 then XF (motive_2:=λ_=>Am) e c λa b _=>F a b else Ad
theorem cH{e:AJ}{F:Ao An->Ao An->Am}(h:Na e F=Ab):∃ a b p,e=XD a b p/\F a b=Ab:=by
 by_cases c:e.ctorIdx=16
 .exact XF (motive_2:=λe=>Na e F=Ab->∃ a b p,e=XD a b p/\F a b=Ab) e c (λa b p h=>⟨a,b,p,rfl,h⟩) h
 .exact noF ((BP c).symm.trans h)
noncomputable def IJ{α:Type}:Ac α->(α->Ac α->Am)->Am
 |[],_=>Ad
 |x::xs,F=>F x xs
theorem Jq{l:Ac α}{F:α->Ac α->Am}(h:IJ l F=Ab):∃ x xs,l=x::xs/\F x xs=Ab:=by
 cases l with
 |nil=>exact noF h
 |cons x xs=>exact⟨x,xs,rfl,h⟩
theorem FM{l:Ac α}(h:l.isEmpty=Ab):l=[]:=List.isEmpty_iff.mp h
noncomputable def D9{α:Type}(l:Ac α)(F:α->Am):Am:=IJ l λx r=>r.isEmpty&&F x
theorem Fc{l:Ac α}{F:α->Am}(h:D9 l F=Ab):∃ x,l=[x]/\F x=Ab:=by
 obtain⟨x,r,rfl,h⟩:=Jq h;obtain⟨h1,h2⟩:=Bt h;exact⟨x,by rw[FM h1],h2⟩
noncomputable def G2{α:Type}(l:Ac α)(F:α->α->Am):Am:=IJ l λx r=>D9 r λy=>F x y
theorem Iz{l:Ac α}{F:α->α->Am}(h:G2 l F=Ab):∃ x y,l=[x,y]/\F x y=Ab:=by
 obtain⟨x,r,rfl,h⟩:=Jq h;obtain⟨y,rfl,h⟩:=Fc h;exact⟨x,y,rfl,h⟩
noncomputable def HY(e:An)(F:Ag->Ac An->Am):Am:=IL e λf as ks _=>Fa f λg=>ks.isEmpty&&F g as
theorem IA{e:An}{F:Ag->Ac An->Am}(h:HY e F=Ab):∃ g p as q,e=.Call (.Name g p) as [] q/\F g as=Ab:=by
 obtain⟨f,as,ks,q,rfl,h⟩:=Lw h;obtain⟨g,p,rfl,h⟩:=Fu h;obtain⟨h1,h2⟩:=Bt h;exact⟨g,p,as,q,by rw[FM h1],h2⟩
noncomputable def JV(e:An)(F:Ag->An->Ac An->Am):Am:=HY e λg l=>IJ l λx xs=>F g x xs
theorem JS{e:An}{F:Ag->An->Ac An->Am}(h:JV e F=Ab):∃ g p x xs q,e=.Call (.Name g p) (x::xs) [] q/\F g x xs=Ab:=by
 obtain⟨g,p,as,q,rfl,h⟩:=IA h;obtain⟨x,xs,rfl,h⟩:=Jq h;exact⟨g,p,x,xs,q,rfl,h⟩
noncomputable def Up(st:AJ)(F:Ag->Ag->Ac An->Am):Am:=KM st λe=>IL e λf as ks cp=>Hx f λo m ap=>Fa o λx=>ks.isEmpty&&(ap.endLine==cp.line&&F x m as)
theorem cJ{st:AJ}{F:Ag->Ag->Ac An->Am}(h:Up st F=Ab):∃ x p m ap as cp q,st=.Expr (.Call (.Attribute (.Name x p) m ap) as [] cp) q/\ap.endLine=cp.line/\F x m as=Ab:=by
 obtain⟨e,q,rfl,h⟩:=Oy h;obtain⟨f,as,ks,cp,rfl,h⟩:=Lw h;obtain⟨o,m,ap,rfl,h⟩:=JT h;obtain⟨x,p,rfl,h⟩:=Fu h;obtain⟨h1,h⟩:=Bt h;obtain⟨h2,h3⟩:=Bt h;exact⟨x,p,m,ap,as,cp,q,by rw[FM h1],eq_of_beq h2,h3⟩
noncomputable def Uq(st:AJ)(F:An->An->Am):Am:=PD st λts v=>D9 ts λt=>F t v
theorem aX{st:AJ}{F:An->An->Am}(h:Uq st F=Ab):∃ t v q,st=.Assign [t] v q/\F t v=Ab:=by
 obtain⟨ts,v,q,rfl,h⟩:=aW h;obtain⟨t,rfl,h⟩:=Fc h;exact⟨t,v,q,rfl,h⟩
noncomputable def LO(st:AJ)(F:Ag->An->Am):Am:=Uq st λt v=>Fa t λx=>F x v
theorem OB{st:AJ}{F:Ag->An->Am}(h:LO st F=Ab):∃ x p v q,st=.Assign [.Name x p] v q/\F x v=Ab:=by
 obtain⟨t,v,q,rfl,h⟩:=aX h;obtain⟨x,p,rfl,h⟩:=Fu h;exact⟨x,p,v,q,rfl,h⟩
noncomputable def Qk(e:An)(F:An->An->An->Ac An->BN->Am):Am:=PC e λx gs sc=>D9 gs λg=>decide (g.is_async=0)&&F x g.target g.iter g.ifs sc
theorem Sr{e:An}{F:An->An->An->Ac An->BN->Am}(h:Qk e F=Ab):∃ x t it ifs sc p,e=.ListComp x [⟨t,it,ifs,0⟩] sc p/\F x t it ifs sc=Ab:=by
 obtain⟨x,gs,sc,p,rfl,h⟩:=cK h;obtain⟨g,rfl,h⟩:=Fc h;obtain⟨t,it,ifs,a⟩:=g;obtain⟨h1,h2⟩:=Bt h;have h1:a=0:=AO h1;subst h1;exact⟨x,t,it,ifs,sc,p,rfl,h2⟩
noncomputable def Nt(e:E)(F:E->Am):Am:=if c:e.ctorIdx=8 then E.no.elim (motive_1:=λ_=>Am) e c F else Ad
theorem fN{e:E}{F:E->Am}(h:Nt e F=Ab):∃ a,e=E.no a/\F a=Ab:=by
 by_cases c:e.ctorIdx=8
 .exact E.no.elim (motive_1:=λe=>Nt e F=Ab->∃ a,e=E.no a/\F a=Ab) e c (λa h=>⟨a,rfl,h⟩) h
 .exact noF ((BP c).symm.trans h)
noncomputable def M3(e:E)(F:Es->Am):Am:=if c:e.ctorIdx=9 then E.and.elim (motive_1:=λ_=>Am) e c F else Ad
theorem aY{e:E}{F:Es->Am}(h:M3 e F=Ab):∃ es,e=E.and es/\F es=Ab:=by
 by_cases c:e.ctorIdx=9
 .exact E.and.elim (motive_1:=λe=>M3 e F=Ab->∃ es,e=E.and es/\F es=Ab) e c (λes h=>⟨es,rfl,h⟩) h
 .exact noF ((BP c).symm.trans h)
noncomputable def Nr(e:E)(F:Es->Am):Am:=if c:e.ctorIdx=10 then E.or.elim (motive_1:=λ_=>Am) e c F else Ad
theorem fM{e:E}{F:Es->Am}(h:Nr e F=Ab):∃ es,e=E.or es/\F es=Ab:=by
 by_cases c:e.ctorIdx=10
 .exact E.or.elim (motive_1:=λe=>Nr e F=Ab->∃ es,e=E.or es/\F es=Ab) e c (λes h=>⟨es,rfl,h⟩) h
 .exact noF ((BP c).symm.trans h)
noncomputable def Nc(e:E)(F:C5->E->E->Am):Am:=if c:e.ctorIdx=11 then E.cmp.elim (motive_1:=λ_=>Am) e c F else Ad
theorem cL{e:E}{F:C5->E->E->Am}(h:Nc e F=Ab):∃ o a b,e=E.cmp o a b/\F o a b=Ab:=by
 by_cases c:e.ctorIdx=11
 .exact E.cmp.elim (motive_1:=λe=>Nc e F=Ab->∃ o a b,e=E.cmp o a b/\F o a b=Ab) e c (λo a b h=>⟨o,a,b,rfl,h⟩) h
 .exact noF ((BP c).symm.trans h)
noncomputable def Nd(e:E)(F:C5->C5->E->E->E->Am):Am:=if c:e.ctorIdx=12 then E.cmp2.elim (motive_1:=λ_=>Am) e c F else Ad
theorem cM{e:E}{F:C5->C5->E->E->E->Am}(h:Nd e F=Ab):∃ o q a b c,e=E.cmp2 o q a b c/\F o q a b c=Ab:=by
 by_cases c:e.ctorIdx=12
 .exact E.cmp2.elim (motive_1:=λe=>Nd e F=Ab->∃ o q a b c,e=E.cmp2 o q a b c/\F o q a b c=Ab) e c (λo q a b c h=>⟨o,q,a,b,c,rfl,h⟩) h
 .exact noF ((BP c).symm.trans h)
noncomputable def Nf(e:E)(F:BI->Es->Am):Am:=if c:e.ctorIdx=15 then E.bi.elim (motive_1:=λ_=>Am) e c F else Ad
theorem cO{e:E}{F:BI->Es->Am}(h:Nf e F=Ab):∃ b as,e=E.bi b as/\F b as=Ab:=by
 by_cases c:e.ctorIdx=15
 .exact E.bi.elim (motive_1:=λe=>Nf e F=Ab->∃ b as,e=E.bi b as/\F b as=Ab) e c (λb as h=>⟨b,as,rfl,h⟩) h
 .exact noF ((BP c).symm.trans h)
noncomputable def Ql(e:E)(F:Am->Am):Am:=if c:e.ctorIdx=1 then E.bl.elim (motive_1:=λ_=>Am) e c F else Ad
theorem fP{e:E}{F:Am->Am}(h:Ql e F=Ab):∃ b,e=E.bl b/\F b=Ab:=by
 by_cases c:e.ctorIdx=1
 .exact E.bl.elim (motive_1:=λe=>Ql e F=Ab->∃ b,e=E.bl b/\F b=Ab) e c (λb h=>⟨b,rfl,h⟩) h
 .exact noF ((BP c).symm.trans h)
noncomputable def LM(e:E)(F:Af->Am):Am:=if c:e.ctorIdx=4 then E.var.elim (motive_1:=λ_=>Am) e c F else Ad
theorem Ou{e:E}{F:Af->Am}(h:LM e F=Ab):∃ i,e=E.var i/\F i=Ab:=by
 by_cases c:e.ctorIdx=4
 .exact E.var.elim (motive_1:=λe=>LM e F=Ab->∃ i,e=E.var i/\F i=Ab) e c (λi h=>⟨i,rfl,h⟩) h
 .exact noF ((BP c).symm.trans h)
noncomputable def KO(e:E)(F:Af->Es->Am):Am:=if c:e.ctorIdx=14 then E.call.elim (motive_1:=λ_=>Am) e c F else Ad
theorem Rz{e:E}{F:Af->Es->Am}(h:KO e F=Ab):∃ f as,e=E.call f as/\F f as=Ab:=by
 by_cases c:e.ctorIdx=14
 .exact E.call.elim (motive_1:=λe=>KO e F=Ab->∃ f as,e=E.call f as/\F f as=Ab) e c (λf as h=>⟨f,as,rfl,h⟩) h
 .exact noF ((BP c).symm.trans h)
noncomputable def M5(e:E):Am:=decide (e.ctorIdx=0)
theorem bJ{e:E}(h:M5 e=Ab):e=.non:=E.non.elim (motive_1:=λe=>e=.non) e (AO h) rfl
noncomputable def Dy:An->Am
 |.Starred _ _=>Ad
 |_=>Ab
noncomputable def Sv:An->Am
 |.Slice _ _ _ _=>Ad
 |_=>Ab
noncomputable def KQ:An->Am
 |.Set _ _ _=>Ad
 |_=>Ab
noncomputable def IF:An->Am
 |.ListComp _ _ _ _=>Ad
 |.SetComp _ _ _ _=>Ad
 |.DictComp _ _ _ _ _=>Ad
 |_=>Ab
noncomputable def U_8(tu:Am):An->Am
 |.Tuple ..=>tu
 |.Name ..=>!tu
 |_=>Ad
noncomputable def rJ:An->Am
 |.Tuple _ _ _=>Ab
 |_=>Ad
noncomputable def Mv:An->Am
 |.UnaryOp _ _ _=>Ad
 |.BoolOp _ _ _=>Ad
 |.IfExp _ _ _ _=>Ad
 |.Compare _ _ _ _=>Ad
 |_=>Ab
noncomputable def PJ:Ki->Ao Ag
 |.int=>Aa "int"
 |.bool=>Aa "bool"
 |.str=>Aa "str"
 |.list=>Aa "list"
 |.tuple=>Aa "tuple"
 |_=>Ae
noncomputable def PK:BI->Ao Ag
 |.len=>Aa "len"
 |.abs=>Ae
 |.max=>Ae
 |.min=>Aa "min"
 |.int=>Ae
 |.list=>Aa "list"
 |.tuple=>Aa "tuple"
 |.all=>Aa "all"
 |.any=>Aa "any"
 |.sum=>Ae
 |.sorted=>Ae
 |.str=>Aa "str"
 |.tmin=>Ae
 |.tmax=>Ae
 |_=>Ae
noncomputable def Ps(o scope:BN):BN:={scope with names:=scope.names.map λ(n,k)=>if (k==.free&&o.kind==.function&&o.names.lookup n==Aa .cell) then (n,.cell) else (n,k)}
noncomputable def J9:Ac Af->Ac Ag->Ac Ag->Ac Ag
 |t::ts,x::xs,N=>J9 ts xs ((N.map λy=>if y==x then N.getD t x else y).set t x)
 |_,_,N=>N
noncomputable def KA:Ac Ag->Am
 |[]=>Ab
 |x::xs=>!xs.contains x&&KA xs
noncomputable def Ma(T:Tc)(scope:BN)(ts:Ac Af)(N':Ac Ag):Am:=
  scope.kind==.function&&scope.names.all (λy=>scope.names.lookup y.1==Aa y.2) &&
  scope.names.all (λy=>y.2 != .free||T.sc.names.lookup y.1==Aa .cell||T.sc.names.lookup y.1==Aa .free) &&
  N'.length==T.N.length&&KA N' &&
  (Ba N'.length).all λi=>ts.contains i||(match N'[i]? with
    |some x=>(scope.names.lookup x != Aa .local&&scope.names.lookup x != Aa .cell)&&(scope.names.lookup x != Aa .free||T.N[i]? == Aa x)
    | none=>Ab)
noncomputable def FN:Ac An->Ao (Ac Ag)
 |[]=>Aa []
 |.Name x _::r=>(FN r).map (x :: ·)
 |_=>Ae
noncomputable def tgN(ys:Ac An):Ac Ag:=(FN ys).getD []
noncomputable def tgB(T:Tc):Ac Af->Ac Ag->Am
 |[],[]=>Ab
 |t::ts,x::xs=>T.N[t]? == Aa x&&T.sc.names.lookup x==Aa .local&&tgB T ts xs
 |_,_=>Ad
noncomputable def tgO(T:Tc)(scope:BN)(t:Af)(x:Ag):Am:=T.N[t]? == Aa x&&(T.sc.names.lookup x==Aa .local||(T.sc.names.lookup x==Aa .cell&&scope.names.lookup x==Aa .cell))
noncomputable def tgC(T:Tc):Ac Af->Ac Ag->Am
 |[],[]=>Ab
 |t::ts,x::xs=>T.N[t]? == Aa x&&IS T x&&tgC T ts xs
 |_,_=>Ad
noncomputable def Tc.blk(T:Tc)(scope:BN)(ts:Ac Af)(xs:Ac Ag):Tc:={T with sc:=Ps T.sc scope,N:=J9 ts xs T.N,tp:=Ad}
noncomputable def YJ(f:Ag):Am:=(f==("triple" : Ag)||(f==("points" : Ag)||f==("row" : Ag)))
noncomputable def KP:An->Am
 |.Call _ [] _ _=>Ad
 |_=>Ab
theorem MT{o:An}{f:Ag}{w:FJ Aj}(h:KP o=Ab):C8 o f env w=w:=by
 cases o with
 |Call g as ks p=>
  cases as with
  |nil=>cases h
  |cons=>cases g<;>rfl
 |_=>rfl
noncomputable def inX(l:Ac (Ag×Af))(g:Ag)(c:Af):Am:=l.any λp=>p.1==g&&p.2==c
noncomputable def ocB(T:Tc)(t:Ag)(k:Af):Am:=t==Nv k&&decide (k<3)&&glB T t&&Fw t
noncomputable def YC(T:Tc)(t:Ag):Ki->Am
 |.verr=>t==("ValueError" : Ag)&&isB T t
 |.cls c=>inX T.exs t c&&glB T t&&Fw t
 |_=>Ad
noncomputable def Vw:An->Ao (An×An×AD)
  | .Compare x ops ys p=>(match ops with
    | [.Lt]=>(match ys with
      |[y]=>Aa (x,y,p)
      | _=>Ae)
    | _=>Ae)
  |_=>Ae
noncomputable def PN(_:Es):Ao (E×E):=Ae
noncomputable def P9(_:Tc)(_:Tc->An->E->Am)(_:An)(_:Ac C5)(_:Ac An)(_:BI)(_:Es):Am:=Ad
noncomputable def Vt(T:Tc)(e:An)(b:BI)(as:Es):Am:=Ad
noncomputable def Tj:An->Ao (Ag×AD)
 |.Name x p=>Aa (x,p)
 |_=>Ae
noncomputable def Tk:An->Ao (An×Ac An×Ac DZ×AD)
 |.Call f as ks p=>Aa (f,as,ks,p)
 |_=>Ae
noncomputable def tF:An->Ao (Ac An×Af×AD)
 |.Tuple es k p=>Aa (es,k,p)
 |_=>Ae
noncomputable def one{α:Type}:Ac α->Ao α
 |[a]=>Aa a
 |_=>Ae
noncomputable def Vu(e:An):Ao (Ag×Ag×Ac An):=(Tk e).bind λc=>(Tj c.1).bind λg=>(one c.2.1).bind λa=>(Tk a).bind λd=>(Tj d.1).bind λh=>if (c.2.2.1.isEmpty&&d.2.2.1.isEmpty)=Ab then Aa (g.1,h.1,d.2.1) else Ae
noncomputable def VC(e:An):Ao (Ag×Ag×An×An):=match Vu e with
  | some (g,h,bs)=>(match bs with
    |[x,y]=>Aa (g,h,x,y)
    | _=>Ae)
  |none=>Ae
noncomputable def PV(_:Es):Ao (E×E):=Ae
noncomputable def VB(e:An):Ao (Ag×Ag×An):=match Vu e with
  | some (g,h,bs)=>(match bs with
    |[x]=>Aa (g,h,x)
    | _=>Ae)
  |none=>Ae
noncomputable def Ny:Es->Ao (Ag×E)
  | .cons a r=>(match a with
    | .str s=>(match r with
      | .cons b r'=>(match r' with
        | .nil=>(match b with
          |.var _=>Ae
          | b=>Aa (s,b))
        | _=>Ae)
      | _=>Ae)
    | _=>Ae)
  |.nil=>Ae
theorem iN{s:Ag}{a:E}(q:Ny as=Aa (s,a)):as=.cons (.str s) (.cons a .nil)/\∀ U r,top U a r=r:=by
 cases as with
 |nil=>cases q
 |cons a r=>
  cases a with
  |str s=>
   cases r with
   |nil=>cases q
   |cons b r'=>
    cases r' with
    |nil=>cases b<;>first|(cases q;exact⟨rfl,λ_ _=>rfl⟩)|cases q
    |cons=>cases q
  |_=>cases q
noncomputable def Nx:Es->Ao (E×Ag)
  | .cons a r=>(match r with
    | .cons b r'=>(match b with
      | .str y=>(match r' with
        |.nil=>Aa (a,y)
        | _=>Ae)
      | _=>Ae)
    | _=>Ae)
  |.nil=>Ae
theorem iM{s:Ag}{a:E}(q:Nx as=Aa (a,s)):as=.cons a (.cons (.str s) .nil):=by
 cases as with
 |nil=>cases q
 |cons a r=>
  cases r with
  |nil=>cases q
  |cons b r'=>
   cases b with
   |str s=>
    cases r' with
    |nil=>cases q;rfl
    |cons=>cases q
   |_=>cases q
noncomputable def PR(_:Es):Ao E:=Ae
noncomputable def two(e:An):Ao (An×An):=(tF e).bind λt=>match t.1 with
  |[a,b]=>Aa (a,b)
  |_=>Ae
noncomputable def Qs(_:Es):Ao E:=Ae
noncomputable def Ve(_:An):Ao An:=Ae
noncomputable def Va:An->Ao (An×Ah)
  | .Subscript v s _=>(match s with
    | .Slice lo hi st _=>(match lo with
      | some (.Constant (.int k) _ _)=>(match hi with
        | none=>(match st with
          |some (.Constant (.int j) _ _)=>if j=2 then Aa (v,k) else Ae
          | _=>Ae)
        | some _=>Ae)
      | _=>Ae)
    | _=>Ae)
  |_=>Ae
noncomputable def PQ(_:Es):Ao (E×Ah):=Ae
mutual
noncomputable def Bb:Af->Tc->An->E->Am
  |0,_,_,_=>Ad
  |n+1,T,e,c=>match c with
    |.non=>G3 e λc=>decide (c=.none)
    |.bl b=>G3 e λc=>decide (c=.bool b)
    |.int i=>G3 e λc=>decide (c=.int i)
    |.str x=>G3 e λc=>decide (c=.str x)
    |.var i=>Fa e λx=>isV T x i
    |.glob g=>Ad
    |.bin op a b=>M2 e λx op' y=>decide (op'=op)&&Bb n T x a&&Bb n T y b
    |.un op a=>Ka e λo x=>decide (o=.USub)&&(decide (op=.USub)&&Bb n T x a)
    |.no a=>Ka e λo x=>decide (o=.Not)&&Bb n T x a
    |.and es=>JA e λo xs _=>decide (o=.And)&&(chkEs n T xs es && !xs.isEmpty)
    |.or es=>JA e λo xs _=>decide (o=.Or)&&(chkEs n T xs es && !xs.isEmpty)
    |.cmp op a b=>KN e λx os ys=>D9 os λop'=>D9 ys λy=>decide (op'=op) && !behindInMarks op y&&Bb n T x a&&Bb n T y b
    |.cmp2 op1 op2 a b c=>KN e λx os ys=>G2 os λo1 o2=>G2 ys λy z=>decide (o1=op1)&&decide (o2=op2) && !lastMarks [op1,op2] [y,z]&&Bb n T x a&&Bb n T y b&&Bb n T z c
    |.ite c a b=>Ad
    |.call f as=>JV e λg x xs=>(T.fns.any λp=>p.1==g&&p.2.1==f&&p.2.2==xs.length+1)&&decide (xs.length<900)&&glB T g&&Fw g&&chkEs n T (x::xs) as
    |.bi b as=>(JV e λg x xs=>PK b==Aa g&&isB T g&&chkEs n T (x::xs) as)||(Vt T e b as||Qt T e b as)||(match PV as with|some (a,c)=>(match VC e with|some (g,h,x,y)=>decide (b=.list)&&g==("list" : Ag)&&h==("range" : Ag)&&isB T g&&isB T h&&Dy x&&Dy y&&Bb n T x a&&Bb n T y c|none=>Ad)|none=>Ad)||(match PQ as with|some (a,k)=>(match Va e with|some (x,j)=>decide (b=.stp)&&decide (j=k)&&decide (0<=k)&&Bb n T x a|none=>Ad)|none=>Ad)||(match PR as with|some a=>(match VB e with|some (g,h,x)=>decide (b=.lset)&&g==("len" : Ag)&&h==("set" : Ag)&&isB T g&&isB T h&&Dy x&&Bb n T x a|none=>Ad)|none=>Ad)||(match PN as with|some (a,c)=>(match Vw e with|some (x,y,_)=>decide (b=.tlt) && !behindInMarks .Lt y&&Bb n T x a&&Bb n T y c|none=>Ad)|none=>Ad)||(match Ny as with|some (s,a)=>IL e λf l ks cp=>ks.isEmpty&&(Hx f λo m ap=>m==("join" : Ag)&&ap.endLine==cp.line&&(G3 o λc=>decide (c=.str s)&&decide (b=.sjoin)&&(D9 l λy=>Dy y&&Bb n T y a)))|none=>Ad)||(match Nx as with|some (a,s)=>IL e λf l ks cp=>ks.isEmpty&&(Hx f λo m ap=>m==("split" : Ag)&&ap.endLine==cp.line&&KP o&&Bb n T o a&&(D9 l λy=>G3 y λc=>decide (c=.str s)&&decide (b=.ssplit)))|none=>Ad)||(match Qs as with|some a=>(match Ve e with|some x=>decide (b=.rvs)&&Bb n T x a|none=>Ad)|none=>Ad)
    |.isi a ks=>(D9 ks λk=>HY e λg l=>G2 l λx t=>Fa t λt=>g==("isinstance" : Ag)&&isB T g&&PJ k==Aa t&&isB T t&&Dy x&&Bb n T x a)||(D9 ks λk=>HY e λg l=>G2 l λx t=>Fa t λt=>g==("isinstance" : Ag)&&isB T g&&Dy x&&Bb n T x a&&YC T t k)
    |.idx a i=>M8 e λx y=>Sv y&&Bb n T x a&&Bb n T y i
    |.sl a lo hi=>M8 e λx s=>PB s λl h st=>st.isNone&&(Bb n T x a&&chkO n T l lo&&chkO n T h hi)
    |.tup es=>Jz e λxs=>chkEs n T xs es&&decide (xs.length<=1000)
    |.lst es=>Nb e λxs=>chkEs n T xs es&&decide (xs.length<=1000)
    |.comp elt t it c=>Qk e λx tg iter ifs scope=>Fa tg λy=>chkI n T Ad iter it&&KQ iter&&Ma T scope [t] (J9 [t] [y] T.N)&&tgO (T.blk scope [t] [y]) scope t y&&chkT n (T.blk scope [t] [y]) ifs c&&Bb n (T.blk scope [t] [y]) x elt
    |.compT elt ts it c=>Ad
    |.tupI _=>Ad
    |.dnew=>Ad
    |.fld o f=>Hx e λw g _=>g==f&&YJ f&&KP w&&Bb n T w o
    |.ofl o f=>Hx e λw g _=>g==f&&f==("triple" : Ag)&&KP w&&Bb n T w o
    |.iso a k=>HY e λg l=>G2 l λx t=>Fa t λt=>g==("isinstance" : Ag)&&isB T g&&Dy x&&Bb n T x a&&ocB T t k
    |.meth m ms o=>IL e λf l ks cp=>ks.isEmpty&&(l.isEmpty&&(Hx f λw g ap=>g==m&&(m==("told" : Ag)||m==("shown" : Ag))&&ap.endLine==cp.line&&KP w&&Bb n T w o&&ms.all λq=>T.fns.any λp=>(GL.lookup p.1==Aa (q.1,m))&&p.2.1==q.2&&p.2.2==1))
    |.mkob _ _=>Ad
    |.mkn c as=>JV e λg x xs=>ocB T g c&&xs.length==1&&chkEs n T (x::xs) as
    |.mkx c as=>T.tp&&(JV e λg x xs=>inX T.rzs g c&&glB T g&&Fw g&&decide (xs.length<=1000)&&chkEs n T (x::xs) as)
noncomputable def HG:Af->Tc->An->E->Am
 |0,_,_,_=>Ad
 |n+1,T,e,c=>(Ka e λo x=>decide (o=.Not)&&(Nt c λa=>HG n T x a)) ||
  (JA e λo xs _=>(decide (o=.And)&&(M3 c λes=>chkBs n T xs es && !xs.isEmpty))||(decide (o=.Or)&&(Nr c λes=>chkBs n T xs es && !xs.isEmpty))) ||
  (KN e λx os ys=>(Nc c λop a b=>D9 os λop'=>D9 ys λy=>decide (op'=op) && !behindInMarks op y&&Bb n T x a&&Bb n T y b) ||
   (Nd c λop1 op2 a b c=>G2 os λo1 o2=>G2 ys λy z=>decide (o1=op1)&&decide (o2=op2) && !lastMarks [op1,op2] [y,z]&&Bb n T x a&&Bb n T y b&&Bb n T z c) ||
   (Nf c λb as=>P9 T (Bb n) x os ys b as)) ||
  Mv e&&Bb n T e c
noncomputable def chkBs:Af->Tc->Ac An->Es->Am
  |0,_,_,_=>Ad
  |n+1,T,xs,es=>match xs,es with
    |[],.nil=>Ab
    |x::xs,.cons e es=>HG n T x e&&chkBs n T xs es
    |_,_=>Ad
noncomputable def chkEs:Af->Tc->Ac An->Es->Am
  |0,_,_,_=>Ad
  |n+1,T,xs,es=>match xs,es with
    |[],.nil=>Ab
    |x::xs,.cons e es=>Dy x&&Bb n T x e&&chkEs n T xs es
    |_,_=>Ad
noncomputable def chkO:Af->Tc->Ao An->E->Am
  |0,_,_,_=>Ad
  |n+1,T,x,e=>match x with
    |none=>M5 e
    |some x=>!(M5 e)&&Bb n T x e
noncomputable def chkT:Af->Tc->Ac An->E->Am
  |0,_,_,_=>Ad
  |n+1,T,xs,e=>match xs with
    |[]=>Ql e λb=>b
    |x::r=>r.isEmpty&&HG n T x e
noncomputable def chkI:Af->Tc->Am->An->I->Am
  |0,_,_,_,_=>Ad
  |n+1,T,tu,e,i=>match i with
    |.e a=>Bb n T e a
    |.rng a=>HY e λg l=>D9 l λx=>g==("range" : Ag)&&isB T g&&Dy x&&Bb n T x a
    |.enm a=>HY e λg l=>D9 l λx=>tu&&g==("enumerate" : Ag)&&isB T g&&Dy x&&Bb n T x a
    |.zip a b=>Ad
    |.rng2 a b=>HY e λg l=>G2 l λx y=>g==("range" : Ag)&&isB T g&&Dy x&&Dy y&&Bb n T x a&&Bb n T y b
    |.zip3 a b c=>Ad
end
noncomputable def Qi:E->E->Am
 |.var _,.int _=>Ab
 |_,_=>Ad
noncomputable def Vc:Fq->Am
 |.Sub=>Ab
 |_=>Ad
noncomputable def Nk:E->Am
 |.idx a b=>Qi a b
 |.bin op a b=>Vc op&&Qi a b
 |.var _=>Ab
 |.int _=>Ab
 |.bl _=>Ab
 |.str _=>Ab
 |.non=>Ab
 |_=>Ad
noncomputable def IK:Es->Am
 |.nil=>Ab
 |.cons e es=>Nk e&&IK es
noncomputable def G4:An->Ao (Ag×AD)
 |.Name x p=>Aa (x,p)
 |_=>Ae
theorem HV{e:An}{t:Ag×AD}(h:G4 e=Aa t):e=.Name t.1 t.2:=by
 cases e with
 |Name x p=>cases h;rfl
 |_=>exact nomatch (show Ae=Aa t from h)
noncomputable def Vo:An->Ao (An×Ac An×AD)
  | .Call f as ks p=>(match ks with
    |[]=>Aa (f,as,p)
    | _=>Ae)
  |_=>Ae
theorem eU{e:An}{t:An×Ac An×AD}(h:Vo e=Aa t):e=.Call t.1 t.2.1 [] t.2.2:=by
 cases e with
 |Call f as ks p=>
  cases ks with
  |nil=>cases h;rfl
  |cons=>exact nomatch (show Ae=Aa t from h)
 |_=>exact nomatch (show Ae=Aa t from h)
noncomputable def LW{α:Type}:Ac α->Ao (α×α)
 |[a,b]=>Aa (a,b)
 |_=>Ae
theorem MK{l:Ac α}{t:α×α}(h:LW l=Aa t):l=[t.1,t.2]:=by
 cases l with
 |nil=>exact nomatch (show Ae=Aa t from h)
 |cons a l=>
  cases l with
  |nil=>exact nomatch (show Ae=Aa t from h)
  |cons b l=>
   cases l with
   |nil=>cases h;rfl
   |cons=>exact nomatch (show Ae=Aa t from h)
noncomputable def xHd:E1->Ao (Ag×Ag×AJ×Ac AJ)
  | .ExceptHandler ty nm b _=>(match nm,b,ty with
    |some m,h0::hs,Aa e=>(G4 e).bind λg=>Aa (g.1,m,h0,hs)
    | _,_,_=>Ae)
theorem kM{h:E1}{g m:Ag}(q:xHd h=Aa (g,m,h0,hs)):∃ p r,h=.ExceptHandler (Aa (.Name g p)) (Aa m) (h0::hs) r:=by
 obtain⟨ty,nm,b,r⟩:=h;cases nm with
 |none=>cases ty<;>cases b<;>exact nomatch (show Ae=Aa (g,m,h0,hs) from q)
 |some m'=>
  cases b with
  |nil=>cases ty<;>exact nomatch (show Ae=Aa (g,m,h0,hs) from q)
  |cons h0' hs'=>
   cases ty with
   |none=>exact nomatch (show Ae=Aa (g,m,h0,hs) from q)
   |some e=>
    obtain⟨g',e1,q⟩:=Ax.mp (show ((G4 e).bind λg=>Aa (g.1,m',h0',hs'))=Aa (g,m,h0,hs) from q)
    cases q;rw[HV e1];exact⟨_,_,rfl⟩
noncomputable def Qd:AJ->Ao (AJ×Ac E1×Ac AJ)
  | .Try b hs es fs _=>(match b,fs with
    |[bt],[]=>Aa (bt,hs,es)
    | _,_=>Ae)
  |_=>Ae
theorem eQ{st bt:AJ}{hs:Ac E1}{es:Ac AJ}(q:Qd st=Aa (bt,hs,es)):∃ p,st=.Try [bt] hs es [] p:=by
 cases st with
 |Try b h e f p=>
  cases b with
  |nil=>cases f<;>exact nomatch (show Ae=Aa (bt,hs,es) from q)
  |cons x b=>
   cases b with
   |cons=>cases f<;>exact nomatch (show Ae=Aa (bt,hs,es) from q)
   |nil=>
    cases f with
    |nil=>cases q;exact⟨_,rfl⟩
    |cons=>exact nomatch (show Ae=Aa (bt,hs,es) from q)
 |_=>exact nomatch (show Ae=Aa (bt,hs,es) from q)
noncomputable def U_0(e:An)(F:Ag->Ag->An->Am):Am:=HY e λg l=>G2 l λa t=>Fa a λv=>F g v t
theorem fO{e:An}{F:Ag->Ag->An->Am}(h:U_0 e F=Ab):∃ g p v q t r,e=.Call (.Name g p) [.Name v q,t] [] r/\F g v t=Ab:=by
 obtain⟨g,p,l,r,rfl,h⟩:=IA h;obtain⟨a,t,rfl,h⟩:=Iz h;obtain⟨v,q,rfl,h⟩:=Fu h;exact⟨g,p,v,q,t,r,rfl,h⟩
noncomputable def P7(T:Tc):Ac An->Ac Ki->Am
  |[],ks=>ks.isEmpty
  | e::r,ks=>IJ ks λk ks=>Fa e λt=>(match k with
    |.cls c=>inX T.exs t c&&glB T t&&Fw t
    | _=>Ad)&&P7 T r ks
noncomputable def LS(f:An->E->Am):Ac An->Es->Am
 |[],.nil=>Ab
 |x::xs,.cons e es=>Dy x&&f x e&&LS f xs es
 |_,_=>Ad
noncomputable def sZ(T:Tc)(t:An)(ks:Ac Ki):Am:=IJ ks λk r=>match k with
  |.verr=>r.isEmpty&&(Fa t λt=>t==("ValueError" : Ag)&&isB T t)
  | .cls c=>(match r with
    |[]=>Fa t λt=>inX T.exs t c&&glB T t&&Fw t
    | k2::r=>Jz t λts=>P7 T ts (.cls c::k2::r)&&decide (ts.length<=1000))
  |_=>Ad
noncomputable def Ia:Af->Tc->Af->An->E->Am
  |0,_,_,_,_=>Ad
  |n+1,T,x,e,c=>match c with
    |.bl b=>G3 e λk=>decide (k=.bool b)
    |.no a=>Ka e λo y=>decide (o=.Not)&&Ia n T x y a
    | .and es=>(match es with
      |.nil=>Ad
      | .cons a r=>(match r with
        |.nil=>JA e λo l _=>decide (o=.And)&&(D9 l λy=>Ia n T x y a)
        | .cons a' as=>JA e λo l p=>decide (o=.And)&&(IJ l λy l=>IJ l λz zs=>Ia n T x y a&&Ia n T x (.BoolOp .And (z::zs) p) (.and (.cons a' as)))))
    |.isi a ks=>LM a λi=>U_0 e λg v t=>i==x&&g==("isinstance" : Ag)&&isB T g&&isV T v x&&sZ T t ks
    |.call _ _=>Ad
    |.str s=>G3 e λk=>decide (k=.str s)
    |.lst es=>Nb e λxs=>LS (Ia n T x) xs es&&decide (xs.length<=1000)
    |.tup es=>Jz e λxs=>LS (Ia n T x) xs es&&decide (xs.length<=1000)
    |.bin op a b=>decide (op=.Add)&&(LM a λi=>M2 e λl o y=>decide (o=.Add)&&(Fa l λv=>isV T v i&&Ia n T x y b))
    |.fld o f=>LM o λi=>Hx e λw g _=>Fa w λv=>i==x&&g==f&&(f==("triple" : Ag)||(f==("points" : Ag)||f==("row" : Ag)))&&isV T v x
    |_=>Ad
noncomputable def YD:E->Am
 |.lst _=>Ab
 |_=>Ad
noncomputable def PL:Af->Tc->Af->Ac AJ->Ss->Am
  |0,_,_,_,_=>Ad
  |n+1,T,x,sts,ss=>match ss with
    |.nil=>sts.isEmpty
    | .cons s ss=>IJ sts λst r=>(match s with
      |.asg i b e=>LO st λy v=>T.N[i]? == Aa y&&IS T y&&IF v&&Ia n T x v e&&(!b||YD e)
      |.ife _ _ _=>Ad
      |.ret _=>Ad
      |.app _ _=>Ad
      | _=>Ad)&&PL n T x r ss
noncomputable def Qh:E->Am
 |.var _=>Ab
 |.cmp _ a b=>Nk a&&Nk b
 |_=>Ad
noncomputable def MQ(n:Af)(T:Tc)(st:AJ)(s:S):Am:=match s with
  |.expr e=>KO e λf as=>KM st λv=>Bb n T v (.call f as)&&IK as
  |.asg i b e=>!b&&(KO e λf as=>LO st λy v=>T.N[i]? == Aa y&&IS T y&&Bb n T v (.call f as)&&IK as)
  |_=>Ad
noncomputable def Pz:Ss->(S->Am)->Am
  |.nil,_=>Ad
  | .cons a r,F=>(match r with
    |.nil=>F a
    | .cons _ _=>Ad)
theorem Rx{l:Ss}{F:S->Am}(h:Pz l F=Ab):∃ a,l=.cons a .nil/\F a=Ab:=by
 cases l with
 |nil=>exact noF h
 |cons a r=>
  cases r with
  |nil=>exact⟨a,rfl,h⟩
  |cons=>exact noF h
noncomputable def Ti(f:AJ->S->Am)(n:Af)(T:Tc)(st:AJ):S->Am
 |.ife c a b=>Pz a λa=>Pz b λb=>Nu st λt xs ys=>D9 xs λx=>D9 ys λy=>HG n T t c&&Qh c&&f x a&&f y b
 |_=>Ad
noncomputable def Ng:Af->Af->Tc->AJ->S->Am
 |0,n,T,st,s=>MQ n T st s
 |m+1,n,T,st,s=>MQ n T st s||Ti (Ng m n T) n T st s
noncomputable def YM:E->Am
  | .bi b as=>(match b,as with
    |.len,.nil=>Ab
    | _,_=>Ad)
  |_=>Ad
noncomputable def YL:S->Am
 |.expr e=>YM e
 |_=>Ad
noncomputable def Nw:Ss->Am
 |.cons s _=>YL s
 |.nil=>Ad
noncomputable def hdB(T:Tc)(g:Ag)(c:Af):Am:=inX T.exs g c&&inX T.rzs g c&&glB T g&&Fw g
mutual
noncomputable def L9:Af->Tc->AJ->S->Am
  |0,_,_,_=>Ad
  |n+1,T,st,s=>match s with
    |.pass=>decide (st.ctorIdx=25)
    |.brk=>Ad
    |.cont=>Ad
    |.asg i _ e=>LO st λx v=>T.N[i]? == Aa x&&IS T x&&Bb n T v e
    |.asgT ts e=>Ad
    |.expr e=>KM st λv=>IF v&&Bb n T v e
    |.ret e=>M9 st λo=>match o with|some v=>Bb n T v e|none=>Ad
    |.retN=>Ad
    |.retc ts it f as=>M9 st λo=>match o with|some v=>(Qk v λx tg iter ifs scope=>ifs.isEmpty&&(Jz tg λys=>(FN ys).isSome&&chkI n T Ab iter it&&KQ iter&&Ma T scope ts (J9 ts (tgN ys) T.N)&&tgB (T.blk scope ts (tgN ys)) ts (tgN ys)&&IK as&&Bb n (T.blk scope ts (tgN ys)) x (.call f as)))|none=>Ad
    |.ife c a b=>Nu st λt xs ys=>HG n T t c&&chkSs n T xs a&&chkSs n T ys b
    |.fors t it body=>LN st λtg iter xs ys=>ys.isEmpty&&(Fa tg λx=>tgC T [t] [x]&&KQ iter&&chkI n T Ad iter it&&chkSs n T xs body)
    |.forT ts it body=>LN st λtg iter xs zs=>zs.isEmpty&&(Jz tg λys=>(FN ys).isSome&&tgC T ts (tgN ys)&&KQ iter&&chkI n T Ab iter it&&chkSs n T xs body)
    |.forO i ts body=>LN st λtg iter xs zs=>zs.isEmpty&&(Jz tg λys=>(FN ys).isSome&&tgC T ts (tgN ys)&&KQ iter&&(HY iter λg l=>D9 l λx=>g==("enumerate" : Ag)&&isB T g&&(Fa x λz=>isV T z i)&&chkSs n T xs body))
    |.whl c body=>Py st λt xs ys=>ys.isEmpty&&(HG n T t c&&chkSs n T xs body)
    |.rais c as=>!(T.rzs.any λp=>p.2==c)||(Na st λa b=>b.isNone&&(match a with|some e=>JV e λg x xs=>inX T.rzs g c&&glB T g&&Fw g&&decide (xs.length<=1000)&&chkEs n T (x::xs) as|none=>Ad))
    |.tryx bs c x h=>(match bs with | .cons b .nil=>(match Qd st with|some (bt,[h1],[])=>(match xHd h1 with|some (g,m,h0,hs)=>hdB T g c&&T.N[x]? == Aa m&&T.sc.names.lookup m==Aa .local&&Ng 6 n T bt b&&PL n T x (h0::hs) h|none=>Ad)|_=>Ad)|_=>Ad)
    |.try2 _ _ _ _ _ _ _=>Ad
    |.app i e=>Up st λx m l=>D9 l λv=>m==("append" : Ag)&&isV T x i&&Dy v&&Bb n T v e
    |.ext i e=>Ad
    |.rev i=>Ad
    |.clr i=>Ad
    |.put i k e=>Ad
    |.swp _ _ _=>Ad
    |.apop _ _ _=>Ad
    |.ins i k e=>Ad
    |.dput _ _ _=>Ad
    |.dsd _ _ _=>Ad
    |.rel _=>Ad
noncomputable def chkSs:Af->Tc->Ac AJ->Ss->Am
  |0,_,_,_=>Ad
  | n+1,T,sts,ss=>(match ss with
    |.nil=>sts.isEmpty
    |.cons (.rel i) ss=>chkSs n T sts ss
    | .cons s ss=>(match sts with
      |st::r=>L9 n T st s&&chkSs n T r ss
      | []=>Ad))||Nw ss
end
noncomputable def Gu(fuel:Af)(hot:Am)(fns:Ac (Ag×Af×Af))(bl:Ac Ag)(rzs exs gls:Ac (Ag×Af))(ps N:Ac Ag)(st:AJ)(df:Df):Am:=
  let sc:=BK st
  sc.kind==.function && !sc.isCoroutine && !sc.isGenerator&&KA N&&N.take ps.length==ps&&ps.all (λx=>sc.names.lookup x==Aa .local||sc.names.lookup x==Aa .cell)&&sc.names.all (λy=>y.2 != .free)&&N.length==df.n &&
  (match hot with
  |true=>Ad
  | false=>chkSs fuel ⟨sc,N,fns,bl,rzs,exs,gls,Ab⟩ (Ew st) df.body)
structure XT (up:Af->Ac Af) (xn:Af->Ac D->R Ex) (CL:ClA) (rzs exs:Ac (Ag×Af)) (K:Fg) (mg:Ag->Ao Aj):Prop where
 xc:∀ c C,CL c=Aa C->XcOk K C
 rz:∀ p∈rzs,∃ C,CL p.2=Aa C/\mg p.1=Aa (.ref C)
 ex:∀ p∈exs,∃ C,mg p.1=Aa (.ref C)/\LH K CL up p.2 C/\∀ c D,CL c=Aa D->BF K (.ref D) (.ref C)=Aa ((up c).contains p.2)
 made:∀ c C ds,CL c=Aa C->xn c ds=.bad\/(xn c ds=.ok ⟨c,[]⟩/\Db K C Ae=Ab)\/∃ f,XIn K mg C f/\J8 xn c f ds
 nf:∀ c C,CL c=Aa C->∀ f:Ag,(f==("triple" : Ag)||(f==("points" : Ag)||f==("row" : Ag)))=Ab->F9 K C=Ab/\Ar K (.ref C) f=Aa Ae
 xb:∀ c,(∀ p∈rzs,p.2≠c)->∀ ds,xn c ds=.bad
def NB(K:Fg)(mg:Ag->Ao Aj)(CL:ClA)(x:Ag)(d:D):Prop:=∃ u v,mg x=Aa u/\Bu v u/\∀ H A,Rep K CL H A v d
structure OS (K:Fg) (mg:Ag->Ao Aj):Prop where
 oc:∀ c C,OC K c=Aa C->OCls K C
 kit:∀ c C c' C',OC K c=Aa C->OC K c'=Aa C'->BW K (.ref C) (.ref C')=Aa ((oup c).contains c')
 at_:∀ c,c<3->∃ C,OC K c=Aa C/\mg (Nv c)=Aa (.ref C)
 mf:∀ c C m f,OC K c=Aa C->(m==("told" : Ag)||m==("shown" : Ag))=Ab->Ar K (.ref C) m=Aa (Aa (.ref f))->Dx K (.ref f)=Ab
def MkR(P:AM)(w:AA)(K:Fg)(mg:Ag->Ao Aj)(base:AG)(CL:ClA)(F:Af->Ac D->R D)(k c:Af):Prop:=(∀ ds,F (900+c) ds=.bad)\/∃ C f fd G k',OC K c=Aa C/\Mk K C f/\EK K fd ["self", "p", "numbers"] []/\k'+1=k/\FnOk P w K mg base (CXR P w) k' f fd ["self", "p", "numbers"] (spI K CL G)/\(∀ ds,ds.length=2->F (900+c) ds=.bad\/F (900+c) ds=(G ds).bind (EJ c))/\∀ ds y,G ds≠.exn y
structure VX (Z:Gam) (CL:ClA) (k:Af) (W:XW) (T:Tc) (X:Cx):Prop where
 sc:X.env.scope=T.sc
 kd:T.sc.kind=.function
 N:X.N=T.N
 nd:T.N.Nodup
 calm:X.calm=Ab
 room:Room k X.A
 bl:∀ x,x∈T.bl->X.mg x=Ae
 os:OS X.K X.mg
 mkr:∀ c,c<3->MkR X.prog X.w X.K X.mg X.base CL Z.F k c
 fn:∀ p∈T.fns,∃ f fd ps,H9 X.K X.mg p.1=Aa (.ref f)/\Bi X.K (.ref f)=Ab/\EK X.K fd ps []/\ps.length=p.2.2%1000/\(p.2.2<1000->FnOk X.prog X.w X.K X.mg X.base (CXR X.prog X.w) k f fd ps (spD X.K CL (p.2.2%1000) (Z.fr p.2.1) (Z.F p.2.1)))/\(1000<=p.2.2->HotOk X.prog X.w X.K X.mg X.base k f fd ps (spH X.K CL (p.2.2%1000) (Z.fr p.2.1) (Z.F p.2.1)))
 own:DX (model X.prog X.w) X.A X.env X.xe
 px:∀ A,IH (CXR X.prog X.w) X (EKW X.K CL A W)
 rz:L8 X CL W
 fz:K5 X CL W
 xt:XT Z.up Z.xn CL T.rzs T.exs X.K X.mg
 gl:∀ p∈T.gls,NB X.K X.mg CL p.1 (Z.G p.2)
 ex:T.tp=Ab->X.ex=[]
theorem Tz:∀ A,IH (CXR X.prog X.w) X (EKW X.K CL A W0):=λA pI Y H s ev s' I h=>by
 obtain⟨e,T,cls,dx,H',_,_,_,_,_,_,_,_,_,_,x,_,w⟩:=h;exact w.elim
theorem Vd:L8 X CL W0:=λ_ _ _ _ _ _ _ _ _ _ _ _ _ _ z=>z.elim
def Rf{α:Type}(g f:Rho->R α):Prop:=∀ U,g U=.bad\/g U=f U
section
variable{X:Cx}{CL:ClA}{W:XW}{a:An}{f g:Rho->R D}
theorem SE.ref(h:SE X CL W a f)(r:Rf g f):SE X CL W a g:=λA=>PE.weak (h A) λY H Q ⟨hA,U,q,p⟩=>⟨hA,U,q,by
 rcases r U with e|e
 .rw[e]at p;exact p.elim
 .rw[e]at p;exact p⟩
theorem SB.ref{f g:Rho->R Am}(h:SB X CL W a f)(r:Rf g f):SB X CL W a g:=λA=>PT.weak (h A) λY H Q ⟨hA,U,q,p⟩=>⟨hA,U,q,by
 rcases r U with e|e
 .rw[e]at p;exact p.elim
 .rw[e]at p;exact p⟩
theorem SW.ref{f g:Rho->R Am}(h:SW X CL W a f)(r:Rf g f):SW X CL W a g:=λA=>PW.weak (h A) λY H Q ⟨hA,U,q,p⟩=>⟨hA,U,q,by
 rcases r U with e|e
 .rw[e]at p;exact p.elim
 .rw[e]at p;exact p⟩
theorem SC.ref{fr:Am}(h:SC X CL W fr a f)(r:Rf g f):SC X CL W fr a g:=λA=>PE.weak (h A) λY H Q ⟨hA,U,q,p⟩=>⟨hA,U,q,by
 rcases r U with e|e
 .rw[e]at p;exact p.elim
 .rw[e]at p;exact p⟩
theorem SS.ref{st:AJ}{f g:Rho->O}(h:SS X CL W st f)(r:∀ U,g U=.bad\/g U=f U):SS X CL W st g:=λFz B=>PS.weak (h Fz B) λD Y H ⟨U,x,p⟩=>⟨U,x,by
 rcases r U with e|e
 .rw[e]at p;exact p.elim
 .rw[e]at p;exact p⟩
end
theorem Li:∀{l:Ac Ag},KA l=Ab->l.Nodup
 |[],_=>List.nodup_nil
 |x::xs,h=>by
  unfold KA at h;simp only[Al,Bs,VZ,decide_eq_false_iff_not]at h;exact List.nodup_cons.mpr ⟨h.1,Li h.2⟩
section
variable{T:Tc}{X:Cx}{Z:Gam}{CL:ClA}{k:Af}{W:XW}
theorem R8(h:Qg T x=Ab):Vis T.sc x:=by
 unfold Qg at h;split at h
 .exact .inl (by assumption)
 .exact .inr (.inl (by assumption))
 .exact .inr (.inr (by assumption))
 .cases h
theorem Ky(h:IS T x=Ab):Loc T.sc x:=by
 unfold IS at h;split at h
 .exact .inl (by assumption)
 .exact .inr (by assumption)
 .cases h
theorem MG(h:Fw x=Ab):GL.lookup x=Ae:=by
 unfold Fw at h;exact DN.mp (Bt h).2
theorem F4(h:Fw x=Ab):(x==("__debug__" : Ag))=Ad/\(x==("__classdict__" : Ag))=Ad/\x≠"__name__" := by
 unfold Fw at h;replace h:=(Bt h).1;simp only[Al,Bs]at h;exact⟨h.1.1,h.1.2,λe=>by subst e;exact absurd h.2 (by simp)⟩
theorem Jv{i:Af}(v:VX Z CL k W T X)(h:isV T x i=Ab):PE X (.Name x pos) (EX i):=by
 unfold isV at h;simp only[Al,AH]at h;obtain⟨h2,h3,_⟩:=F4 h.2;exact Kz (by rw[v.N];exact h.1.1) (by rw[v.sc];exact R8 h.1.2) h2 h3
theorem G0(v:VX Z CL k W T X)(h:isB T x=Ab):Gl X x/\X.mg x=Ae/\x≠"__name__"/\(x==("__debug__" : Ag))=Ad:=by
 unfold isB glB at h;simp only[Al,AH,VZ,AE]at h;obtain⟨h2,h3,h4⟩:=F4 h.2;exact⟨by show X.env.scope.names.lookup x=_;rw[v.sc];exact h.1.2,v.bl x h.1.1,h4,h2⟩
theorem Da{x:An}(h:Dy x=Ab):As (x::xs) env=(Ad,eval x env)::As xs env:=by
 cases x<;>first|rfl|cases h
theorem aH{y:An}(h:Sv y=Ab):O1 y:=by
 intro o i;cases y<;>first|rfl|cases h
theorem LJ{e:An}(h:KQ e=Ab):∀ x,B4 e env x=pure x:=by
 intro x;cases e<;>first|rfl|cases h
theorem JU{e:An}{t:Ao An}{l:Af}(h:IF e=Ab):CS e t l env=pure Ad:=by
 cases e<;>first|rfl|cases h
theorem dG{e:An}(h:Mv e=Ab):∀ whole,Ik e env whole=(do let v <-whole;standAt e.pos;holding [v] (truthy v)):=by
 intro whole;cases e<;>first|rfl|cases h
theorem Y_4(v:VX Z CL k W T X)(scope:BN):relabel scope X.env=Ps T.sc scope:=by
 unfold relabel Ps;have:∀ n,X.env.kindOf n=T.sc.names.lookup n:=λn=>by show X.env.scope.names.lookup n=_;rw[v.sc]
 simp only[this,v.sc]
theorem Pp(v:VX Z CL k W T X)(h:Ma T scope ts N'=Ab):BlockOk X scope N' ts/\N'.Nodup/\scope.kind=.function:=by
 unfold Ma at h;simp only[Al,AH,Br,B8,Ha,K9]at h;obtain⟨⟨⟨⟨⟨h1,h2⟩,h4⟩,h5⟩,h6⟩,h7⟩:=h;have at7:∀ i x,N'[i]?=Aa x->i∈ts\/((scope.names.lookup x≠Aa .local/\scope.names.lookup x≠Aa .cell)/\(scope.names.lookup x≠Aa .free\/T.N[i]?=Aa x)):=λi x e=>by
  have hi:=(A5.mp e).1;have:=h7 i (Ds.mpr hi);rcases this with z|z
  .exact .inl (by simpa using z)
  .rw[e]at z;simp only[Al,Ha,K9,B8,AH]at z;exact .inr z
 refine⟨⟨h1,h2,λy hy hl=>by rw[h2 y hy,hl],λy hy hf=>?_,by rw[v.N];exact h5,λi x e hf hn=>?_,λi x e hl=>?_⟩,Li h6,h1⟩
 .rw[v.sc];rcases h4 y hy with (z|z)|z
  .exact absurd hf z
  .exact .inl z
  .exact .inr z
 .rw[v.N];rcases at7 i x e with z|⟨_,z⟩
  .exact absurd z hn
  .exact z.resolve_left λq=>q hf
 .rcases at7 i x e with z|⟨z,_⟩
  .exact z
  .exact hl.elim (λq=>absurd q z.1) (λq=>absurd q z.2)
theorem VX.blk{xs:Ac Ag}{cl:Ac (Ag×Ak)}{s:Ap}{fp:Ac Ak}(v:VX Z CL k W T X)(h:Ma T scope ts (J9 ts xs T.N)=Ab):VX Z CL k W0 (T.blk scope ts xs) (cxC X scope cl C (J9 ts xs T.N) s H fp):=by
 obtain⟨_,h2,h3⟩:=Pp v h;exact⟨Y_4 v scope,h3,rfl,h2,v.calm,v.room,v.bl,v.os,v.mkr,v.fn,PassesOwn.never,Tz,Vd,VG,v.xt,v.gl,λz=>nomatch z⟩
theorem eZ{t:Af}(v:VX Z CL k W T X)(hfn:scope.names.lookup x=Aa .cell->X.fn x=Ab)(h:tgO T scope t x=Ab):PG X (.Name x pos) (FQ t):=by
 unfold tgO at h;simp only[Al,B8,AH]at h;rcases h with ⟨h1,h2|h2⟩
 .exact LD (by rw[v.N];exact v.nd) (by rw[v.N];exact h1) (by rw[v.sc];exact .inl h2) (.inr (by rw[v.sc];exact h2))
 .exact LD (by rw[v.N];exact v.nd) (by rw[v.N];exact h1) (by rw[v.sc];exact .inr h2.1) (.inl (hfn h2.2))
theorem NR{y:An}{r:Ac An}{zs:Ac Ag}(h:FN (y::r)=Aa zs):∃ x p ws,y=.Name x p/\FN r=Aa ws/\zs=x::ws:=by
 cases y with
 |Name x p=>
  have h':(FN r).map (x :: ·)=Aa zs:=h;cases e:FN r with
  |none=>rw[e]at h';cases h'
  |some ws=>rw[e]at h';cases h';exact⟨x,p,ws,rfl,rfl,rfl⟩
 |_=>cases h
theorem Oe(x:Ag)(p:AD)(r:Ac An)(env:Ci):DQ (.Name x p::r) env=(Ad,assign (.Name x p) env)::DQ r env:=rfl
theorem Qx:∀(ys:Ac An)(zs:Ac Ag),FN ys=Aa zs->(DQ ys env).length=ys.length/\(DQ ys env).findIdx? (·.1)=Ae/\(DQ ys env).map (·.2)=ys.map λy=>assign y env:=by
 intro ys
 induction ys with
 |nil=>intro _ _;exact⟨rfl,rfl,rfl⟩
 |cons y r ih=>
  intro zs h;obtain⟨x,p,ws,rfl,e,rfl⟩:=NR h;obtain⟨h1,h2,h3⟩:=ih ws e;rw[Oe];refine⟨?_,?_,?_⟩
  .rw[A7,A7,h1]
  .rw[GP,h2];simp
  .rw[A4,A4,h3]
theorem dF(v:VX Z CL k W T X):∀(ys:Ac An)(ts:Ac Af)(zs:Ac Ag),FN ys=Aa zs->tgB T ts zs=Ab->PGs X ys (ts.foldr (λt u=>IN (FQ t) u) IR)/\ts.length=ys.length:=by
 intro ys
 induction ys with
 |nil=>
  intro ts zs e h;cases e;cases ts with
  |nil=>exact⟨SQ,rfl⟩
  |cons t ts=>cases h
 |cons y r ih=>
  intro ts zs e h;obtain⟨x,p,ws,rfl,e2,rfl⟩:=NR e;cases ts with
  |nil=>cases h
  |cons t ts=>
   have h':(T.N[t]? == Aa x&&T.sc.names.lookup x==Aa .local&&tgB T ts ws)=Ab:=h;simp only[Al,AH]at h';obtain⟨h1,h2⟩:=ih ts ws e2 h'.2;exact⟨Rt (LD (by rw[v.N];exact v.nd) (by rw[v.N];exact h'.1.1) (by rw[v.sc];exact .inl h'.1.2) (.inr (by rw[v.sc];exact h'.1.2))) h1 (by rw[Oe];rfl),congrArg (· + 1) h2⟩
theorem fC(v:VX Z CL k W T X)(hn:(FN ys).isSome=Ab)(h:tgB T ts (tgN ys)=Ab):PG X (.Tuple ys kk pos) (LZ X.K ts.length (ts.foldr (λt u=>IN (FQ t) u) IR)):=by
 cases e:FN ys with
 |none=>rw[e]at hn;cases hn
 |some zs=>
  have e2:tgN ys=zs:=by unfold tgN;rw[e];rfl
  rw[e2]at h;obtain⟨h1,h2⟩:=dF v ys ts zs e h;obtain⟨h3,h4,_⟩:=Qx (env:=X.env) ys zs e;exact Tv v.calm h1 (by rw[h3,h2]) h4
end
noncomputable def Es.len:Es->Af
 |.nil=>0
 |.cons _ es=>es.len+1
theorem IE(Z:Gam)(U:Rho):∀(es:Es)(ds:Ac D),evA Z U es=.ok ds->ds.length=es.len
 |.nil,ds,h=>by cases h;rfl
 |.cons e es,ds,h=>by
  obtain⟨x,h1,h2⟩:=JP (RI Z U e es ▸ h);obtain⟨xs,h3,h4⟩:=JP h2;cases h4;exact congrArg (· + 1) (IE Z U es xs h3)
theorem Lz(Z:Gam)(U:Rho):∀(es:Es)(ds:Ac D),evB Z U es=.ok ds->ds.length=es.len
 |.nil,ds,h=>by cases h;rfl
 |.cons e es,ds,h=>by
  obtain⟨x,h1,h2⟩:=JP (Oo Z U e es ▸ h);obtain⟨xs,h3,h4⟩:=JP h2;cases h4;exact congrArg (· + 1) (Lz Z U es xs h3)
theorem TR(Z:Gam)(U:Rho)(e:E)(h:shE U e=Ab):top U e (evE Z U e)=evE Z U e:=by
 cases e with
 |var i=>
  show DV U i=FR U i;have h':shV U i=Ab:=h;unfold shV at h';unfold DV FR;cases q:U[i]? with
  |none=>rfl
  |some x=>
   cases x with
   |none=>rfl
   |some y=>
    obtain⟨d,o⟩:=y;cases o with
    |true=>rw[q]at h';cases h'
    |false=>rfl
 |_=>rfl
theorem LF(Z:Gam)(U:Rho):∀(es:Es),HA U es=Ab->evB Z U es=evA Z U es
 |.nil,_=>rfl
 |.cons e es,h=>by
  simp only[ZJ,Al]at h;rw[RI,Oo,TR Z U e h.1,LF Z U es h.2]
theorem O5(Z:Gam)(c:E):Rf (λU=>evE Z U c) (λU=>top U c (evE Z U c)):=λU=>by
 by_cases h:shE U c=Ab
 .exact .inr (TR Z U c h).symm
 .cases c with
  |var i=>
   refine .inl ?_;show FR U i=.bad;have h':¬ shV U i=Ab:=h;unfold shV at h';unfold FR;cases q:U[i]? with
   |none=>rfl
   |some x=>
    cases x with
    |none=>rfl
    |some y=>
     obtain⟨d,o⟩:=y;cases o with
     |true=>rfl
     |false=>rw[q]at h';exact absurd rfl h'
  |_=>exact absurd rfl h
def Pcs(X:Cx)(CL:ClA)(W:XW)(e:An)(f:Rho->R D):Prop:=∃ tg iter elt ifs scope pos N' ts fi fc fe as g,e=.ListComp elt [⟨tg,iter,ifs,0⟩] scope pos/\BlockOk X scope N' ts/\SI X CL W tg iter fi/\GG X.K CL ts as g /\
 (∀ cl C s H fp,PG (cxC X scope cl C N' s H fp) tg g)/\(∀ cl C s H fp,STs (cxC X scope cl C N' s H fp) CL ifs fc)/\(∀ cl C s H fp,SE (cxC X scope cl C N' s H fp) CL W0 elt fe)/\(∀ x,B4 iter X.env x=pure x) /\
 ∀ U,f U=(fi U).bind λxs=>(noX (Bv (λx=>(as x U).bind fc) (λx=>(as x U).bind fe) xs)).bind λys=>.ok (.lst ys)
theorem Pcs.sc{e:An}{f:Rho->R D}(hc:X.calm=Ab)(h:Pcs X CL W e f):SC X CL W Ab e f:=by
 obtain⟨tg,iter,elt,ifs,scope,pos,N',ts,fi,fc,fe,as,g,rfl,B,hi,hGG,hg,ht,he,hs,ef⟩:=h;exact SC.congr (eI hc B hi hGG hg ht he hs) ef
structure OkE (Z:Gam) (CL:ClA) (W:XW) (X:Cx) (e:An) (c:E):Prop where
 se:SE X CL W e (λU=>evE Z U c)
 st:ST X CL W e (λU=>top U c (evE Z U c))
 nw:Dq Z c=Ab->SC X CL W Ab e (λU=>evE Z U c)
 cp:IF e=Ad->Pcs X CL W e (λU=>evE Z U c)
section
variable{Z:Gam}{CL:ClA}{W:XW}{X:Cx}{e:An}{c:E}
theorem C3(h:SE X CL W e (λU=>evE Z U c))(ht:∀ U r,top U c r=r)(hn:Dq Z c=Ad)(hc:IF e=Ab):OkE Z CL W X e c:=
 ⟨h,by simp only[ht];exact h.st,λz=>absurd z (by rw[hn];decide),λz=>absurd z (by rw[hc];decide)⟩
theorem O8(h:SC X CL W Ab e (λU=>evE Z U c))(ht:∀ U r,top U c r=r)(hc:IF e=Ab):OkE Z CL W X e c:=
 ⟨h.se,by simp only[ht];exact h.se.st,λ_=>h,λz=>absurd z (by rw[hc];decide)⟩
theorem rN(hc:X.calm=Ab)(h:Pcs X CL W e (λU=>evE Z U c))(ht:∀ U r,top U c r=r):OkE Z CL W X e c:=
 ⟨(h.sc hc).se,by simp only[ht];exact(h.sc hc).se.st,λ_=>h.sc hc,λ_=>h⟩
end
theorem tD{k:Ki}(h:PJ k=Aa x):∃ T,tyK k=Aa T/\CY x=Aa (.type T):=by
 cases k<;>simp only[PJ]at h<;>cases h
 .exact⟨_,rfl,PyProof.Rows.boot_int⟩
 .exact⟨_,rfl,PyProof.Rows.boot_bool⟩
 .exact⟨_,rfl,Wr⟩
 .exact⟨_,rfl,Wq⟩
 .exact⟨_,rfl,Ws⟩
structure Snd (Z:Gam) (CL:ClA) (k:Af) (n:Af):Prop where
 e:∀(W:XW)(T:Tc)(X:Cx)(x:An)(c:E),VX Z CL k W T X->Bb n T x c=Ab->OkE Z CL W X x c
 b:∀(W:XW)(T:Tc)(X:Cx)(x:An)(c:E),VX Z CL k W T X->HG n T x c=Ab->SB X CL W x (λU=>(top U c (evE Z U c)).bind BY)
 bs:∀(W:XW)(T:Tc)(X:Cx)(xs:Ac An)(es:Es)(pos:AD),VX Z CL k W T X->chkBs n T xs es=Ab->xs≠[]->SW X CL W (.BoolOp .And xs pos) (λU=>(evN Z U es).bind BY)/\SW X CL W (.BoolOp .Or xs pos) (λU=>(evO Z U es).bind BY)
 es:∀(W:XW)(T:Tc)(X:Cx)(xs:Ac An)(es:Es),VX Z CL k W T X->chkEs n T xs es=Ab->SA X CL W xs (λU=>evA Z U es)/\SAT X CL W xs (λU=>evB Z U es)/\xs.length=es.len/\(∀ pos,xs≠[]->SE X CL W (.BoolOp .And xs pos) (λU=>evN Z U es)/\SE X CL W (.BoolOp .Or xs pos) (λU=>evO Z U es))/\(∀ pos,(BA pos (As xs X.env)).any (·.1)=Ad)
 o:∀(W:XW)(T:Tc)(X:Cx)(x:Ao An)(c:E),VX Z CL k W T X->chkO n T x c=Ab->SO X CL W x (λU=>(top U c (evE Z U c)).bind (slE c))
 t:∀(T:Tc)(X:Cx)(xs:Ac An)(c:E),VX Z CL k W0 T X->chkT n T xs c=Ab->STs X CL xs (λU=>(top U c (evE Z U c)).bind BY)
 i:∀(W:XW)(T:Tc)(X:Cx)(tu:Am)(tg x:An)(i:I),VX Z CL k W T X->U_8 tu tg=Ab->chkI n T tu x i=Ab->SI X CL W tg x (λU=>evI Z U i)
section
variable{Z:Gam}{CL:ClA}{W:XW}{k n:Af}{T:Tc}{X:Cx}
theorem aE:Snd Z CL k 0:=⟨λ_ _ _ _ _ _ h=>noF h,λ_ _ _ _ _ _ h=>noF h,λ_ _ _ _ _ _ _ h=>noF h,λ_ _ _ _ _ _ h=>noF h,λ_ _ _ _ _ _ h=>noF h,λ_ _ _ _ _ h=>noF h,λ_ _ _ _ _ _ _ _ _ h=>noF h⟩
theorem QJ{x:An}(h:Dy x=Ab)(hx:(BA pos (As xs env)).any (·.1)=Ad):(BA pos (As (x::xs) env)).any (·.1)=Ad:=by
 rw[Da h];show (Ad||(BA pos (As xs env)).any (·.1))=Ad;rw[hx];rfl
theorem jY(S:Snd Z CL k n)(W:XW)(T:Tc)(X:Cx)(xs:Ac An)(es:Es)(v:VX Z CL k W T X)(h:chkEs (n+1) T xs es=Ab):SA X CL W xs (λU=>evA Z U es)/\SAT X CL W xs (λU=>evB Z U es)/\xs.length=es.len/\(∀ pos,xs≠[]->SE X CL W (.BoolOp .And xs pos) (λU=>evN Z U es)/\SE X CL W (.BoolOp .Or xs pos) (λU=>evO Z U es))/\(∀ pos,(BA pos (As xs X.env)).any (·.1)=Ad):=by
 cases xs with
 |nil=>
  cases es with
  |nil=>exact⟨Tr,cW,rfl,λ_ z=>absurd rfl z,λ_=>rfl⟩
  |cons=>exact noF h
 |cons x xs=>
  cases es with
  |nil=>exact noF h
  |cons e es=>
   replace h:(Dy x&&Bb n T x e&&chkEs n T xs es)=Ab:=h;simp only[Al]at h;obtain⟨⟨h0,h1⟩,h2⟩:=h;have he:=S.e W T X x e v h1;obtain⟨a1,a2,a3,a4,a5⟩:=S.es W T X xs es v h2;refine⟨SM he.se a1 (Da h0),ZT he.st a2 (Da h0),congrArg (· + 1) a3,λpos _=>?_,λpos=>QJ h0 (a5 pos)⟩
   cases xs with
   |nil=>
    cases es with
    |nil=>exact⟨Pa he.se,Pa he.se⟩
    |cons=>cases a3
   |cons y ys=>
    cases es with
    |nil=>cases a3
    |cons e' es'=>
     obtain⟨b1,b2⟩:=a4 pos (by simp)
     exact⟨To he.se b1,qK he.se b2⟩
theorem pF(S:Snd Z CL k n)(W:XW)(T:Tc)(X:Cx)(x:Ao An)(c:E)(v:VX Z CL k W T X)(h:chkO (n+1) T x c=Ab):SO X CL W x (λU=>(top U c (evE Z U c)).bind (slE c)):=by
 cases x with
 |none=>
  obtain rfl:=bJ h;exact dW
 |some x=>
  replace h:(!(M5 c)&&Bb n T x c)=Ab:=h;rw[Al]at h;have q:=dU (S.e W T X x c v h.2).st;have e:slE c=λd=>(Fv d).bind λi=>.ok (Aa i):=by
   funext d
   cases c<;>first|rfl|exact absurd (show Ad=Ab from h.1) Ay
  rw[e];exact q
theorem pC(S:Snd Z CL k n)(T:Tc)(X:Cx)(xs:Ac An)(c:E)(v:VX Z CL k W0 T X)(h:chkT (n+1) T xs c=Ab):STs X CL xs (λU=>(top U c (evE Z U c)).bind BY):=by
 cases xs with
 |nil=>
  replace h:=fP h;obtain⟨b,rfl,h⟩:=h;subst h;exact Sf
 |cons x xs=>
  replace h:(xs.isEmpty&&HG n T x c)=Ab:=h;rw[Al]at h;obtain rfl:=FM h.1;exact dJ (S.b W0 T X x c v h.2)
theorem pG(S:Snd Z CL k n)(W:XW)(T:Tc)(X:Cx)(tu:Am)(tg x:An)(i:I)(v:VX Z CL k W T X)(ht':U_8 tu tg=Ab)(h:chkI (n+1) T tu x i=Ab):SI X CL W tg x (λU=>evI Z U i):=by
 have ht:tu=Ab->rJ tg=Ab:=λz=>by
  subst z;cases tg<;>first|rfl|cases ht'
 cases i with
 |e a=>
  exact tY (S.e W T X x a v h).se
 |rng a=>
  replace h:=IA h;obtain⟨g,pp,l,qq,rfl,h⟩:=h;replace h:=Fc h;obtain⟨y,rfl,h⟩:=h;simp only[Al,AH]at h;obtain⟨⟨⟨rfl,h1⟩,h2⟩,h3⟩:=h;obtain⟨g1,g2,_,_⟩:=G0 v h1;exact jI (S.e W T X _ a v h3).st g1 g2 (Da h2)
 |rng2 a b=>
  replace h:=IA h;obtain⟨g,pp,l,qq,rfl,h⟩:=h;replace h:=Iz h;obtain⟨y,z,rfl,h⟩:=h;simp only[Al,AH]at h;obtain⟨⟨⟨⟨⟨rfl,h1⟩,h2⟩,h3⟩,h4⟩,h5⟩:=h;obtain⟨g1,g2,_,_⟩:=G0 v h1;exact dY (S.e W T X _ a v h4).st (S.e W T X _ b v h5).st g1 g2 (by rw[Da h2,Da h3];rfl) (by rw[Da h3];rfl)
 |zip a b=>exact absurd (show Ad=Ab from h) Ay
 |zip3 a b c=>exact absurd (show Ad=Ab from h) Ay
 |enm a=>
  replace h:=IA h;obtain⟨g,pp,l,qq,rfl,h⟩:=h;replace h:=Fc h;obtain⟨y,rfl,h⟩:=h;simp only[Al,AH]at h;obtain⟨⟨⟨⟨h0,rfl⟩,h1⟩,h2⟩,h3⟩:=h;obtain⟨g1,g2,_,_⟩:=G0 v h1;have hg:=ht h0;cases tg with
  |Tuple es m tpos=>exact dZ (S.e W T X _ a v h3).se g1 g2 (Da h2)
  |_=>cases hg
theorem Ks{c:Prop}[Gb c]{b:Am}:(if c then R.ok (D.bl b) else .bad)=.bad\/∃ b',(if c then R.ok (D.bl b) else .bad)=.ok (.bl b'):=by
 by_cases h:c
 .rw[At h];exact .inr ⟨_,rfl⟩
 .rw[AC h];exact .inl rfl
theorem RK(op:C5)(d d':D):Bp op d d'=.bad\/∃ b,Bp op d d'=.ok (.bl b):=by
 cases op with
 |Eq=>exact Ks
 |NotEq=>exact Ks
 |In=>
  cases d' with
  |lst ys=>exact Ks
  |tup ys=>exact Ks
  |dic kvs=>
   show (match JD d with|some k=>R.ok (D.bl (kvs.any λp=>p.1==k))|none=>.bad)=.bad\/∃ b,(match JD d with|some k=>R.ok (D.bl (kvs.any λp=>p.1==k))|none=>.bad)=.ok (.bl b)
   cases JD d with
   |some k=>exact .inr ⟨_,rfl⟩
   |none=>exact .inl rfl
  |_=>exact .inl rfl
 |NotIn=>
  cases d' with
  |lst ys=>exact Ks
  |tup ys=>exact Ks
  |_=>exact .inl rfl
 |Is=>
  cases d' with
  |non=>cases d<;>first|exact .inr ⟨_,rfl⟩|exact .inl rfl
  |_=>cases d<;>first|exact .inl rfl|exact .inr ⟨_,rfl⟩
 |IsNot=>
  cases d' with
  |non=>cases d<;>first|exact .inr ⟨_,rfl⟩|exact .inl rfl
  |_=>cases d<;>first|exact .inl rfl|exact .inr ⟨_,rfl⟩
 |_=>
  cases d with
  |int i=>cases d'<;>first|exact .inr ⟨_,rfl⟩|exact .inl rfl
  |_=>exact .inl rfl
theorem S5(op:C5)(d d':D):(Bp op d d').bind BY=.bad\/(Bp op d d').bind BY=(Bp op d d').bind DA:=by
 rcases RK op d d' with h|⟨b,h⟩
 .rw[h];exact .inl rfl
 .rw[h];exact .inr rfl
theorem oY(e e':E)(es:Es):Rf (λU=>(evN Z U (.cons e (.cons e' es))).bind BY) (λU=>((top U e (evE Z U e)).bind BY).bind λc=>if c=Ab then (evN Z U (.cons e' es)).bind BY else .ok Ad):=λU=>by
 have e0:evN Z U (.cons e (.cons e' es))=(evE Z U e).bind λx=>(DA x).bind λc=>if c=Ab then evN Z U (.cons e' es) else .ok (.bl Ad):=rfl
 dsimp only;rw[e0];rcases O5 Z e U with z|z<;>dsimp only at z
 .rw[z];exact .inl rfl
 .rw[<-z];cases evE Z U e with
  |bad=>exact .inl rfl
  |exn x=>exact .inr rfl
  |ok d=>
   cases d with
   |bl b=>cases b<;>exact .inr rfl
   |_=>exact .inl rfl
theorem oX(e e':E)(es:Es):Rf (λU=>(evO Z U (.cons e (.cons e' es))).bind BY) (λU=>((top U e (evE Z U e)).bind BY).bind λc=>if c=Ab then .ok Ab else (evO Z U (.cons e' es)).bind BY):=λU=>by
 have e0:evO Z U (.cons e (.cons e' es))=(evE Z U e).bind λx=>(DA x).bind λc=>if c=Ab then .ok (.bl Ab) else evO Z U (.cons e' es):=rfl
 dsimp only;rw[e0];rcases O5 Z e U with z|z<;>dsimp only at z
 .rw[z];exact .inl rfl
 .rw[<-z];cases evE Z U e with
  |bad=>exact .inl rfl
  |exn x=>exact .inr rfl
  |ok d=>
   cases d with
   |bl b=>cases b<;>exact .inr rfl
   |_=>exact .inl rfl
theorem Rf.tru(e:E):Rf (λU=>(evE Z U e).bind BY) (λU=>(top U e (evE Z U e)).bind BY):=λU=>by
 rcases O5 Z e U with z|z<;>dsimp only at z ⊢
 .rw[z];exact .inl rfl
 .rw[<-z];exact .inr rfl
theorem jZ(S:Snd Z CL k n)(W:XW)(T:Tc)(X:Cx)(xs:Ac An)(es:Es)(pos:AD)(v:VX Z CL k W T X)(h:chkBs (n+1) T xs es=Ab)(hne:xs≠[]):SW X CL W (.BoolOp .And xs pos) (λU=>(evN Z U es).bind BY)/\SW X CL W (.BoolOp .Or xs pos) (λU=>(evO Z U es).bind BY):=by
 cases xs with
 |nil=>exact absurd rfl hne
 |cons x xs=>
  cases es with
  |nil=>exact noF h
  |cons e es=>
   replace h:(HG n T x e&&chkBs n T xs es)=Ab:=h;simp only[Al]at h;obtain⟨h1,h2⟩:=h;have he:=S.b W T X x e v h1;cases xs with
   |nil=>
    cases es with
    |nil=>exact⟨SW.ref (dI he) (Rf.tru e),SW.ref (jT he) (Rf.tru e)⟩
    |cons=>
     cases n with
     |zero=>exact absurd (show Ad=Ab from h2) Ay
     |succ n=>exact absurd (show Ad=Ab from h2) Ay
   |cons y ys=>
    cases es with
    |nil=>
     cases n with
     |zero=>exact absurd (show Ad=Ab from h2) Ay
     |succ n=>exact absurd (show Ad=Ab from h2) Ay
    |cons e' es'=>
     obtain⟨b1,b2⟩:=S.bs W T X (y::ys) (.cons e' es') pos v h2 (by simp)
     exact⟨SW.ref (jU he b1) (oY e e' es'),SW.ref (pV he b2) (oX e e' es')⟩
theorem eY(S:Snd Z CL k n){x:An}{ops:Ac C5}{b:BI}(v:VX Z CL k W T X)(h:P9 T (Bb n) x ops ys b as=Ab):SB X CL W (.Compare x ops ys pos) (λU=>(top U (.bi b as) (evE Z U (.bi b as))).bind BY):=by
 exact absurd (show Ad=Ab from h) Ay
theorem pJ(S:Snd Z CL k n)(W:XW)(T:Tc)(X:Cx)(x:An)(c:E)(v:VX Z CL k W T X)(h:HG (n+1) T x c=Ab):SB X CL W x (λU=>(top U c (evE Z U c)).bind BY):=by
 have plain:∀ e,Mv e=Ab->Bb n T e c=Ab->SB X CL W e (λU=>(top U c (evE Z U c)).bind BY):=λe h1 h2=>mD (S.e W T X e c v h2).st (dG h1)
 replace h:((Ka x λo x=>decide (o=.Not)&&(Nt c λa=>HG n T x a))||(JA x λo xs _=>(decide (o=.And)&&(M3 c λes=>chkBs n T xs es && !xs.isEmpty))||(decide (o=.Or)&&(Nr c λes=>chkBs n T xs es && !xs.isEmpty)))||(KN x λx os ys=>(Nc c λop a b=>D9 os λop'=>D9 ys λy=>decide (op'=op) && !behindInMarks op y&&Bb n T x a&&Bb n T y b)||(Nd c λop1 op2 a b c=>G2 os λo1 o2=>G2 ys λy z=>decide (o1=op1)&&decide (o2=op2) && !lastMarks [op1,op2] [y,z]&&Bb n T x a&&Bb n T y b&&Bb n T z c)||(Nf c λb as=>P9 T (Bb n) x os ys b as))||Mv x&&Bb n T x c)=Ab:=h
 replace h:=(orT h).imp_left λz=>(orT z).imp_left orT
 rcases h with ((h|h)|h)|h
 .replace h:=MF h;obtain⟨o,y,p,rfl,h⟩:=h;replace h:=Bt h;obtain⟨h0,h⟩:=h;obtain rfl:=AO h0;replace h:=fN h;obtain⟨a,rfl,h⟩:=h
  .skip
   refine SB.ref (mE (S.b W T X _ a v h)) λU=>?_
   show ((top U a (evE Z U a)).bind λx=>(DA x).bind λb=>.ok (.bl (!b))).bind BY=.bad\/((top U a (evE Z U a)).bind λx=>(DA x).bind λb=>.ok (.bl (!b))).bind BY=_
   cases top U a (evE Z U a) with
   |bad=>exact .inl rfl
   |exn x=>exact .inr rfl
   |ok d=>cases d<;>first|exact .inr rfl|exact .inl rfl
 .replace h:=Lp h;obtain⟨o,ys,p,rfl,h⟩:=h;replace h:=orT h;rcases h with h|h
  .replace h:=Bt h;obtain⟨h0,h⟩:=h;obtain rfl:=AO h0;replace h:=aY h;obtain⟨es,rfl,h⟩:=h;simp only[Al,Bs,DM]at h;exact(S.bs W T X _ _ _ v h.1 h.2).1.sb
  .replace h:=Bt h;obtain⟨h0,h⟩:=h;obtain rfl:=AO h0;replace h:=fM h;obtain⟨es,rfl,h⟩:=h;simp only[Al,Bs,DM]at h;exact(S.bs W T X _ _ _ v h.1 h.2).2.sb
 .replace h:=Oz h;obtain⟨w,os,ys,p,rfl,h⟩:=h;replace h:=(orT h).imp_left orT;rcases h with (h|h)|h
  .replace h:=cL h;obtain⟨op,a,b,rfl,h⟩:=h;replace h:=Fc h;obtain⟨op',rfl,h⟩:=h;replace h:=Fc h;obtain⟨y,rfl,h⟩:=h
   .simp only[Al,Bs,AE]at h;obtain⟨⟨⟨rfl,h1⟩,h2⟩,h3⟩:=h;refine SB.ref (mF (Kw v.room.units _) (S.e W T X _ a v h2).st (S.e W T X _ b v h3).st h1) λU=>?_
    show ((top U a (evE Z U a)).bind λx=>(top U b (evE Z U b)).bind λy=>Bp op' x y).bind BY=.bad\/((top U a (evE Z U a)).bind λx=>(top U b (evE Z U b)).bind λy=>Bp op' x y).bind BY=_
    cases top U a (evE Z U a) with
    |bad=>exact .inl rfl
    |exn x=>exact .inr rfl
    |ok d=>
     cases top U b (evE Z U b) with
     |bad=>exact .inl rfl
     |exn x=>exact .inr rfl
     |ok d'=>
      dsimp only[R.bind];exact S5 _ d d'
  .replace h:=cM h;obtain⟨op1,op2,a,b,c,rfl,h⟩:=h;replace h:=Iz h;obtain⟨o1,o2,rfl,h⟩:=h;replace h:=Iz h;obtain⟨y,z,rfl,h⟩:=h
   .simp only[Al,Bs,AE]at h;obtain⟨⟨⟨⟨⟨rfl,rfl⟩,h1⟩,h2⟩,h3⟩,h4⟩:=h;refine SB.ref (ZS v.room.units (S.e W T X _ a v h2).st (S.e W T X _ b v h3).st (S.e W T X _ c v h4).st h1) λU=>?_
    show ((top U a (evE Z U a)).bind λx=>(top U b (evE Z U b)).bind λy=>(Bp o1 x y).bind λz=>(DA z).bind λk=>if k=Ab then (top U c (evE Z U c)).bind λu=>Bp o2 y u else .ok (.bl Ad)).bind BY=.bad\/((top U a (evE Z U a)).bind λx=>(top U b (evE Z U b)).bind λy=>(Bp o1 x y).bind λz=>(DA z).bind λk=>if k=Ab then (top U c (evE Z U c)).bind λu=>Bp o2 y u else .ok (.bl Ad)).bind BY=_
    cases top U a (evE Z U a) with
    |bad=>exact .inl rfl
    |exn x=>exact .inr rfl
    |ok d=>
     cases top U b (evE Z U b) with
     |bad=>exact .inl rfl
     |exn x=>exact .inr rfl
     |ok d'=>
      dsimp only[R.bind];cases Bp o1 d d' with
      |bad=>exact .inl rfl
      |exn x=>exact .inr rfl
      |ok d3=>
       cases d3 with
       |bl k=>
        cases k with
        |false=>exact .inr rfl
        |true=>
         dsimp only[R.bind,DA];rw[At rfl,At rfl];cases top U c (evE Z U c) with
         |bad=>exact .inl rfl
         |exn x=>exact .inr rfl
         |ok d4=>exact S5 _ d' d4
       |_=>exact .inl rfl
  .replace h:=cO h;obtain⟨b,as,rfl,h⟩:=h;exact eY S v h
 .exact plain _ (Bt h).1 (Bt h).2
end
section
variable{Z:Gam}{CL:ClA}{W:XW}{k n:Af}{T:Tc}{X:Cx}
theorem tE{b:BI}{x:An}(v:VX Z CL k W T X)(hb:PK b=Aa g)(hg:isB T g=Ab)(hs:SAT X CL W (x::xs) (λU=>evB Z U as))(h0:Dy x=Ab)(hpl:∀ pos,(BA pos (As xs X.env)).any (·.1)=Ad):OkE Z CL W X (.Call (.Name g p) (x::xs) [] pos) (.bi b as):=by
 obtain⟨g1,g2,g3,g4⟩:=G0 v hg;cases b<;>simp only[PK]at hb<;>cases hb
 .exact C3 (MX oU g1 g2 PySem.boot_len hs g3 g4 (Da h0) hpl) (λ_ _=>rfl) rfl rfl
 .exact C3 (MX (oS v.calm) g1 g2 PyProof.Rows.boot_min hs g3 g4 (Da h0) hpl) (λ_ _=>rfl) rfl rfl
 .exact O8 (kF jE g1 g2 Wq hs g3 g4 (Da h0) hpl) (λ_ _=>rfl) rfl
 .exact C3 (Tn cT g1 g2 Ws hs g3 g4 (Da h0) hpl) (λ_ _=>rfl) rfl rfl
 .exact C3 (MX (oW v.calm) g1 g2 PyProof.Rows.boot_all hs g3 g4 (Da h0) hpl) (λ_ _=>rfl) rfl rfl
 .exact C3 (MX (oV v.calm) g1 g2 PyProof.Rows.boot_any hs g3 g4 (Da h0) hpl) (λ_ _=>rfl) rfl rfl
 .exact C3 (Tn oR g1 g2 Wr hs g3 g4 (Da h0) hpl) (λ_ _=>rfl) rfl rfl
theorem Zk{β:Type}[BEq α][LawfulBEq α]{a:α}{b:β}:∀{l:Ac (α×β)},l.lookup a=Aa b->(a,b)∈l:=by
 intro l
 induction l with
 |nil=>intro h;cases h
 |cons p r ih=>
  intro h;obtain⟨x,y⟩:=p;by_cases z:(a==x)=Ab
  .simp only[BZ,z]at h;cases h;rw[eq_of_beq z];exact AF
  .have z':(a==x)=Ad:=by simpa using z
   simp only[BZ,z']at h;exact Aw _ (ih h)
theorem JW{l:Ac (Ag×Af)}(h:inX l g c=Ab):(g,c)∈l:=by
 unfold inX at h;simp only[D4,Al,AH]at h;obtain⟨p,hp,rfl,rfl⟩:=h;exact hp
theorem IC{x:An}{es:Es}(h:chkEs n T (x::xs) es=Ab):Dy x=Ab/\∃ e es',es=.cons e es'/\∃ m,n=m+1/\chkEs m T xs es'=Ab:=by
 cases n with
 |zero=>exact noF h
 |succ m=>
  cases es with
  |nil=>exact noF h
  |cons e es=>
   replace h:(Dy x&&Bb m T x e&&chkEs m T xs es)=Ab:=h;simp only[Al]at h;exact⟨h.1.1,e,es,rfl,m,rfl,h.2⟩
theorem aL:∀(m:Af)(xs:Ac An)(es:Es),chkEs m T xs es=Ab->xs.length=es.len:=by
 intro m
 induction m with
 |zero=>intro xs es h;exact noF h
 |succ m ih=>
  intro xs es h;cases xs with
  |nil=>
   cases es with
   |nil=>rfl
   |cons e es=>exact noF h
  |cons x xs=>
   cases es with
   |nil=>exact noF h
   |cons e es=>
    have h':(Dy x&&Bb m T x e&&chkEs m T xs es)=Ab:=h;exact congrArg (· + 1) (ih xs es (Bt h').2)
theorem Jp:∀(m:Af)(xs:Ac An)(es:Es),chkEs m T xs es=Ab->∀ pos,(BA pos (As xs X.env)).any (·.1)=Ad:=by
 intro m
 induction m with
 |zero=>intro xs es h;exact noF h
 |succ m ih=>
  intro xs es h pos;cases xs with
  |nil=>rfl
  |cons x xs=>
   obtain⟨h0,e,es',rfl,m',e1,h1⟩:=IC h;cases e1;exact QJ h0 (ih xs es' h1 pos)
theorem fD(S:Snd Z CL k n){x:An}{b:BI}(v:VX Z CL k W T X)(h:(match Ny as with|some (s,a)=>IL x λf l ks cp=>ks.isEmpty&&(Hx f λo m ap=>m==("join" : Ag)&&ap.endLine==cp.line&&(G3 o λc=>decide (c=.str s)&&decide (b=.sjoin)&&(D9 l λy=>Dy y&&Bb n T y a)))|none=>Ad)=Ab):OkE Z CL W X x (.bi b as):=by
 cases q1:Ny as with
 |none=>rw[q1]at h;cases h
 |some t=>
  obtain⟨s,a⟩:=t;rw[q1]at h;obtain⟨e,te⟩:=iN q1;subst e;replace h:=Lw h;obtain⟨f,l,ks,cp,rfl,h⟩:=h;replace h:=Bt h;obtain⟨h0,h⟩:=h;obtain rfl:=FM h0;replace h:=JT h;obtain⟨o,m,ap,rfl,h⟩:=h;replace h:=Bt h;obtain⟨h1,h⟩:=h;replace h1:=Bt h1;obtain⟨h1,h2⟩:=h1;obtain rfl:=eq_of_beq h1;replace h:=Js h;obtain⟨c,u,p,rfl,h⟩:=h;replace h:=Bt h;obtain⟨h3,h⟩:=h;replace h3:=Bt h3;obtain⟨h3,h4⟩:=h3;obtain rfl:=AO h3;obtain rfl:=AO h4;replace h:=Fc h;obtain⟨y,rfl,h⟩:=h;replace h:=Bt h;obtain⟨h5,h6⟩:=h;refine C3 (SE.congr (eG (S.e W T X _ a v h6).se rfl (by rw[Da h5];rfl) h2 (by rw[Da h5];rfl)) λU=>?_) (λ_ _=>rfl) rfl rfl
  simp only[MP,evB,R.bind_assoc,R.bind_ok,Sc,S0,te]
theorem bM{x:An}{b:BI}(v:VX Z CL k W T X)(h:Qt T x b as=Ab):OkE Z CL W X x (.bi b as):=by
 have bd:∀ x d:D,(match x with | .lst xs=>LL xs d|_=>.bad)=biD .index [x,d]:=λx d=>by cases x<;>rfl
 unfold Qt at h;split at h
 .simp only[Al,AH,AE]at h;obtain⟨⟨⟨rfl,rfl⟩,h2⟩,h3⟩:=h;split at h3
  .simp only[Al]at h3;refine C3 (SE.congr (RT v.room.units (II (Jv v h3.1)) (II (Jv v h3.2)) (λU e z=>Lu z) rfl rfl (by rw[h2];exact Du _) rfl) λU=>?_) (λ_ _=>rfl) rfl rfl
   simp only[MP,evB,R.bind_assoc,R.bind_ok,Sb]
   congr 1;funext x;congr 1;funext d
   exact(bd x d).symm
  .cases h3
 .simp only[Al,AH,AE]at h;obtain⟨⟨⟨rfl,rfl⟩,h2⟩,h3⟩:=h;split at h3
  .refine C3 (SE.congr (RT v.room.units (II (Jv v h3)) T5.st (λU e z=>nomatch z) rfl rfl (by rw[h2];exact Du _) rfl) λU=>?_) (λ_ _=>rfl) rfl rfl
   simp only[MP,evB,R.bind_assoc,R.bind_ok,Sb]
   congr 1;funext x
   exact(bd x .non).symm
  .cases h3
 .cases h
theorem aD(S:Snd Z CL k n){x:An}{b:BI}(v:VX Z CL k W T X)(h:(match Nx as with|some (a,s)=>IL x λf l ks cp=>ks.isEmpty&&(Hx f λo m ap=>m==("split" : Ag)&&ap.endLine==cp.line&&KP o&&Bb n T o a&&(D9 l λy=>G3 y λc=>decide (c=.str s)&&decide (b=.ssplit)))|none=>Ad)=Ab):OkE Z CL W X x (.bi b as):=by
 cases q1:Nx as with
 |none=>rw[q1]at h;cases h
 |some t=>
  obtain⟨a,s⟩:=t;rw[q1]at h;have e:=iM q1;subst e;replace h:=Lw h;obtain⟨f,l,ks,cp,rfl,h⟩:=h;replace h:=Bt h;obtain⟨h0,h⟩:=h;obtain rfl:=FM h0;replace h:=JT h;obtain⟨o,m,ap,rfl,h⟩:=h;replace h:=Bt h;obtain⟨h1,h⟩:=h;replace h1:=Bt h1;obtain⟨h1,h6⟩:=h1;replace h1:=Bt h1;obtain⟨h1,h3⟩:=h1;replace h1:=Bt h1;obtain⟨h1,h2⟩:=h1;obtain rfl:=eq_of_beq h1;replace h:=Fc h;obtain⟨y,rfl,h⟩:=h;replace h:=Js h;obtain⟨c,u,p,rfl,h⟩:=h;replace h:=Bt h;obtain⟨h4,h5⟩:=h;obtain rfl:=AO h4;obtain rfl:=AO h5;refine C3 (SE.congr (aG (S.e W T X _ a v h6).st (MT h3) h2).se λU=>?_) (λ_ _=>rfl) rfl rfl
  simp only[MP,evB,R.bind_assoc,R.bind_ok,Sc,S0]
theorem mH(S:Snd Z CL k n){x:An}{b:BI}(v:VX Z CL k W T X)(h:(match Qs as with|some a=>(match Ve x with|some y=>decide (b=.rvs)&&Bb n T y a|none=>Ad)|none=>Ad)=Ab):OkE Z CL W X x (.bi b as):=by
 simp[Qs]at h
theorem jP(S:Snd Z CL k n){x:An}{b:BI}(v:VX Z CL k W T X)(h:(match PN as with|some (a,c)=>(match Vw x with|some (y,z,_)=>decide (b=.tlt) && !behindInMarks .Lt z&&Bb n T y a&&Bb n T z c|none=>Ad)|none=>Ad)=Ab):OkE Z CL W X x (.bi b as):=by
 simp[PN]at h
theorem mT{x:An}{b:BI}(v:VX Z CL k W T X)(h:Vt T x b as=Ab):OkE Z CL W X x (.bi b as):=by
 exact absurd h Ay
theorem jW(S:Snd Z CL k n){x:An}{b:BI}(v:VX Z CL k W T X)(h:(match PQ as with|some (a,k)=>(match Va x with|some (y,j)=>decide (b=.stp)&&decide (j=k)&&decide (0<=k)&&Bb n T y a|none=>Ad)|none=>Ad)=Ab):OkE Z CL W X x (.bi b as):=by
 simp[PQ]at h
theorem lD(S:Snd Z CL k n){x:An}{b:BI}(v:VX Z CL k W T X)(h:(match PV as with|some (a,c)=>(match VC x with|some (g,h,y,z)=>decide (b=.list)&&g==("list" : Ag)&&h==("range" : Ag)&&isB T g&&isB T h&&Dy y&&Dy z&&Bb n T y a&&Bb n T z c|none=>Ad)|none=>Ad)=Ab):OkE Z CL W X x (.bi b as):=by
 simp[PV]at h
theorem fW(S:Snd Z CL k n){x:An}{b:BI}(v:VX Z CL k W T X)(h:(match PR as with|some a=>(match VB x with|some (g,h,y)=>decide (b=.lset)&&g==("len" : Ag)&&h==("set" : Ag)&&isB T g&&isB T h&&Dy y&&Bb n T y a|none=>Ad)|none=>Ad)=Ab):OkE Z CL W X x (.bi b as):=by
 simp[PR]at h
theorem pH(S:Snd Z CL k n)(W:XW)(T:Tc)(X:Cx)(x:An)(c:E)(v:VX Z CL k W T X)(h:Bb (n+1) T x c=Ab):OkE Z CL W X x c:=by
 cases c with
 |non=>
  replace h:=Js h;obtain⟨c,u,p,rfl,h⟩:=h;obtain rfl:=AO h;exact C3 T5 (λ_ _=>rfl) rfl rfl
 |bl b=>
  replace h:=Js h;obtain⟨c,u,p,rfl,h⟩:=h;obtain rfl:=AO h;exact C3 Us (λ_ _=>rfl) rfl rfl
 |int i=>
  replace h:=Js h;obtain⟨c,u,p,rfl,h⟩:=h;obtain rfl:=AO h;exact C3 lZ (λ_ _=>rfl) rfl rfl
 |str i=>
  replace h:=Js h;obtain⟨c,u,p,rfl,h⟩:=h;obtain rfl:=AO h;exact C3 MW (λ_ _=>rfl) rfl rfl
 |var i=>
  replace h:=Fu h;obtain⟨y,p,rfl,h⟩:=h;exact⟨jJ (Jv v h),II (Jv v h),λz=>(nomatch z),λz=>(nomatch z)⟩
 |glob g=>exact absurd (show Ad=Ab from h) Ay
 |bin op a b=>
  replace h:=RA h;obtain⟨y,op',z,p,rfl,h⟩:=h;simp only[Al,AE]at h;obtain⟨⟨rfl,h1⟩,h2⟩:=h;have ha:=(S.e W T X _ a v h1).st;have hb:=(S.e W T X _ b v h2).st;refine⟨Pb (ON _) ha hb,(Pb (ON _) ha hb).st,λz=>?_,λz=>nomatch z⟩
  cases op'<;>first|exact kG ha hb|cases z
 |un op a=>
  replace h:=MF h;obtain⟨o,y,p,rfl,h⟩:=h;replace h:=Bt h;obtain⟨h0,h⟩:=h;obtain rfl:=AO h0;simp only[Al,AE]at h;obtain⟨rfl,h1⟩:=h;exact C3 (jL (S.e W T X _ a v h1).st) (λ_ _=>rfl) rfl rfl
 |no a=>
  replace h:=MF h;obtain⟨o,y,p,rfl,h⟩:=h;replace h:=Bt h;obtain⟨h0,h⟩:=h;obtain rfl:=AO h0;exact C3 (T4 (S.e W T X _ a v h).st) (λ_ _=>rfl) rfl rfl
 |and es=>
  replace h:=Lp h;obtain⟨o,ys,p,rfl,h⟩:=h;replace h:=Bt h;obtain⟨h0,h⟩:=h;obtain rfl:=AO h0;simp only[Al,Bs,DM]at h;exact C3 ((S.es W T X _ es v h.1).2.2.2.1 _ h.2).1 (λ_ _=>rfl) rfl rfl
 |or es=>
  replace h:=Lp h;obtain⟨o,ys,p,rfl,h⟩:=h;replace h:=Bt h;obtain⟨h0,h⟩:=h;obtain rfl:=AO h0;simp only[Al,Bs,DM]at h;exact C3 ((S.es W T X _ es v h.1).2.2.2.1 _ h.2).2 (λ_ _=>rfl) rfl rfl
 |cmp op a b=>
  replace h:=Oz h;obtain⟨y,os,ys,p,rfl,h⟩:=h;replace h:=Fc h;obtain⟨op',rfl,h⟩:=h;replace h:=Fc h;obtain⟨z,rfl,h⟩:=h;simp only[Al,Bs,AE]at h;obtain⟨⟨⟨rfl,h1⟩,h2⟩,h3⟩:=h;exact C3 (mC (Kw v.room.units _) (S.e W T X _ a v h2).st (S.e W T X _ b v h3).st h1) (λ_ _=>rfl) rfl rfl
 |cmp2 op1 op2 a b c=>
  replace h:=Oz h;obtain⟨y,os,ys,p,rfl,h⟩:=h;replace h:=Iz h;obtain⟨o1,o2,rfl,h⟩:=h;replace h:=Iz h;obtain⟨z,w,rfl,h⟩:=h;simp only[Al,Bs,AE]at h;obtain⟨⟨⟨⟨⟨rfl,rfl⟩,h1⟩,h2⟩,h3⟩,h4⟩:=h;exact C3 (ZQ v.room.units (S.e W T X _ a v h2).st (S.e W T X _ b v h3).st (S.e W T X _ c v h4).st h1) (λ_ _=>rfl) rfl rfl
 |ite c a b=>exact absurd (show Ad=Ab from h) Ay
 |call f as=>
  replace h:=JS h;obtain⟨g,pp,y,ys,qq,rfl,h⟩:=h;simp only[Al,D4,AH,AE]at h;obtain⟨⟨⟨⟨⟨p,hp,⟨rfl,rfl⟩,hl⟩,h900⟩,h1⟩,h2⟩,h3⟩:=h;obtain⟨fa,fd,ps,m1,m2,m3,m4,m5,_⟩:=v.fn p hp;have hlt:p.2.2<1000:=by omega
  rw[F1 hlt]at m4 m5;have m5:=m5 hlt;obtain⟨n2,n3,n4⟩:=F4 h2;replace m1:=Mz m1 (MG h2);obtain⟨a1,a2,a3,a4,a5⟩:=S.es W T X _ as v h3;obtain⟨s0,e,es',rfl,m,rfl,s1⟩:=IC h3;have q:SC X CL W (Z.fr p.2.1) (.Call (.Name p.1 pp) (y::ys) [] qq) (λU=>evE Z U (.call p.2.1 (.cons e es'))):=eJ (sh:=λU=>HA U (.cons e es')) m5 v.room (by unfold glB at h1;show X.env.scope.names.lookup p.1=_;rw[v.sc];exact eq_of_beq h1) m1 m2 m3 v.px a1 a2 (λU z=>LF Z U _ z) (λU ds z=>by rw[Lz Z U _ _ z,<-a3,hl];rfl) n2 (Da s0) (Jp m ys es' s1)
  exact⟨q.se,q.se.st,λz=>by
   have z':Z.fr p.2.1=Ab:=z;rw[z']at q;exact q,λz=>nomatch z⟩
 |bi b as=>
  unfold Bb at h;dsimp only at h;simp only[B8]at h;rcases h with (((((((h|h)|h)|h)|h)|h)|h)|h)|h
  .replace h:=JS h;obtain⟨g,pp,y,ys,qq,rfl,h⟩:=h;simp only[Al,AH]at h;obtain⟨⟨h1,h2⟩,h3⟩:=h;obtain⟨s0,e,es',rfl,m,rfl,s1⟩:=IC h3;exact tE v h1 h2 (S.es W T X _ _ v h3).2.1 s0 (Jp m _ es' s1)
  .rcases h with h|h
   .exact mT v h
   .exact bM v h
  .exact lD S v h
  .exact jW S v h
  .exact fW S v h
  .exact jP S v h
  .exact fD S v h
  .exact aD S v h
  .exact mH S v h
 |isi a ks=>
  replace h:=orT h;rcases h with h|h
  .skip
   replace h:=Fc h;obtain⟨k',rfl,h⟩:=h;replace h:=IA h;obtain⟨g,pp,l,qq,rfl,h⟩:=h;replace h:=Iz h;obtain⟨y,t,rfl,h⟩:=h;replace h:=Fu h;obtain⟨t,pt,rfl,h⟩:=h;simp only[Al,AH]at h;obtain⟨⟨⟨⟨⟨rfl,h1⟩,h2⟩,h3⟩,h4⟩,h5⟩:=h;obtain⟨g1,g2,_,_⟩:=G0 v h1;obtain⟨b1,b2,b3,b4⟩:=G0 v h3;obtain⟨ty,t1,t2⟩:=tD h2;exact C3 (lY t1 g1 g2 b1 b2 t2 b3 b4 (S.e W T X _ a v h5).st (Da h4)) (λ_ _=>rfl) rfl rfl
  .replace h:=Fc h;obtain⟨k',rfl,h⟩:=h;replace h:=IA h;obtain⟨g,pp,l,qq,rfl,h⟩:=h;replace h:=Iz h;obtain⟨y,t,rfl,h⟩:=h;replace h:=Fu h;obtain⟨t,pt,rfl,h⟩:=h;simp only[Al,AH]at h;obtain⟨⟨⟨⟨rfl,h1⟩,h4⟩,h5⟩,h6⟩:=h;obtain⟨g1,g2,_,_⟩:=G0 v h1;cases k' with
   |verr=>
    replace h6:=Bt (a:=t==("ValueError" : Ag)) h6;obtain⟨h6,h7⟩:=h6;obtain rfl:=eq_of_beq h6;obtain⟨b1,b2,_,_⟩:=G0 v h7;exact C3 (T6 v.xt.xc g1 g2 b1 b2 (S.e W T X _ a v h5).st (Da h4)) (λ_ _=>rfl) rfl rfl
   |cls c=>
    replace h6:=Bt (a:=inX T.exs t c&&glB T t) h6;obtain⟨h6,h8⟩:=h6;replace h6:=Bt h6;obtain⟨h6,h7⟩:=h6;obtain⟨C,m1,m3,_⟩:=v.xt.ex _ (JW h6);obtain⟨n2,_,_⟩:=F4 h8;exact C3 (Tl v.xt.xc g1 g2 (by unfold glB at h7;show X.env.scope.names.lookup _=_;rw[v.sc];exact eq_of_beq h7) m1 m3 n2 (S.e W T X _ a v h5).st (Da h4)) (λ_ _=>rfl) rfl rfl
   |_=>exact noF h6
 |idx a i=>
  replace h:=Rw h;obtain⟨y,z,p,rfl,h⟩:=h;simp only[Al]at h;obtain⟨⟨h1,h2⟩,h3⟩:=h;exact C3 (mB (aH h1) (S.e W T X _ a v h2).st (S.e W T X _ i v h3).st) (λ_ _=>rfl) rfl rfl
 |sl a lo hi=>
  replace h:=Rw h;obtain⟨y,s,p,rfl,h⟩:=h;replace h:=cE h;obtain⟨l,u,st,p',rfl,h⟩:=h;replace h:=Bt h;obtain⟨h0,h⟩:=h;obtain rfl:=DN.mp h0;simp only[Al]at h;obtain⟨⟨h1,h2⟩,h3⟩:=h;refine O8 (SC.congr (rH (S.e W T X _ a v h1).st (S.o W T X _ lo v h2) (S.o W T X _ hi v h3)) λU=>?_) (λ_ _=>rfl) rfl
  show ((top U a (evE Z U a)).bind λx=>(top U lo (evE Z U lo)).bind λl=>(slE lo l).bind λl'=>(top U hi (evE Z U hi)).bind λh=>(slE hi h).bind λh'=>slD x l' h')=_
  simp only[R.bind_assoc]
 |tup es=>
  replace h:=Ko h;obtain⟨ys,cc,p,rfl,h⟩:=h;simp only[Al,AE]at h;have q:=S.es W T X _ es v h.1;exact C3 (TZ q.1 λU ds z=>by rw[IE Z U _ _ z,<-q.2.2.1];omega) (λ_ _=>rfl) rfl rfl
 |lst es=>
  replace h:=Ow h;obtain⟨ys,p,rfl,h⟩:=h;simp only[Al,AE]at h;have q:=S.es W T X _ es v h.1;exact O8 (O2 q.1 λU ds z=>by rw[IE Z U _ _ z,<-q.2.2.1];omega) (λ_ _=>rfl) rfl
 |comp elt t it c=>
  replace h:=Sr (e:=x) (F:=_) (by unfold Bb at h;exact h)
  obtain⟨y,tg,it',ifs,scope,p,rfl,h⟩:=h;replace h:=Fu h;obtain⟨w,pw,rfl,h⟩:=h;simp only[Al]at h;obtain⟨⟨⟨⟨⟨h1,h2⟩,h3⟩,h4⟩,h5⟩,h6⟩:=h;refine rN v.calm ⟨_,_,_,_,_,_,_,_,_,_,_,_,_,rfl,(Pp v h3).1,S.i W T X Ad _ _ it v rfl h1,iW t,λcl C s H fp=>eZ (v.blk h3) (λz=>AH.mpr z) h4,λcl C s H fp=>S.t _ _ _ c (v.blk h3) h5,λcl C s H fp=>(S.e W0 _ _ _ elt (v.blk h3) h6).se,LJ h2,λU=>rfl⟩ (λ_ _=>rfl)
 |compT elt ts it c=>exact absurd (show Ad=Ab from h) Ay
 |tupI it=>exact absurd (show Ad=Ab from h) Ay
 |dnew=>exact noF h
 |fld o f=>
  replace h:=JT h;obtain⟨w,g,p,rfl,h⟩:=h;simp only[Al,AH]at h;obtain⟨⟨⟨rfl,h2⟩,h3⟩,h4⟩:=h;exact C3 (SK v.xt.xc (λc C z=>v.xt.nf c C z _ h2) (S.e W T X _ o v h4).st (MT h3)) (λ_ _=>rfl) rfl rfl
 |ofl o f=>
  replace h:=JT h;obtain⟨w,g,p,rfl,h⟩:=h;simp only[Al,AH]at h;obtain⟨⟨⟨rfl,h2⟩,h3⟩,h4⟩:=h;refine C3 (jK (λc C z=>?_) (S.e W T X _ o v h4).st (MT h3)) (λ_ _=>rfl) rfl rfl
  rw[h2];exact⟨(v.os.oc c C z).cl,(v.os.oc c C z).nt⟩
 |iso a k'=>
  replace h:=IA h;obtain⟨g,pp,l,qq,rfl,h⟩:=h;replace h:=Iz h;obtain⟨y,t,rfl,h⟩:=h;replace h:=Fu h;obtain⟨t,pt,rfl,h⟩:=h;unfold ocB at h;simp only[Al,AH,AE]at h;obtain⟨⟨⟨⟨rfl,h1⟩,h4⟩,h5⟩,⟨⟨⟨e6,h7⟩,h8⟩,h9⟩⟩:=h;obtain⟨g1,g2,_,_⟩:=G0 v h1;obtain⟨n2,_,_⟩:=F4 h9;obtain⟨C',o1,o2⟩:=v.os.at_ k' h7;exact C3 (lX v.os.oc g1 g2 (by unfold glB at h8;show X.env.scope.names.lookup _=_;rw[v.sc];exact eq_of_beq h8) (by rw[e6];exact o2) (λc C z=>v.os.kit c C k' C' z o1) n2 (S.e W T X _ a v h5).st (Da h4)) (λ_ _=>rfl) rfl rfl
 |meth m ms o=>
  replace h:=Lw h;obtain⟨f,l,ks,cp,rfl,h⟩:=h;replace h:=Bt h;obtain⟨h0,h⟩:=h;obtain rfl:=FM h0;replace h:=Bt h;obtain⟨h0',h⟩:=h;obtain rfl:=FM h0';replace h:=JT h;obtain⟨w,g,ap,rfl,h⟩:=h;replace h:=Bt h;obtain⟨h,h5⟩:=h;replace h:=Bt h;obtain⟨h,h4⟩:=h;replace h:=Bt h;obtain⟨h,h3⟩:=h;replace h:=Bt h;obtain⟨h,h2⟩:=h;replace h:=Bt h;obtain⟨h,h1⟩:=h;obtain rfl:=eq_of_beq h;refine C3 (eE v.room v.px (S.e W T X _ o v h4).st (λc id C hl hC=>?_) (MT h3) h2) (λ_ _=>rfl) rfl rfl
  have hm:=Br.mp h5 _ (Zk hl);simp only[D4,Al,AH]at hm;obtain⟨p,hp,⟨e1,e2⟩,e3⟩:=hm;obtain⟨fa,fd,ps,m1,m2,m3,m4,m5,_⟩:=v.fn p hp;have m5:=m5 (by omega)
  rw[e3,e2]at m5;have at1:=bD m1 e1 hC;exact⟨fa,fd,ps,_,(v.os.oc c C hC).cl,⟨at1,v.os.mf c C _ fa hC h1 at1,m2⟩,m3,m5⟩
 |mkob c e=>exact noF h
 |mkn c as=>
  replace h:=JS h;obtain⟨g,np,x,xs,cpos,rfl,h⟩:=h;unfold ocB at h;simp only[Al,AH,AE]at h;obtain⟨⟨⟨⟨⟨e6,h7⟩,h8⟩,h9⟩,hl⟩,h5⟩:=h;obtain⟨n2,_,_⟩:=F4 h9;obtain⟨s0,e,es',rfl,m,rfl,s1⟩:=IC h5;have q:=S.es W T X _ _ v h5;rcases v.mkr c h7 with hb|⟨C,f,fd,G,k',o1,M,hb,hk,FI,hF,hG⟩
  .refine C3 (λA pI s Y H Q I ⟨hA,U,gd,p⟩=>?_) (λ_ _=>rfl) rfl rfl
   have p':AS (λH=>Rep X.K CL H A) W H ((noX (evA Z U (.cons e es'))).bind λxs=>Z.F (900+c) xs) Q:=p
   cases e1:evA Z U (.cons e es') with
   |bad=>rw[e1]at p';exact p'.elim
   |exn y=>rw[e1]at p';exact p'.elim
   |ok ds=>rw[e1]at p';have p2:AS (λH=>Rep X.K CL H A) W H (Z.F (900+c) ds) Q:=p';rw[hb ds]at p2;exact p2.elim
  .obtain⟨C',o2,o3⟩:=v.os.at_ c h7;have:C'=C:=by rw[o1]at o2;exact(Bl o2).symm
   subst this;subst hk;exact C3 (eF M o1 (v.os.oc c _ o1) FI v.room hb v.px hF hG (by unfold glB at h8;show X.env.scope.names.lookup g=_;rw[v.sc];exact eq_of_beq h8) (by rw[e6];exact o3) n2 q.1 (λU ds z=>by rw[IE Z U _ _ z,<-q.2.2.1,A7,hl]) (Da s0) (Jp m xs es' s1 _)) (λ_ _=>rfl) rfl rfl
 |mkx c as=>
  replace h:=Bt h;obtain⟨h0,h⟩:=h;replace h:=JS h;obtain⟨g,np,x,xs,cpos,rfl,h⟩:=h;simp only[Al,AE]at h;obtain⟨⟨⟨⟨h1,h2⟩,h3⟩,h4⟩,h5⟩:=h;obtain⟨C,m1,m2⟩:=v.xt.rz _ (JW h1);obtain⟨n2,_,_⟩:=F4 h3;obtain⟨s0,e,es',rfl,m,rfl,s1⟩:=IC h5;have q:=S.es W T X _ _ v h5;exact C3 (qL (v.ex h0) v.room (by unfold glB at h2;show X.env.scope.names.lookup g=_;rw[v.sc];exact eq_of_beq h2) m2 n2 m1 q.1 (λds=>v.xt.made c C ds m1) (Da s0) (Jp m xs es' s1 _) (λU ds z=>by rw[IE Z U _ _ z,<-q.2.2.1,A7];omega)) (λ_ _=>rfl) rfl rfl
theorem snd:∀ n,Snd Z CL k n
 |0=>aE
 |n+1=>⟨pH (snd n),pJ (snd n),jZ (snd n),jY (snd n),pF (snd n),pC (snd n),pG (snd n)⟩
end
section
variable{Z:Gam}{CL:ClA}{W:XW}{k n:Af}{T:Tc}{X:Cx}
theorem fA{t:Af}(v:VX Z CL k W T X)(hf:∀ x,X.fn x=Ab)(h:tgC T [t] [x]=Ab):PG X (.Name x pos) (FQ t):=by
 unfold tgC at h;simp only[Al,AH]at h;exact LD (by rw[v.N];exact v.nd) (by rw[v.N];exact h.1.1) (by rw[v.sc];exact Ky h.1.2) (.inl (hf x))
theorem fB(v:VX Z CL k W T X)(hf:∀ x,X.fn x=Ab):∀(ys:Ac An)(ts:Ac Af)(zs:Ac Ag),FN ys=Aa zs->tgC T ts zs=Ab->PGs X ys (ts.foldr (λt u=>IN (FQ t) u) IR)/\ts.length=ys.length:=by
 intro ys
 induction ys with
 |nil=>
  intro ts zs e h;cases e;cases ts with
  |nil=>exact⟨SQ,rfl⟩
  |cons t ts=>cases h
 |cons y r ih=>
  intro ts zs e h;obtain⟨x,p,ws,rfl,e2,rfl⟩:=NR e;cases ts with
  |nil=>cases h
  |cons t ts=>
   have h':(T.N[t]? == Aa x&&IS T x&&tgC T ts ws)=Ab:=h;simp only[Al,AH]at h';obtain⟨h1,h2⟩:=ih ts ws e2 h'.2;exact⟨Rt (LD (by rw[v.N];exact v.nd) (by rw[v.N];exact h'.1.1) (by rw[v.sc];exact Ky h'.1.2) (.inl (hf x))) h1 (by rw[Oe];rfl),congrArg (· + 1) h2⟩
theorem Sd(v:VX Z CL k W T X)(hf:∀ x,X.fn x=Ab)(hn:(FN ys).isSome=Ab)(h:tgC T ts (tgN ys)=Ab):PG X (.Tuple ys kk pos) (LZ X.K ts.length (ts.foldr (λt u=>IN (FQ t) u) IR)):=by
 cases e:FN ys with
 |none=>rw[e]at hn;cases hn
 |some zs=>
  have e2:tgN ys=zs:=by unfold tgN;rw[e];rfl
  rw[e2]at h;obtain⟨h1,h2⟩:=fB v hf ys ts zs e h;obtain⟨h3,h4,_⟩:=Qx (env:=X.env) ys zs e;exact Tv v.calm h1 (by rw[h3,h2]) h4
theorem NZ(ts:Ac Af):∀ d U x,ES ts d U≠.exn x:=λd U x h=>by
 unfold ES at h;cases d with
 |tup xs=>
  dsimp only at h;cases e:EI ts xs U with
  |some r=>rw[e]at h;cases h
  |none=>rw[e]at h;cases h
 |_=>cases h
theorem Z_7{gs:Ac IX}{l:Af}:∃ b,CS (.ListComp elt gs scope pos) (Aa (.Name x pos')) l env=pure b/\(b=Ab->env.scope.names.lookup x=Aa .local):=by
 refine⟨_,rfl,λh=>?_⟩
 simp only[Al,AH]at h;exact h.1.1.2
theorem Pc{v0:An}{i:Af}{e:E}{fr:Am}(v:VX Z CL k W T X)(hf:∀ x,X.fn x=Ab)(hi:T.N[i]?=Aa x)(hl:IS T x=Ab)(o:OkE Z CL W X v0 e)(hfr:fr=Ab->Dq Z e=Ab):SAs X CL W fr i (.Assign [.Name x p] v0 pos) (λU=>evE Z U e):=by
 have hN:X.N.Nodup:=by rw[v.N];exact v.nd
 have hi':X.N[i]?=Aa x:=by rw[v.N];exact hi
 have hx:Loc X.env.scope x:=by rw[v.sc];exact Ky hl
 have sc:SC X CL W fr v0 (λU=>evE Z U e):=by
  cases fr with
  |false=>exact o.se.sc
  |true=>exact o.nw (hfr rfl)
 cases hc:IF v0 with
 |true=>exact SC.sas hN hi' hx sc (JU hc) (.inl (hf x))
 |false=>
  obtain⟨tg,iter,elt,ifs,scope,pos2,N',ts,fi,fc,fe,as,g,rfl,B,h2,hGG,hg,ht,he,hs,ef⟩:=o.cp hc;obtain⟨b,hb,hb'⟩:=Z_7 (elt:=elt) (gs:=[⟨tg,iter,ifs,0⟩]) (scope:=scope) (pos:=pos2) (pos':=p) (x:=x) (l:=pos.line) (env:=X.env);cases b with
  |false=>exact SC.sas hN hi' hx sc hb (.inl (hf x))
  |true=>
   have q:=ZU (pos2:=pos) v.calm B h2 hGG hg ht he hs hN hi' (hb' rfl) hb;have q':SAs X CL W Ab i (.Assign [.Name x p] (.ListComp elt [⟨tg,iter,ifs,0⟩] scope pos2) pos) (λU=>evE Z U e):=by
    have:(λU=>evE Z U e)=_:=funext ef
    rw[this];exact q
   cases fr with
   |true=>exact q'
   | false=>exact λA=>PS.weak (q' A) λD Y H ⟨hA,U,gd,z⟩=>⟨hA,U,gd,by
     dsimp only at z ⊢;cases e0:evE Z U e with
     |ok d=>
      rw[e0]at z;exact λv' H' s' r'=>z v' H' s' ⟨r'.1,λ_=>r'.2 rfl⟩
     |exn y=>rw[e0]at z;exact z
     | bad=>rw[e0]at z;exact z⟩
theorem QX(U:Rho)(e:E)(h:∀ i,e≠.var i):evS Z U (.ret e)=O.of U (evE Z U e) λd=>.ret d (Dq Z e):=by
 have k:∀ b:Am,b=Ad->top U e (evE Z U e)=evE Z U e->(O.of U (top U e (evE Z U e)) λd=>.ret d (Dq Z e||b))=O.of U (evE Z U e) λd=>.ret d (Dq Z e):=λb hb ht=>by
  rw[hb,ht];simp only[Ef]
 rw[SY];cases e with
 |var i=>exact absurd rfl (h i)
 |_=>exact k _ rfl rfl
structure DefX (X:Cx):Prop where
 fn:∀ x,X.fn x=Ab
 ex:X.ex=[]
 st:X.stack=X.env::X.outer
 fm:X.env.frame=Aa X.env.locals
structure SndS (Z:Gam) (CL:ClA) (k:Af) (n:Af):Prop where
 s:∀(W:XW)(T:Tc)(X:Cx)(x:AJ)(c:S),VX Z CL k W T X->DefX X->L9 n T x c=Ab->SS X CL W x (λU=>evS Z U c)
 ss:∀(W:XW)(T:Tc)(X:Cx)(x:Ac AJ)(c:Ss),VX Z CL k W T X->DefX X->chkSs n T x c=Ab->SSs X CL W x (λU=>evSs Z U c)
theorem iT(x y:D)(e:Ex):FS x y≠.exn e:=by
 intro z;cases x with
 |lst xs=>cases y<;>first|exact Kt z|cases z
 |tup xs=>cases y<;>first|exact Kt z|cases z
 |str x=>
  cases y with
  |int i=>
   have z':(if Cd x.length=Ab then CP (FU x) i else .bad)=.exn e:=z
   split at z'
   .exact Kt z'
   .cases z'
  |_=>cases z
 |dic kvs=>
  have z':(match (JD y).bind (Pl kvs) with|some d=>R.ok d|none=>.bad)=.exn e:=z
  cases h:(JD y).bind (Pl kvs) with
  |none=>rw[h]at z';cases z'
  |some k=>rw[h]at z';cases z'
 |_=>cases z
theorem Sa{i:Af}{y:Ex}:DV U i≠.exn y:=λz'=>by
 exact Lu z'
theorem Mw(Z:Gam)(U:Rho)(e:E)(h:Nk e=Ab)(y:Ex):top U e (evE Z U e)≠.exn y:=by
 cases e with
 |var i=>
  intro z;have z':DV U i=.exn y:=z;exact Lu z'
 |idx a b=>
  cases a with
  |var i=>
   cases b with
   |int j=>
    intro z;have z':(DV U i).bind (λx=>FS x (.int j))=.exn y:=z
    cases e1:DV U i with
    |bad=>rw[e1]at z';cases z'
    |exn w=>exact Sa e1
    |ok d=>rw[e1]at z';exact iT _ _ _ z'
   |_=>exact noF h
  |_=>exact noF h
 |bin op a b=>
  have h:(Vc op&&Qi a b)=Ab:=h;rw[Al]at h;obtain⟨h0,h⟩:=h;cases op with
  |Sub=>
   cases a with
   |var i=>
    cases b with
    |int j=>
     intro z;have z':(DV U i).bind (λx=>CF .Sub x (.int j))=.exn y:=z
     cases e1:DV U i with
     |bad=>rw[e1]at z';cases z'
     |exn w=>exact Sa e1
     |ok d=>rw[e1]at z';cases d<;>cases z'
    |_=>exact noF h
   |_=>exact noF h
  |_=>exact absurd (show Ad=Ab from h0) Ay
 |int i=>intro z;cases z
 |bl i=>intro z;cases z
 |str i=>intro z;cases z
 |non=>intro z;cases z
 |_=>cases h
theorem Mt(Z:Gam)(U:Rho):∀(es:Es),IK es=Ab->∀ y,evB Z U es≠.exn y
 |.nil,_,y=>λz=>by cases z
 |.cons e es,h,y=>λz=>by
  unfold IK at h;rw[Al]at h;rw[Oo]at z;cases e1:top U e (evE Z U e) with
  |bad=>rw[e1]at z;cases z
  |exn w=>exact Mw Z U e h.1 w e1
  |ok d=>
   rw[e1,R.bind_ok]at z;cases e2:evB Z U es with
   |bad=>rw[e2]at z;cases z
   |exn w=>exact Mt Z U es h.2 w e2
   |ok ds=>rw[e2]at z;cases z
theorem VX.pw(v:VX Z CL k W T X)(own:DX (model X.prog X.w) X.A X.env Xw):VX Z CL k W0 T (Cx.pw X pI Xw):=⟨v.sc,v.kd,v.N,v.nd,v.calm,v.room,v.bl,v.os,v.mkr,v.fn,own,Tz,Vd,VG,v.xt,v.gl,v.ex⟩
theorem Ra(o:O):(o.seq λU'=>O.next U')=o:=by cases o<;>rfl
theorem STB.congr{st:Ac AJ}{f g:Rho->O}(h:STB X CL st f)(e:∀ U,g U=f U):STB X CL st g:=by
 have:g=f:=funext e;rw[this];exact h
theorem TU(Sn:Snd Z CL k n)(v:VX Z CL k W T X)(hf:DefX X){st:AJ}{s:S}(h:MQ n T st s=Ab):STB X CL [st] (λU=>evSs Z U (.cons s .nil))/\∀ U y U',evSs Z U (.cons s .nil)=.exn y U'->U'=U:=by
 have seq:∀ U,evSs Z U (.cons s .nil)=evS Z U s:=λU=>Ra _
 have ofn:∀{r:R D}{f:D->Rho}{U U':Rho}{y:Ex},(O.of U r λd=>O.next (f d))=.exn y U'->U'=U:=λ{r f U U' y} z=>by
  cases r with
  |ok d=>cases z
  |exn w=>cases z;rfl
  |bad=>cases z
 have call:∀{e:An}{f:Af}{as:Es},Bb n T e (.call f as)=Ab->IK as=Ab->∃ g pp y ys qq,e=.Call (.Name g pp) (y::ys) [] qq/\∃ p∈T.fns,g=p.1/\f=p.2.1/\p.2.2=ys.length+1/\ys.length<900/\glB T g=Ab/\Fw g=Ab/\∃ m,n=m+1/\chkEs m T (y::ys) as=Ab:=λ{e f as} h _=>by
  cases n with
  |zero=>exact noF h
  |succ m=>
   replace h:=JS h;obtain⟨g,pp,y,ys,qq,rfl,h⟩:=h;simp only[Al,D4,AH,AE]at h;obtain⟨⟨⟨⟨⟨p,hp,⟨e1,e2⟩,hl⟩,h900⟩,h1⟩,h2⟩,h3⟩:=h;exact⟨g,pp,y,ys,qq,rfl,p,hp,e1.symm,e2.symm,hl,h900,h1,h2,m,rfl,h3⟩
 cases s with
 |expr e0=>
  replace h:(KO e0 λf as=>KM st λv=>Bb n T v (.call f as)&&IK as)=Ab:=h
  replace h:=Rz h;obtain⟨f,as,rfl,h⟩:=h;replace h:=Oy h;obtain⟨v0,pos,rfl,h⟩:=h;rw[Al]at h;obtain⟨g,pp,y,ys,qq,rfl,p,hp,rfl,rfl,hl,h900,h1,h2,m,rfl,h3⟩:=call h.1 h.2;obtain⟨fa,fd,ps,m1,m2,m3,m4,m5,_⟩:=v.fn p hp;have hlt:p.2.2<1000:=by omega
  rw[F1 hlt]at m4 m5;have m5:=m5 hlt;obtain⟨n2,n3,n4⟩:=F4 h2;replace m1:=Mz m1 (MG h2);obtain⟨s0,e,es',rfl,m',rfl,s1⟩:=IC h3;have hlen:ys.length+1=(Es.cons e es').len:=(snd (Z:=Z) (CL:=CL) (k:=k) (m'+1)).es W T X _ _ v h3 |>.2.2.1;refine⟨STB.congr (Z_9 (X:=X) (fs:=λU=>evA Z U (.cons e es')) (sh:=λU=>HA U (.cons e es')) hf.ex m5 v.room (by unfold glB at h1;show X.env.scope.names.lookup p.1=_;rw[v.sc];exact eq_of_beq h1) m1 m2 m3 (λU z=>LF Z U _ z) (λU ds z=>by rw[Lz Z U _ _ z,<-hlen,hl]) (λU=>Mt Z U _ h.2) n2 (Da s0) (Jp m' ys es' s1) (λpI Xw own=>by
   obtain⟨a1,a2,_⟩:=(snd (Z:=Z) (CL:=CL) (k:=k) (m'+1)).es W0 T (Cx.pw X pI Xw) _ _ (v.pw own) h3;exact⟨a1,a2⟩) (JU rfl)) λU=>seq U,λU y U' z=>?_⟩
  rw[seq]at z;exact ofn (f:=λ_=>U) z
 |asg i b0 e0=>
  replace h:(!b0&&(KO e0 λf as=>LO st λy v=>T.N[i]? == Aa y&&IS T y&&Bb n T v (.call f as)&&IK as))=Ab:=h
  replace h:=Bt h;obtain⟨hb,h⟩:=h;cases b0 with
  |true=>exact absurd (show Ad=Ab from hb) Ay
  |false=>
  replace h:=Rz h;obtain⟨f,as,rfl,h⟩:=h;replace h:=OB h;obtain⟨y0,p0,v0,pos,rfl,h⟩:=h;simp only[Al,AH]at h;obtain⟨⟨⟨i1,i2⟩,hc⟩,hsim⟩:=h;obtain⟨g,pp,y,ys,qq,rfl,p,hp,rfl,rfl,hl,h900,h1,h2,m,rfl,h3⟩:=call hc hsim;obtain⟨fa,fd,ps,m1,m2,m3,m4,m5,_⟩:=v.fn p hp;have hlt:p.2.2<1000:=by omega
  rw[F1 hlt]at m4 m5;have m5:=m5 hlt;obtain⟨n2,n3,n4⟩:=F4 h2;replace m1:=Mz m1 (MG h2);obtain⟨s0,e,es',rfl,m',rfl,s1⟩:=IC h3;have hlen:ys.length+1=(Es.cons e es').len:=(snd (Z:=Z) (CL:=CL) (k:=k) (m'+1)).es W T X _ _ v h3 |>.2.2.1;refine⟨STB.congr (dM (X:=X) (fs:=λU=>evA Z U (.cons e es')) (sh:=λU=>HA U (.cons e es')) (i:=i) hf.ex m5 v.room (by unfold glB at h1;show X.env.scope.names.lookup p.1=_;rw[v.sc];exact eq_of_beq h1) m1 m2 m3 (λU z=>LF Z U _ z) (λU ds z=>by rw[Lz Z U _ _ z,<-hlen,hl]) (λU=>Mt Z U _ hsim) n2 (Da s0) (Jp m' ys es' s1) (λpI Xw own=>by
   obtain⟨a1,a2,_⟩:=(snd (Z:=Z) (CL:=CL) (k:=k) (m'+1)).es W0 T (Cx.pw X pI Xw) _ _ (v.pw own) h3;exact⟨a1,a2⟩) (by rw[v.N];exact v.nd) (by rw[v.N];exact i1) (by rw[v.sc];exact Ky i2) (.inl (hf.fn _)) (JU rfl)) λU=>seq U,λU y U' z=>?_⟩
  rw[seq]at z;exact ofn (f:=λd=>U.set i (Aa (d,Ad))) z
 |_=>exact noF h
theorem jF(op:C5)(x y:D)(e:Ex):Bp op x y≠.exn e:=λz=>by
 rcases RK op x y with w|⟨b,w⟩<;>(rw[w]at z;cases z)
theorem eX(x:D)(e:Ex):BY x≠.exn e:=by
 unfold BY;split<;>first|(intro z;cases z;done)|(split<;>intro z<;>cases z)
theorem RS(Z:Gam)(U:Rho)(c:E)(h:Qh c=Ab)(y:Ex):(top U c (evE Z U c)).bind BY≠.exn y:=by
 have key:∀ e,top U c (evE Z U c)≠.exn e:=by
  cases c with
  |var i=>exact Mw Z U (.var i) rfl
  |cmp op a b=>
   unfold Qh at h;rw[Al]at h;intro e z;have z':((top U a (evE Z U a)).bind λx=>(top U b (evE Z U b)).bind λy=>Bp op x y)=.exn e:=by
    have e0:evE Z U (.cmp op a b)=((top U a (evE Z U a)).bind λx=>(top U b (evE Z U b)).bind λy=>Bp op x y):=jB Z U op a b
    rw[<-e0];exact z
   cases e1:top U a (evE Z U a) with
   |bad=>rw[e1]at z';cases z'
   |exn w=>exact Mw Z U a h.1 w e1
   |ok d=>
    rw[e1,R.bind_ok]at z';cases e2:top U b (evE Z U b) with
    |bad=>rw[e2]at z';cases z'
    |exn w=>exact Mw Z U b h.2 w e2
    |ok d2=>rw[e2,R.bind_ok]at z';exact jF _ _ _ _ z'
  |_=>cases h
 intro z;cases e1:top U c (evE Z U c) with
 |bad=>rw[e1]at z;cases z
 |exn w=>exact key w e1
 |ok d=>rw[e1,R.bind_ok]at z;exact eX _ _ z
theorem pN(Sn:Snd Z CL k n)(v:VX Z CL k W T X)(hf:DefX X):∀(m:Af){st:AJ}{s:S},Ng m n T st s=Ab->STB X CL [st] (λU=>evSs Z U (.cons s .nil))/\∀ U y U',evSs Z U (.cons s .nil)=.exn y U'->U'=U:=by
 intro m
 induction m with
 |zero=>intro st s h;exact TU Sn v hf h
 |succ m ih=>
  intro st s h;replace h:=orT (a:=MQ n T st s) (b:=Ti (Ng m n T) n T st s) h;rcases h with h|h
  .exact TU Sn v hf h
  .cases s with
   |ife c a b=>
    replace h:=Rx h;obtain⟨a,rfl,h⟩:=h;replace h:=Rx h;obtain⟨b,rfl,h⟩:=h;replace h:=Su h;obtain⟨t,xs,ys,pos,rfl,h⟩:=h;replace h:=Fc h;obtain⟨xs,rfl,h⟩:=h;replace h:=Fc h;obtain⟨ys,rfl,h⟩:=h;simp only[Al]at h;obtain⟨⟨⟨h1,h2⟩,h3⟩,h4⟩:=h;obtain⟨a1,a2⟩:=ih h3;obtain⟨b1,b2⟩:=ih h4;have ev:∀ U,evSs Z U (.cons (.ife c (.cons a .nil) (.cons b .nil)) .nil)=O.of U ((top U c (evE Z U c)).bind BY) λk=>if k=Ab then evSs Z U (.cons a .nil) else evSs Z U (.cons b .nil):=λU=>Ra _
    refine⟨STB.congr (dL (λpI Xw own=>(Sn.b W0 T (Cx.pw X pI Xw) _ _ (v.pw own) h1)) (λU y=>RS Z U c h2 y) a1 b1) λU=>ev U,λU y U' z=>?_⟩
    rw[ev]at z;cases e1:(top U c (evE Z U c)).bind BY with
    |bad=>rw[e1]at z;cases z
    |exn w=>exact absurd e1 (RS Z U c h2 w)
    |ok k=>
     rw[e1,O.of_ok]at z;cases k with
     |true=>exact a2 U y U' z
     |false=>exact b2 U y U' z
   |_=>exact noF h
theorem Lx{i:Af}{e:Ak}(v:VX Z CL k W T X)(h:isV T x i=Ab):PE (Cx.hot X e) (.Name x pos) (EX i):=by
 unfold isV at h;simp only[Al,AH]at h;obtain⟨h2,h3,_⟩:=F4 h.2;exact Kz (by show X.N[i]?=_;rw[v.N];exact h.1.1) (by show Vis X.env.scope x;rw[v.sc];exact R8 h.1.2) h2 h3
theorem TF{x:Af}{t:An}{c:E}:∀{n:Af},Ia n T x t c=Ab->∀ U r,top U c r=r:=λ{n} h=>by
 cases n with
 |zero=>exact noF h
 |succ n=>
  cases c with
  |var i=>exact noF h
  |_=>exact λ_ _=>rfl
theorem cS(v:VX Z CL k W T X)(e:Ak):∀(ts:Ac An)(ks:Ac Ki),P7 T ts ks=Ab->∃ cs:Ac (Af×Ak),ks=cs.map (λq=>Ki.cls q.1)/\cs.length=ts.length/\PA (Cx.hot X e) ts (U_9 (cs.map λq:Af×Ak=>q.2))/\∀ q∈cs,LH X.K CL Z.up q.1 q.2:=by
 intro ts
 induction ts with
 |nil=>
  intro ks h;obtain rfl:=FM h;exact⟨[],rfl,rfl,Ft,λq hq=>nomatch hq⟩
 |cons t ts ih=>
  intro ks h;replace h:=Jq h;obtain⟨kk,ks,rfl,h⟩:=h;replace h:=Fu h;obtain⟨t,p,rfl,h⟩:=h;replace h:=Bt h;obtain⟨h,h4⟩:=h;cases kk with
  |cls c=>
   replace h:(inX T.exs t c&&glB T t&&Fw t)=Ab:=h;simp only[Al]at h;obtain⟨⟨h1,h2⟩,h3⟩:=h;obtain⟨cs,e1,e2,e3,e4⟩:=ih ks h4;obtain⟨C,m1,m3,_⟩:=v.xt.ex _ (JW h1);obtain⟨n2,_,_⟩:=F4 h3;refine⟨(c,C)::cs,by rw[e1];rfl,by rw[A7,A7,e2],?_,λq hq=>?_⟩
   .exact DT (OM (X:=Cx.hot X e) (v:=.ref C) (by unfold glB at h2;show X.env.scope.names.lookup t=_;rw[v.sc];exact eq_of_beq h2) m1 rfl n2) e3 rfl
   .rcases AI.mp hq with rfl|hq
    .exact m3
    .exact e4 q hq
  |_=>exact noF h
theorem M6{e:Ak}{f:An->E->Am}(ih:∀ t c,f t c=Ab->SE (Cx.hot X e) CL W0 t (λU=>evE Z U c)):∀(xs:Ac An)(es:Es),LS f xs es=Ab->SA (Cx.hot X e) CL W0 xs (λU=>evA Z U es)/\xs.length=es.len
 |[],.nil,_=>⟨Tr,rfl⟩
 |[],.cons _ _,h=>nomatch (show Ad=Ab from h)
 |_::_,.nil,h=>nomatch (show Ad=Ab from h)
 |x::xs,.cons c es,h=>by
  have h:(Dy x&&f x c&&LS f xs es)=Ab:=h;simp only[Al]at h;obtain⟨⟨h1,h2⟩,h3⟩:=h;obtain⟨q,l⟩:=M6 ih xs es h3;exact⟨SM (ih x c h2) q (Da h1),by rw[A7,l];rfl⟩
theorem UL(v:VX Z CL k W T X)(e:Ak)(x:Af):∀(n:Af)(t:An)(c:E),Ia n T x t c=Ab->SE (Cx.hot X e) CL W0 t (λU=>evE Z U c):=by
 intro n
 induction n with
 |zero=>intro t c h;exact noF h
 |succ n ih=>
  intro t c h;cases c with
  |bl b=>
   replace h:=Js h;obtain⟨k,u,p,rfl,h⟩:=h;obtain rfl:=AO h;exact Us
  |no a=>
   replace h:=MF h;obtain⟨o,y,p,rfl,h⟩:=h;replace h:=Bt h;obtain⟨h0,h⟩:=h;obtain rfl:=AO h0;have q:=(ih _ _ h).st;refine SE.congr (T4 q) λU=>?_
   show ((top U a (evE Z U a)).bind λx=>(DA x).bind λb=>R.ok (D.bl (!b)))=_
   rw[TF h]
  |and es=>
   cases es with
   |nil=>exact noF h
   |cons a as=>
    cases as with
    |nil=>
     replace h:=Lp h;obtain⟨o,l,p,rfl,h⟩:=h;replace h:=Bt h;obtain⟨h0,h⟩:=h;obtain rfl:=AO h0;replace h:=Fc h;obtain⟨y,rfl,h⟩:=h;exact SE.congr (Pa (ih _ _ h)) λU=>rfl
    |cons a' as=>
     replace h:=Lp h;obtain⟨o,l,p,rfl,h⟩:=h;replace h:=Bt h;obtain⟨h0,h⟩:=h;obtain rfl:=AO h0;replace h:=Jq h;obtain⟨y,l,rfl,h⟩:=h;replace h:=Jq h;obtain⟨z,zs,rfl,h⟩:=h;exact SE.congr (To (ih _ _ (Bt h).1) (ih _ _ (Bt h).2)) λU=>rfl
  |isi a ks=>
   replace h:=Ou h;obtain⟨i,rfl,h⟩:=h;replace h:=fO h;obtain⟨g,pp,w,pq,u,pr,rfl,h⟩:=h;simp only[Al,AH]at h;obtain⟨⟨⟨⟨rfl,rfl⟩,h3⟩,h4⟩,h⟩:=h;obtain⟨g1,g2,_,_⟩:=G0 v h3;replace h:=Jq h;obtain⟨kk,ks,rfl,h⟩:=h;cases kk with
   |verr=>
    replace h:=Bt h;obtain⟨h0,h⟩:=h;obtain rfl:=FM h0;replace h:=Fu h;obtain⟨t,pt,rfl,h⟩:=h;simp only[Al,AH]at h;obtain⟨h5,h6⟩:=h;obtain⟨b1,b2,_,_⟩:=G0 v h6;rw[h5]at b1 b2 ⊢;exact T6 (X:=Cx.hot X e) v.xt.xc g1 g2 b1 b2 (II (Lx v h4)) rfl
   |cls c=>
    cases ks with
    |nil=>
     replace h:=Fu h;obtain⟨t,pt,rfl,h⟩:=h;simp only[Al]at h;obtain⟨⟨h5,h6⟩,h7⟩:=h;obtain⟨C,m1,m3,_⟩:=v.xt.ex _ (JW h5);obtain⟨n2,_,_⟩:=F4 h7;exact Tl (X:=Cx.hot X e) v.xt.xc g1 g2 (by unfold glB at h6;show X.env.scope.names.lookup _=_;rw[v.sc];exact eq_of_beq h6) m1 m3 n2 (II (Lx v h4)) rfl
    |cons k2 ks=>
     replace h:=Ko h;obtain⟨ts,z1,z2,rfl,h⟩:=h;replace h:=Bt h;obtain⟨h5,h6⟩:=h;obtain⟨cs,e1,e2,e3,e4⟩:=cS v e _ _ h5;have hne:cs≠[]:=by rintro rfl;cases e1
     rw[e1];exact jO (X:=Cx.hot X e) (W:=W0) (up:=Z.up) v.xt.xc g1 g2 e3 hne (by rw[e2];exact AO h6) e4 (II (Lx v h4)) rfl
   |_=>exact noF h
  |call f as=>exact absurd (show Ad=Ab from h) Ay
  |str s=>
   replace h:=Js h;obtain⟨k,u,p,rfl,h⟩:=h;obtain rfl:=AO h;exact MW
  |lst es=>
   replace h:=Ow h;obtain⟨xs,p,rfl,h⟩:=h;simp only[Al,AE]at h;obtain⟨q,ql⟩:=M6 (ih) _ _ h.1;exact(O2 q λU ds z=>by rw[IE Z U _ _ z,<-ql];omega).se
  |tup es=>
   replace h:=Ko h;obtain⟨xs,cc,p,rfl,h⟩:=h;simp only[Al,AE]at h;obtain⟨q,ql⟩:=M6 (ih) _ _ h.1;exact TZ q λU ds z=>by rw[IE Z U _ _ z,<-ql];omega
  |bin op a b=>
   replace h:=Bt h;obtain⟨h0,h⟩:=h;obtain rfl:=AO h0;replace h:=Ou h;obtain⟨i,rfl,h⟩:=h;replace h:=RA h;obtain⟨l,o,y,p,rfl,h⟩:=h;replace h:=Bt h;obtain⟨h0,h⟩:=h;obtain rfl:=AO h0;replace h:=Fu h;obtain⟨w,pw,rfl,h⟩:=h;replace h:=Bt h;obtain⟨h1,h2⟩:=h;refine SE.congr (Pb (ON .Add) (II (Lx v h1)) (ih _ _ h2).st) λU=>?_
   show ((DV U i).bind λx=>(top U b (evE Z U b)).bind λy=>CF .Add x y)=_
   rw[TF h2]
  |fld o f=>
   replace h:=Ou h;obtain⟨i,rfl,h⟩:=h;replace h:=JT h;obtain⟨w,g,p,rfl,h⟩:=h;replace h:=Fu h;obtain⟨w,pw,rfl,h⟩:=h;simp only[Al,AH]at h;obtain⟨⟨⟨rfl,rfl⟩,h3⟩,h4⟩:=h;exact SK (X:=Cx.hot X e) v.xt.xc (λc C z=>v.xt.nf c C z _ h3) (II (Lx v h4)) rfl
  |_=>exact noF h
theorem tN(v:VX Z CL k W T X)(hf:DefX X)(e:Ak)(x:Af):∀(n:Af)(sts:Ac AJ)(ss:Ss),PL n T x sts ss=Ab->SSs (Cx.hot X e) CL W0 sts (λU=>evSs Z U ss):=by
 intro n
 induction n with
 |zero=>intro t c h;exact noF h
 |succ n ih=>
  intro sts ss0 h;cases ss0 with
  |nil=>
   obtain rfl:=FM h;exact RW
  |cons s ss0=>
   replace h:=Jq h;obtain⟨st,r,rfl,h⟩:=h;replace h:=Bt h;obtain⟨h,h5⟩:=h;cases s with
   |asg i b e0=>
    replace h:=OB h;obtain⟨y,py,v0,pos,rfl,h⟩:=h;simp only[Al,AH]at h;obtain⟨⟨⟨⟨h1,h2⟩,h3⟩,h4⟩,h6⟩:=h;cases b with
    |true=>
     cases e0 with
     |lst es=>
      have sc:SC (Cx.hot X e) CL W0 Ab v0 (λU=>evE Z U (.lst es)):=by
       cases n with
       |zero=>exact absurd (show Ad=Ab from h4) Ay
       |succ n=>
        replace h4:=Ow h4;obtain⟨l,pl,rfl,h4⟩:=h4;obtain⟨q,ql⟩:=M6 (UL v e x n) _ _ (Bt h4).1;have hle:=AO (Bt h4).2;exact O2 q λU ds z=>by rw[IE Z U _ _ z,<-ql];omega
      have q:=OI (RY (SC.sas (X:=Cx.hot X e) (pos:=pos) (pos':=py) (by show X.N.Nodup;rw[v.N];exact v.nd) (by show X.N[i]?=_;rw[v.N];exact h1) (by show Loc X.env.scope _;rw[v.sc];exact Ky h2) sc (JU h3) (.inl (hf.fn _)))) (ih _ _ h5)
      have ef:(λU=>evSs Z U (.cons (.asg i Ab (.lst es)) ss0))=λU=>(O.of U (evE Z U (.lst es)) λd=>setF U i d).seq λU=>evSs Z U ss0:=by
       funext U
       show (evS Z U (.asg i Ab (.lst es))).seq _=_;rw[aJ];rfl
      rw[ef];exact q
     |_=>exact absurd (show Ad=Ab from h6) Ay
    |false=>
    exact OI (kB (X:=Cx.hot X e) (by show X.N.Nodup;rw[v.N];exact v.nd) (by show X.N[_]?=_;rw[v.N];exact h1) (by show Loc X.env.scope _;rw[v.sc];exact Ky h2) (UL v e x n _ _ h4) (JU h3) (.inl (hf.fn _))) (ih _ _ h5)
   |ife c a b=>exact absurd (show Ad=Ab from h) Ay
   |ret e0=>exact absurd (show Ad=Ab from h) Ay
   |app i e0=>exact absurd (show Ad=Ab from h) Ay
   |_=>exact noF h
theorem oF(v:VX Z CL k W T X)(h:hdB T g c=Ab):VA X CL Z.up g c:=by
 unfold hdB at h;simp only[Al]at h;obtain⟨⟨⟨i1,i0⟩,i2⟩,i3⟩:=h;obtain⟨C,m1,m3,m4⟩:=v.xt.ex _ (JW i1);obtain⟨C0,r1,r2⟩:=v.xt.rz _ (JW i0);obtain⟨n2,_,_⟩:=F4 i3;refine⟨C,by unfold glB at i2;show X.env.scope.names.lookup g=_;rw[v.sc];exact eq_of_beq i2,m1,n2,?_,λc' D hD=>m4 c' D hD⟩
 have e0:=m1.symm.trans r2;cases e0;exact v.xt.xc _ _ r1
theorem pE(Z_:SndS Z CL k n)(W:XW)(T:Tc)(X:Cx)(st:AJ)(c:S)(v:VX Z CL k W T X)(hf:DefX X)(h:L9 (n+1) T st c=Ab):SS X CL W st (λU=>evS Z U c):=by
  have E:=snd (Z:=Z) (CL:=CL) (k:=k) n;cases c with
  |pass=>
    exact Stmt.Pass.elim (motive_2:=λst=>SS X CL W st (λU=>evS Z U .pass)) st (AO h) λp=>dQ
  |brk=>exact absurd (show Ad=Ab from h) Ay
  |cont=>exact absurd (show Ad=Ab from h) Ay
  |asg i fresh e=>
    replace h:=OB h;obtain⟨x,px,v0,pos,rfl,h⟩:=h;simp only[Al,AH]at h;obtain⟨⟨h1,h2⟩,h3⟩:=h;have o:=E.e W T X _ e v h3;cases fresh with
    |false=>exact TY (Pc (fr:=Ad) v hf.fn h1 h2 o (λz=>nomatch z))
    |true=>
      cases hn:Dq Z e with
      |true=>
        refine SS.ref (RY (Pc (fr:=Ab) v hf.fn h1 h2 o (λ_=>hn))) λU=>.inr ?_
        show O.of U (evE Z U e) (λd=>if Ab=Ab then (if Dq Z e=Ab then (match d with
          |.lst xs=>.next (U.set i (Aa (.lst xs,Ab)))
          |.dic xs=>.next (U.set i (Aa (.dic xs,Ab)))
          | _=>.bad) else .bad) else .next (U.set i (Aa (d,Ad))))=_
        rw[hn];rfl
      |false=>
        refine SS.ref (TY (Pc (fr:=Ad) v hf.fn h1 h2 o (λz=>nomatch z))) λU=>?_
        have e0:evS Z U (.asg i Ab e)=O.of U (evE Z U e) (λd=>if Ab=Ab then (if Dq Z e=Ab then (match d with
          |.lst xs=>.next (U.set i (Aa (.lst xs,Ab)))
          |.dic xs=>.next (U.set i (Aa (.dic xs,Ab)))
          | _=>.bad) else .bad) else .next (U.set i (Aa (d,Ad)))):=rfl
        rw[e0,hn];cases evE Z U e with
        |ok d=>exact .inl rfl
        |exn y=>exact .inr rfl
        |bad=>exact .inl rfl
  |asgT ts e=>exact absurd (show Ad=Ab from h) Ay
  |expr e=>
    replace h:=Oy h;obtain⟨v0,pos,rfl,h⟩:=h;simp only[Al]at h;exact dS (E.e W T X _ e v h.2).se (JU h.1)
  |ret e=>
    replace h:=Ry h;obtain⟨o,pos,rfl,h⟩:=h;cases o with
    |none=>exact noF h
    |some v0=>
    replace h:Bb n T v0 e=Ab:=h;have o:=E.e W T X _ e v h;cases hv:Dq Z e with
    |true=>
      refine SS.ref (RX (o.nw hv)) λU=>.inr ?_
      rw[QX U e (λi z=>by subst z;cases hv),hv]
    |false=>
      cases e with
      |var i=>
        cases n with
        |zero=>exact noF h
        |succ n=>
          replace h:=Fu h;obtain⟨y,py,rfl,h⟩:=h;exact dO (Jv v h)
      |_=>
        refine SS.ref (dP o.se) λU=>.inr ?_
        rw[QX U _ (by intro i z;cases z),hv]
  |retN=>exact absurd (show Ad=Ab from h) Ay
  |retc ts it f as=>
    replace h:=Ry h;obtain⟨o,pos,rfl,h⟩:=h;cases o with
    |none=>exact noF h
    |some v0=>
      replace h:=Sr h;obtain⟨y,tg,it',ifs,scope,p0,rfl,h⟩:=h;replace h:=Bt h;obtain⟨hn,h⟩:=h;obtain rfl:=FM hn;replace h:=Ko h;obtain⟨ys,cc,pw,rfl,h⟩:=h;simp only[Al]at h;obtain⟨⟨⟨⟨⟨⟨h0,h1⟩,h2⟩,h3⟩,h4⟩,h5⟩,h6⟩:=h;cases n with
      |zero=>exact noF h6
      |succ m=>
        replace h6:=JS h6;obtain⟨g,pp,y1,ys1,qq,rfl,h6⟩:=h6;simp only[Al,D4,AH,AE]at h6;obtain⟨⟨⟨⟨⟨p,hp,⟨rfl,rfl⟩,hl⟩,h900⟩,g1⟩,g2⟩,g3⟩:=h6;obtain⟨fa,fd,ps,m1,m2,m3,m4,m5,_⟩:=v.fn p hp;have hlt:p.2.2<1000:=by omega
        rw[F1 hlt]at m4 m5;have m5:=m5 hlt;obtain⟨n2,n3,n4⟩:=F4 g2;replace m1:=Mz m1 (MG g2);obtain⟨s0,e,es',rfl,m',rfl,s1⟩:=IC g3;have hlen:ys1.length+1=(Es.cons e es').len:=aL _ _ _ g3;exact RX (ZR (fs:=λU=>evA Z U (.cons e es')) (sh:=λU=>HA U (.cons e es')) v.calm hf.st hf.fm v.fz (Pp v h3).1 (E.i W T X Ab _ _ it v rfl h1) (oG ts) (NZ ts) (λcl C s H fp=>fC (v.blk h3) h0 h4) (LJ h2) m5 v.room (λcl C s H fp=>by
          have vb:=v.blk (cl:=cl) (C:=C) (s:=s) (H:=H) (fp:=fp) h3;unfold glB at g1;show (cxC X scope cl C (J9 ts (tgN ys) T.N) s H fp).env.scope.names.lookup p.1=_;rw[vb.sc];exact eq_of_beq g1) m1 m2 m3 (λcl C s H fp=>by
          obtain⟨a1,a2,_⟩:=(snd (Z:=Z) (CL:=CL) (k:=k) (m'+1)).es W0 _ _ _ _ (v.blk (cl:=cl) (C:=C) (s:=s) (H:=H) (fp:=fp) h3) g3;exact⟨a1,a2⟩) (λU z=>LF Z U _ z) (λU ds z=>by rw[Lz Z U _ _ z,<-hlen,hl]) (λU=>Mt Z U _ h5) n2 (λenv=>Da s0) (λenv=>Jp (X:={X with env:=env}) m' ys1 es' s1))
  |ife c a b=>
    replace h:=Su h;obtain⟨t,xs,ys,pos,rfl,h⟩:=h;simp only[Al]at h;exact pK (E.b W T X _ c v h.1.1) (Z_.ss W T X _ a v hf h.1.2) (Z_.ss W T X _ b v hf h.2)
  |fors t it body=>
    replace h:=Ox h;obtain⟨tg,it',xs,ys,pos,rfl,h⟩:=h;replace h:=Bt h;obtain⟨hn,h⟩:=h;obtain rfl:=FM hn;replace h:=Fu h;obtain⟨y,py,rfl,h⟩:=h;simp only[Al]at h;obtain⟨⟨⟨h1,h2⟩,h3⟩,h4⟩:=h;exact TX v.own v.calm (iV t) (fA v hf.fn h1) (E.i W T X Ad _ _ it v rfl h3) (Z_.ss W T X _ body v hf h4) (LJ h2) (λ_ _ _ z=>nomatch z)
  |forT ts it body=>
    replace h:=Ox h;obtain⟨tg,it',xs,zs,pos,rfl,h⟩:=h;replace h:=Bt h;obtain⟨hn,h⟩:=h;obtain rfl:=FM hn;replace h:=Ko h;obtain⟨ys,cc,py,rfl,h⟩:=h;simp only[Al]at h;obtain⟨⟨⟨⟨h0,h1⟩,h2⟩,h3⟩,h4⟩:=h;exact TX v.own v.calm (TH ts) (Sd v hf.fn h0 h1) (E.i W T X Ab _ _ it v rfl h3) (Z_.ss W T X _ body v hf h4) (LJ h2) (NZ ts)
  |forO i ts body=>
    replace h:=Ox h;obtain⟨tg,it',xs,zs,pos,rfl,h⟩:=h;replace h:=Bt h;obtain⟨hn,h⟩:=h;obtain rfl:=FM hn;replace h:=Ko h;obtain⟨ys,cc,py,rfl,h⟩:=h;simp only[Al]at h;obtain⟨⟨⟨h0,h1⟩,h2⟩,h3⟩:=h;replace h3:=IA h3;obtain⟨g,pp,l,qq,rfl,h3⟩:=h3;replace h3:=Fc h3;obtain⟨y,rfl,h3⟩:=h3;simp only[Al,AH]at h3;obtain⟨⟨⟨rfl,g0⟩,hz⟩,h4⟩:=h3;replace hz:=Fu hz;obtain⟨z,pz,rfl,hz⟩:=hz;obtain⟨g1,g2,_,_⟩:=G0 v g0;exact dR v.own v.calm (TH ts) (Sd v hf.fn h0 h1) (Jv v hz) g1 g2 rfl (Z_.ss W T X _ body v hf h4) (LJ h2) (NZ ts)
  |whl c body=>
    replace h:=cB h;obtain⟨t,xs,ys,pos,rfl,h⟩:=h;replace h:=Bt h;obtain⟨hn,h⟩:=h;obtain rfl:=FM hn;simp only[Al]at h;exact aA PZ v.own (E.b W T X _ c v h.1) (Z_.ss W T X _ body v hf h.2)
  |rais c as=>
    replace h:(!(T.rzs.any λp=>p.2==c)||(Na st λa b=>b.isNone&&(match a with|some e=>JV e λg x xs=>inX T.rzs g c&&glB T g&&Fw g&&decide (xs.length<=1000)&&chkEs n T (x::xs) as|none=>Ad)))=Ab:=h
    cases hc:T.rzs.any (λp=>p.2==c) with
    |false=>
      have hb:∀ ds,Z.xn c ds=.bad:=v.xt.xb c λp hp z=>by
        have:T.rzs.any (λp=>p.2==c)=Ab:=List.any_eq_true.mpr ⟨p,hp,AH.mpr z⟩
        rw[hc]at this;cases this
      intro Fz B pI s Y H D I ⟨U,x,p⟩;have p':Bx X.K CL Fz B W (O.of U (noX (evA Z U as)) λxs=>O.of U (Z.xn c xs) λx=>.exn x U) D:=p
      cases e1:evA Z U as with
      |bad=>rw[e1]at p';exact p'.elim
      |exn y=>rw[e1]at p';exact p'.elim
      |ok ds=>
        rw[e1]at p';have p2:Bx X.K CL Fz B W (O.of U (Z.xn c ds) λx=>.exn x U) D:=p'
        rw[hb ds]at p2;exact p2.elim
    |true=>
      rw[hc,Bool.not_true,Bool.false_or]at h;replace h:=cH h;obtain⟨ea,eb,pos,rfl,h⟩:=h;replace h:=Bt h;obtain⟨h0,h⟩:=h;obtain rfl:=DN.mp h0;cases ea with
      |none=>exact noF h
      |some e0=>
        replace h:=JS h;obtain⟨g,np,x,xs,cpos,rfl,h⟩:=h;simp only[Al,AE]at h;obtain⟨⟨⟨⟨h1,h2⟩,h3⟩,h4⟩,h5⟩:=h;obtain⟨C,m1,m2⟩:=v.xt.rz _ (JW h1);obtain⟨n2,_,_⟩:=F4 h3;obtain⟨s0,e,es',rfl,m,rfl,s1⟩:=IC h5;have q:=E.es W T X _ _ v h5;exact Y_9 v.calm hf.ex v.room v.rz (by unfold glB at h2;show X.env.scope.names.lookup g=_;rw[v.sc];exact eq_of_beq h2) m2 n2 m1 q.1 (λds=>v.xt.made c C ds m1) (Da s0) (Jp m xs es' s1) (λU ds z=>by rw[IE Z U _ _ z,<-q.2.2.1,A7];omega)
  |app i e=>
    replace h:=cJ h;obtain⟨x,px,m,ap,l,cp,pos,rfl,h2,h⟩:=h;replace h:=Fc h;obtain⟨v0,rfl,h⟩:=h;simp only[Al,AH]at h;obtain⟨⟨⟨rfl,h1⟩,h3⟩,h4⟩:=h;exact kC (Jv v h1) (E.e W T X _ e v h4).se rfl (by rw[Da h3];rfl) (by rw[h2];exact Du _) (Da h3) rfl
  |ext i e=>exact absurd (show Ad=Ab from h) Ay
  |rev i=>exact absurd (show Ad=Ab from h) Ay
  |clr i=>exact absurd (show Ad=Ab from h) Ay
  |put i k e=>exact absurd (show Ad=Ab from h) Ay
  |tryx body c x hd=>
    cases body with
    |nil=>exact noF h
    |cons b bs=>
      cases bs with
      |cons=>exact noF h
      |nil=>
        unfold L9 at h;dsimp only at h;cases q:Qd st with
        |none=>rw[q]at h;cases h
        |some t=>
          obtain⟨bt,hl,es⟩:=t;rw[q]at h;obtain⟨pos,rfl⟩:=eQ q;cases hl with
          |nil=>exact noF h
          |cons h1 hl=>
            cases hl with
            |cons=>exact noF h
            |nil=>
              cases es with
              |cons=>exact noF h
              |nil=>
                dsimp only at h;cases q1:xHd h1 with
                |none=>rw[q1]at h;cases h
                |some t1=>
                  obtain⟨g,m,h0,hs⟩:=t1;obtain⟨p1,hp,rfl⟩:=kM q1;rw[q1]at h;simp only[Al,AH]at h;obtain⟨⟨⟨⟨i1,i4⟩,i5⟩,i6⟩,i7⟩:=h;obtain⟨t1,t2⟩:=pN E v hf 6 i6;refine SS.ref (kA (up:=Z.up) (c:=c) (i:=x) hf.ex hf.st hf.fm (by rw[v.N];exact v.nd) (by rw[v.N];exact i4) (by rw[v.sc];exact i5) (oF v i1) t1 t2 (λe=>tN v hf e x n _ _ i7)) λU=>.inr ?_
                  rw[aR];unfold Vs;cases evSs Z U (.cons b .nil)<;>rfl
  |try2 body c x hd c' hd' els=>exact absurd (show Ad=Ab from h) Ay
  |swp i k l=>exact absurd (show Ad=Ab from h) Ay
  |apop j i e=>exact absurd (show Ad=Ab from h) Ay
  |ins i k e=>exact absurd (show Ad=Ab from h) Ay
  |dput=>exact noF h
  |dsd=>exact noF h
  |rel=>exact noF h
theorem cU{c:Ss}(h:Nw c=Ab)(U:Rho):evSs Z U c=.bad:=by
 cases c with
 |nil=>cases h
 |cons s ss=>
  cases s with
  |expr e=>
   cases e with
   |bi b as=>
    cases as with
    |nil=>
     cases b with
     |len=>rfl
     |_=>exact noF h
    |cons=>cases b<;>exact noF h
   |_=>exact noF h
  |_=>exact noF h
theorem jX(Z_:SndS Z CL k n)(W:XW)(T:Tc)(X:Cx)(xs:Ac AJ)(c:Ss)(v:VX Z CL k W T X)(hf:DefX X)(h:chkSs (n+1) T xs c=Ab):SSs X CL W xs (λU=>evSs Z U c):=by
 by_cases hb:Nw c=Ab
 .exact λFz B pI s Y H D I ⟨U,x,p⟩=>by
   dsimp only at p;rw[cU hb]at p;exact p.elim
 have hb:Nw c=Ad:=by simpa using hb
 cases c with
 |nil=>
  simp only[chkSs,hb,Ef,List.isEmpty_iff]at h;subst h;exact RW
 |cons s ss=>
  by_cases hr:∃ i,s=.rel i
  .obtain⟨i,rfl⟩:=hr;simp only[chkSs,hb,Ef]at h;exact dN i (Z_.ss W T X xs ss v hf h)
  .cases xs with
   |nil=>cases s<;>first|(simp[chkSs,hb]at h;done)|exact absurd ⟨_,rfl⟩ hr
   |cons st r=>
    have h':L9 n T st s=Ab/\chkSs n T r ss=Ab:=by
     cases s<;>first|(simp only[chkSs,hb,Ef,Al]at h;exact h)|exact absurd ⟨_,rfl⟩ hr
    exact OI (Z_.s W T X st s v hf h'.1) (Z_.ss W T X r ss v hf h'.2)
theorem P8:∀ n,SndS Z CL k n
 |0=>⟨λ_ _ _ _ _ _ _ h=>noF h,λ_ _ _ _ _ _ _ h=>noF h⟩
 |n+1=>⟨pE (P8 n),jX (P8 n)⟩
end
theorem Kl{n:Af}{ds:Ac D}{i:Af}{o:Am}(h:(Bz n ds)[i]?=Aa (Aa (d,o))):o=Ad/\ds[i]?=Aa d:=by
 unfold Bz at h;by_cases hi:i<ds.length
 .rw[Fj (by simpa using hi),Cn]at h
  cases e:ds[i]? with
  |none=>rw[e]at h;cases h
  |some x=>rw[e]at h;cases h;exact⟨rfl,rfl⟩
 .rw[V6 (by simpa using Nat.le_of_not_lt hi),V7]at h
  split at h<;>cases h
theorem Y_8{N:Ac Ag}{vs:Ac V}{i:Af}{v:V}(h:vs[i]?=Aa v):(L2.start N vs)[i]?=Aa (Aa v):=by
 unfold L2.start;have hi:=(A5.mp h).1;rw[Fj (by simpa using hi),Cn,h]
 rfl
theorem Z_6{N:Ac Ag}{n:Af}{vs:Ac V}{ds:Ac D}(hn:N.length=n)(hA:AOk H A)(r:Reps K CL H A vs ds):Sx K CL ⟨λb o=>H b=Aa o,λ_ _ _=>AW⟩ A (Bz n ds) (L2.start N vs) H:=by
 have own:∀ a,Bq A (Bz n ds) (L2.start N vs) a->A a:=λa h=>by
  rcases h with h|⟨j,d,h,_⟩
  .exact h
  .exact absurd (Kl h).1 (by decide)
 have hlen:(Bz n ds).length=(L2.start N vs).length:=by
  unfold Bz L2.start;simp only[BS,Bo,V9,r.length,hn]
 refine⟨⟨λi d h=>?_,λi d h _=>absurd (Kl h).1 (by decide),hlen⟩,λa h=>hA a (own a h),λj d a h _=>absurd (Kl h).1 (by decide),λi j d e a h _ _ _=>absurd (Kl h).1 (by decide),λb o h=>h,hlen,λj h=>absurd (Kl h).1 (by decide)⟩
 obtain⟨v,h1,h2⟩:=r.get (Kl h).2;exact⟨v,Y_8 h1,Rep.sub own _ h2⟩
structure FunX (K:Fg) (x qual:Ag) (st:AJ) (f:Ak) (fd:BE):Prop where
 ex:∃(oc:Aj)(od:Ao Ak)(dV kV doc pm:Aj)(an:Ao Ak)(cdv ct:Aj)(osl:Bg (Ao Aj)),
  fd=BX x qual (Go st) (Ew st) (BK st) dV kV doc pm an cdv ct/\K.lookup f=Aa ⟨oc,od,.func fd,osl⟩/\D0 K cdv qual=Ab
 kp:Bi K (.ref f)=Ab
theorem M0{st:AJ}{f:Ak}(F:Fun K x qual st f fd):FunX K x qual st f fd:=by
 obtain⟨oc,od,kV,doc,pm,an,cdv,ct,osl,e,lk,hcd⟩:=F.ex;exact⟨⟨oc,od,.none,kV,doc,pm,an,cdv,ct,osl,e,lk,hcd⟩,F.kp⟩
def K4(K:Fg)(mg:Ag->Ao Aj)(fns:Ac (Ag×Af×Af))(bl:Ac Ag)(rzs exs gls:Ac (Ag×Af))(Pg:Prg)(fuel:Af)(p:Ag×Af×Af):Prop:=∃ f fd ps qual st N,H9 K mg p.1=Aa (.ref f)/\(∃ x,FunX K x qual st f fd)/\EK K fd ps []/\ps.length=p.2.2%1000/\Gu fuel (Dl 1000 p.2.2) fns bl rzs exs gls ps N st (Pg.defs p.2.1)=Ab
noncomputable def Pu:AJ->Ao (An×An×AD)
  | .Assign ts v p=>(match ts with
    |[t]=>Aa (t,v,p)
    | _=>Ae)
  |_=>Ae
theorem RQ{e:AJ}{t:An×An×AD}(h:Pu e=Aa t):e=.Assign [t.1] t.2.1 t.2.2:=by
 cases e with
 |Assign ts v p=>
  cases ts with
  |nil=>exact nomatch (show Ae=Aa t from h)
  |cons a ts=>
   cases ts with
   |nil=>cases h;rfl
   |cons=>exact nomatch (show Ae=Aa t from h)
 |_=>exact nomatch (show Ae=Aa t from h)
noncomputable def Pt:An->Ao (An×Ag×AD)
 |.Attribute e x p=>Aa (e,x,p)
 |_=>Ae
theorem RP{e:An}{t:An×Ag×AD}(h:Pt e=Aa t):e=.Attribute t.1 t.2.1 t.2.2:=by
 cases e with
 |Attribute e x p=>cases h;rfl
 |_=>exact nomatch (show Ae=Aa t from h)
noncomputable def U_4(n:Af)(T:Tc)(b:Ac AJ):Ao DI:=(LW b).bind λs=>(Pu s.1).bind λt1=>(Pt t1.1).bind λa1=>(G4 a1.1).bind λs1=>(G4 t1.2.1).bind λq1=>(Pu s.2).bind λt2=>(Pt t2.1).bind λa2=>(G4 a2.1).bind λs2=>
 if (s1.1==("self" : Ag)&&(a1.2.1==("p" : Ag)&&(q1.1==("p" : Ag)&&(s2.1==("self" : Ag)&&(a2.2.1==("triple" : Ag)&&(IF t2.2.1&&Bb n T t2.2.1 (.call 17 (.cons (.var 1) (.cons (.var 2) .nil)))))))))=Ab then Aa () else Ae
theorem fQ{n:Af}{T:Tc}{b:Ac AJ}(h:U_4 n T b=Aa u):∃ p0 p1 p2 p3 p4 p5 p6 ev,b=[.Assign [.Attribute (.Name "self" p0) "p" p1] (.Name "p" p2) p6,.Assign [.Attribute (.Name "self" p3) "triple" p4] ev p5]/\IF ev=Ab/\Bb n T ev (.call 17 (.cons (.var 1) (.cons (.var 2) .nil)))=Ab:=by
 obtain⟨s,e1,h⟩:=Ax.mp h;obtain⟨t1,e2,h⟩:=Ax.mp h;obtain⟨a1,e3,h⟩:=Ax.mp h;obtain⟨s1,e4,h⟩:=Ax.mp h;obtain⟨q1,e5,h⟩:=Ax.mp h;obtain⟨t2,e6,h⟩:=Ax.mp h;obtain⟨a2,e7,h⟩:=Ax.mp h;obtain⟨s2,e8,h⟩:=Ax.mp h;split at h
 .rename_i hc;simp only[Al,AH]at hc;obtain⟨c1,c2,c3,c4,c5,c6,c7⟩:=hc;rw[MK e1,RQ e2,RP e3,HV e4,HV e5,RQ e6,RP e7,HV e8,c1,c2,c3,c4,c5];exact⟨_,_,_,_,_,_,_,_,rfl,c6,c7⟩
 .cases h
noncomputable def LX(fuel:Af)(fns:Ac (Ag×Af×Af))(bl:Ac Ag)(rzs exs gls:Ac (Ag×Af))(st:AJ):Am:=
 (BK st).kind==.function&&((BK st).isCoroutine==Ad&&((BK st).isGenerator==Ad&&((BK st).names.lookup ("self" : Ag)==Aa .local&&((BK st).names.lookup ("p" : Ag)==Aa .local&&((BK st).names.lookup ("numbers" : Ag)==Aa .local&&(((BK st).names.all λy=>y.2 != .free) &&
  (U_4 fuel ⟨BK st,["self", "p", "numbers"],fns,bl,rzs,exs,gls,Ab⟩ (Ew st)).isSome))))))
noncomputable def Jx(s:AJ)(j:Af):AJ:=match s with
  |.ClassDef _ _ _ b _ _ _ _ _ _ _=>b.getD j s
  |s=>s
def InR(K:Fg)(fns:Ac (Ag×Af×Af))(bl:Ac Ag)(rzs exs gls:Ac (Ag×Af))(Pg:Prg)(fuel:Af):Prop:=(∀ c,c<3->Pg.defs (900+c)=mkC c)/\Pg.defs 910=inC/\∃ f fd x qual st,FunX K x qual st f fd/\EK K fd ["self", "p", "numbers"] []/\LX fuel fns bl rzs exs gls st=Ab/\∀ c,c<3->∃ C,OC K c=Aa C/\Mk K C f
structure Tab (K:Fg) (mg:Ag->Ao Aj) (CL:ClA) (fns:Ac (Ag×Af×Af)) (bl:Ac Ag) (rzs exs gls:Ac (Ag×Af)) (Pg:Prg) (fuel:Af):Prop where
 os:OS K mg
 ini:InR K fns bl rzs exs gls Pg fuel
 xt:XT Pg.up Pg.xn CL rzs exs K mg
 bln:∀ x,x∈bl->mg x=Ae
 gl:∀ p∈gls,NB K mg CL p.1 (Pg.G p.2)
 fn:∀ p∈fns,K4 K mg fns bl rzs exs gls Pg fuel p
theorem nB(Pg:Prg)(n i:Af):(gam Pg n).fr i=(Pg.defs i).fr:=by cases n<;>rfl
theorem TL(Pg:Prg)(n:Af):(gam Pg n).up=Pg.up:=by cases n<;>rfl
theorem Ux(Pg:Prg)(n:Af):(gam Pg n).G=Pg.G:=by cases n<;>rfl
theorem TK(Pg:Prg)(n:Af):(gam Pg n).xn=Pg.xn:=by cases n<;>rfl
section
variable{P:AM}{w:AA}{K:Fg}{mg:Ag->Ao Aj}{base:AG}{CL:ClA}{fns:Ac (Ag×Af×Af)}{bl:Ac Ag}{rzs exs gls:Ac (Ag×Af)}{Pg:Prg}{fuel:Af}
def Lvl(P:AM)(w:AA)(K:Fg)(mg:Ag->Ao Aj)(base:AG)(CL:ClA)(Pg:Prg)(n:Af)(p:Ag×Af×Af):Prop:=∃ f fd ps,H9 K mg p.1=Aa (.ref f)/\Bi K (.ref f)=Ab/\EK K fd ps []/\ps.length=p.2.2%1000/\(p.2.2<1000->FnOk P w K mg base (CXR P w) n f fd ps (spD K CL (p.2.2%1000) ((gam Pg n).fr p.2.1) ((gam Pg n).F p.2.1)))/\(1000<=p.2.2->HotOk P w K mg base n f fd ps (spH K CL (p.2.2%1000) ((gam Pg n).fr p.2.1) ((gam Pg n).F p.2.1)))
theorem Tg(t:Tab K mg CL fns bl rzs exs gls Pg fuel){n:Af}(hlv:∀ q∈fns,Lvl P w K mg base CL Pg n q)(hmk:∀ c,c<3->MkR P w K mg base CL (gam Pg n).F n c){st:AJ}{f:Ak}{ps N:Ac Ag}{m id:Af}(h2:FunX K x qual st f fd)(h4:ps.length=m)(h5:Gu fuel Ad fns bl rzs exs gls ps N st (Pg.defs id)=Ab):FnOk P w K mg base (CXR P w) (n+1) f fd ps (spD K CL m ((gam Pg (n+1)).fr id) ((gam Pg (n+1)).F id)):=by
  unfold Gu at h5;simp only[Al,AH,Bs,Br,B8,Ha,K9]at h5;obtain⟨⟨⟨⟨⟨⟨⟨⟨c1,c2⟩,c3⟩,c4⟩,c5⟩,c6⟩,c7⟩,c8⟩,c9⟩:=h5;obtain⟨oc,od,dV,kV,doc,pm,an,cdv,ct,osl,rfl,lk,hcd⟩:=h2.ex;refine P0 (N:=N) lk hcd ⟨c1,c2,c3,Li c4,c5,c6,c7⟩ (λvs H Q E ⟨ds,A,z,_⟩=>z.trans h4.symm) λA outer s H vs Q E hr ⟨ds,B,hl,hA,hreps,hpost⟩=>?_
  have xt:XT (gam Pg n).up (gam Pg n).xn CL rzs exs K mg:=by rw[TL,TK];exact t.xt
  have gl:∀ p∈gls,NB K mg CL p.1 ((gam Pg n).G p.2):=by rw[Ux];exact t.gl
  have key:∀ W:XW,(∀ x cls dx H',W x H'->Fe K CL H' cls dx x->E cls dx H')->Bx K CL ⟨λb o=>H b=Aa o,λ_ _ _=>AW⟩ B W (evSs (gam Pg n) (Bz (Pg.defs id).n ds) (Pg.defs id).body) {nx:=λ_ H'=>Q .non H',rt:=Q} ->
      ∃ t,PSs (Fh (CXR P w) P w K mg base N qual (BK st) f cdv A outer s H E) (Ew st) t/\t {nx:=λ_ H'=>Q .non H',rt:=Q} (start N vs) H:=λW hW hp=>by
    have v:VX (gam Pg n) CL n W ⟨BK st,N,fns,bl,rzs,exs,gls,Ab⟩ (Fh (CXR P w) P w K mg base N qual (BK st) f cdv A outer s H E):=⟨rfl,c1,rfl,Li c4,rfl,hr,t.bln,t.os,hmk,hlv,ownR,Uo hW,rzR hW,fzR hW,xt,gl,λ_=>rfl⟩
    exact⟨_,(P8 fuel).ss W _ _ _ (Pg.defs id).body v ⟨λ_=>rfl,rfl,rfl,rfl⟩ c9 ⟨λb o=>H b=Aa o,λ_ _ _=>AW⟩ B,_,Z_6 c8 hA hreps,hp⟩
  have no:∀ x cls dx H',W0 x H'->Fe K CL H' cls dx x->E cls dx H':=λ_ _ _ _ z=>z.elim
  have e:(gam Pg (n+1)).F id ds=Fi Pg.xs ((evSs (gam Pg n) (Bz (Pg.defs id).n ds) (Pg.defs id).body).ans (Pg.defs id).fr):=rfl;rw[e,nB]at hpost;have cutO:∀ r:R D,(∀ x,r≠.exn x)->Fi Pg.xs r=r:=λr hr=>by
    cases Pg.xs<;>cases r<;>first|rfl|exact absurd rfl (hr _)
  cases eo:evSs (gam Pg n) (Bz (Pg.defs id).n ds) (Pg.defs id).body with
  |next U'=>
    refine key W0 no ?_;rw[eo]at hpost ⊢;cases ef:(Pg.defs id).fr with
    |true=>rw[ef]at hpost;rw[cutO _ (by intro x z;cases z)]at hpost;exact hpost.elim
    |false=>
      rw[ef]at hpost;rw[cutO _ (by intro x z;cases z)]at hpost
      exact λY' H' x'=>hpost .non H' (λb o z=>x'.same b o z) ⟨rfl,λz=>nomatch z⟩
  |ret d b=>
    refine key W0 no ?_;rw[eo]at hpost ⊢;intro v H' sm rp fr;have hp2:(match Fi Pg.xs (if ((Pg.defs id).fr&&(!b&&isL d))=Ab then R.bad else R.ok d) with
      |.ok d=>∀ v H',Az H H'->DB K CL (Pg.defs id).fr H B H' v d->Q v H'
      |.exn x=>∀ cls dx H',Az H H'->Fe K CL H' cls dx x->E cls dx H'
      | .bad=>AW):=hpost
    cases ec:((Pg.defs id).fr&&(!b&&isL d)) with
    |true=>rw[ec,At rfl,cutO _ (by intro x z;cases z)]at hp2;exact hp2.elim
    |false=>
      rw[ec,AC (by decide),cutO _ (by intro x z;cases z)]at hp2
      refine hp2 v H' sm ⟨rp,λefr es hd=>?_⟩
      subst hd;have eb:b=Ab:=by
        cases b with
        |true=>rfl
        |false=>rw[efr]at ec;cases ec
      obtain⟨a,xs,h1,h2,h3,h4⟩:=fr eb es rfl;refine⟨a,xs,h1,?_,h3,h4⟩;cases ha:H a with
      |none=>rfl
      |some o=>exact absurd ha (h2 o)
  |brk U'=>rw[eo]at hpost;have hp2:(match Fi Pg.xs (R.bad:R D) with | .ok _=>_ | .exn _=>_ | .bad=>AW):=hpost;rw[cutO _ (by intro x z;cases z)]at hp2;exact hp2.elim
  |cont U'=>rw[eo]at hpost;have hp2:(match Fi Pg.xs (R.bad:R D) with | .ok _=>_ | .exn _=>_ | .bad=>AW):=hpost;rw[cutO _ (by intro x z;cases z)]at hp2;exact hp2.elim
  |bad=>rw[eo]at hpost;have hp2:(match Fi Pg.xs (R.bad:R D) with | .ok _=>_ | .exn _=>_ | .bad=>AW):=hpost;rw[cutO _ (by intro x z;cases z)]at hp2;exact hp2.elim
  |exn x U'=>
    rw[eo]at hpost;have hp2:(match Fi Pg.xs (R.exn x:R D) with
      |.ok d=>∀ v H',Az H H'->DB K CL (Pg.defs id).fr H B H' v d->Q v H'
      |.exn x=>∀ cls dx H',Az H H'->Fe K CL H' cls dx x->E cls dx H'
      | .bad=>AW):=hpost
    cases ex:Pg.xs with
    |false=>rw[ex]at hp2;exact hp2.elim
    |true=>
      rw[ex]at hp2;have hp3:∀ cls dx H',Az H H'->Fe K CL H' cls dx x->E cls dx H':=hp2;refine key (λy H'=>y=x/\Az H H') (λy cls dx H' ⟨e1,sm⟩ xr=>?_) ?_
      · subst e1;exact hp3 cls dx H' sm xr
      · rw[eo];exact λH' sm=>⟨rfl,sm⟩
theorem oE(t:Tab K mg CL fns bl rzs exs gls Pg fuel){n:Af}(hlv:∀ q∈fns,Lvl P w K mg base CL Pg n q)(hmk:∀ c,c<3->MkR P w K mg base CL (gam Pg n).F n c){st:AJ}{f:Ak}{ps N:Ac Ag}{m id:Af}(h2:FunX K x qual st f fd)(h4:ps.length=m)(h5:Gu fuel Ab fns bl rzs exs gls ps N st (Pg.defs id)=Ab):HotOk P w K mg base (n+1) f fd ps (spH K CL m ((gam Pg (n+1)).fr id) ((gam Pg (n+1)).F id)):=by
 exfalso
 unfold Gu at h5;simp at h5
noncomputable def Gn(Pg:Prg)(n:Af):Ac D->R D
  | [d1,d2]=>(match (gam Pg n).F 17 [d1,d2] with
    |.ok t=>if nlD 5 t=Ab then .ok (.tup [d1,t]) else .bad
    | _=>.bad)
  |_=>.bad
theorem oK(Pg:Prg)(n:Af)(ds:Ac D)(y:Ex):Gn Pg n ds≠.exn y:=by
  match ds with
  |[]=>exact λz=>nomatch z
  |[_]=>exact λz=>nomatch z
  |_::_::_::_=>exact λz=>nomatch z
  |[d1,d2]=>
    show (match (gam Pg n).F 17 [d1,d2] with
      |.ok t=>if nlD 5 t=Ab then .ok (.tup [d1,t]) else .bad
      | _=>.bad:R D)≠.exn y
    split
    · split<;>exact λz=>nomatch z
    · exact λz=>nomatch z
theorem fJ(t:Tab K mg CL fns bl rzs exs gls Pg fuel){n:Af}(hlv:∀ q∈fns,Lvl P w K mg base CL Pg n q)(hmk:∀ c,c<3->MkR P w K mg base CL (gam Pg n).F n c){st:AJ}{f:Ak}(h2:FunX K x qual st f fd)(h5:LX fuel fns bl rzs exs gls st=Ab):
    FnOk P w K mg base (CXR P w) (n+1) f fd ["self", "p", "numbers"] (spI K CL (Gn Pg n)):=by
  unfold LX at h5;simp only[Al,AH,Br,Ha,K9]at h5;obtain⟨c1,c2,c3,c4,c5,c6,c7,c8⟩:=h5;obtain⟨u,c8⟩:=Co.mp c8;obtain⟨p0,p1,p2,p3,p4,p5,p6,ev,eb,hnc,hck⟩:=fQ c8;obtain⟨oc,od,dV,kV,doc,pm,an,cdv,ct,osl,rfl,lk,hcd⟩:=h2.ex;refine P0 (N:=["self", "p", "numbers"]) lk hcd ⟨c1,c2,c3,by decide,rfl,λy hy=>?_,c7⟩ (λvs H Q E ⟨x,C,dx,us,ds,A,H0,e,z,_⟩=>by rw[e,A7,z];rfl) λA outer s H vs Q E hr ⟨x,C,dx,us,ds,B,H0,e,hl,cl,np,nt,hx,h0,sm,hA,hreps,hpost⟩=>?_
  · rcases AI.mp hy with rfl|hy
    · exact .inl c4
    · rcases AI.mp hy with rfl|hy
      · exact .inl c5
      · rw[Bf.mp hy];exact .inl c6
  subst e;have xt:XT (gam Pg n).up (gam Pg n).xn CL rzs exs K mg:=by rw[TL,TK];exact t.xt
  have gl:∀ p∈gls,NB K mg CL p.1 ((gam Pg n).G p.2):=by rw[Ux];exact t.gl
  have no:∀ x cls dx H',W0 x H'->Fe K CL H' cls dx x->E cls dx H':=λ_ _ _ _ z=>z.elim
  have v:VX (gam Pg n) CL n W0 ⟨BK st,["self", "p", "numbers"],fns,bl,rzs,exs,gls,Ab⟩ (Fh (CXR P w) P w K mg base ["self", "p", "numbers"] qual (BK st) f cdv A outer s H E):=⟨rfl,c1,rfl,(show (["self", "p", "numbers"]:Ac Ag).Nodup by decide),rfl,hr,t.bln,t.os,hmk,hlv,ownR,Uo no,rzR no,fzR no,xt,gl,λ_=>rfl⟩
  match us,hl with
  |[v1,v2],_=>
    match ds,hreps with
    |[],r=>exact r.elim
    |[_],r=>exact r.2.elim
    |_::_::_::_,r=>exact r.2.2.elim
    |[d1,d2],r=>
      have sv:=((snd fuel).e W0 _ _ ev _ v hck).se;obtain⟨tt,pss,rd⟩:=Zx (H:=H) (H0:=H0) (x:=x) (C:=C) (dx:=dx) (v1:=v1) (v2:=v2) (d1:=d1) (d2:=d2) (A:=B) (Q:=Q) (Y:=L2.start ["self", "p", "numbers"] [.ref x,v1,v2]) (p0:=p0) (p1:=p1) (p2:=p2) (p3:=p3) (p4:=p4) (p5:=p5) (p6:=p6) (t0:=Fh (CXR P w) P w K mg base ["self", "p", "numbers"] qual (BK st) f cdv A outer s H E)
        (λp=>Kz rfl (.inl c4)) (λp=>Kz rfl (.inl c5)) sv (JU hnc)
      refine⟨tt,by rw[eb];exact pss,rd rfl cl np nt hx h0 sm hA r.1 r.2.1 ?_⟩
      have hp2:(match (match (gam Pg n).F 17 [d1,d2] with
          |.ok t=>if nlD 5 t=Ab then R.ok (D.tup [d1,t]) else .bad
          | _=>.bad) with
        |.ok d=>∀ e1 e2,d=.tup [e1,e2]->∀ v1 v2 H',Az H0 H'->H' x=Aa (.ins C dx [("p",v1),("triple",v2)])->Rep K CL H' B v1 e1->Rep K CL H' B v2 e2->Q .non H'
        | _=>AW):=hpost
      cases e17:(gam Pg n).F 17 [d1,d2] with
      |bad=>rw[e17]at hp2;exact hp2.elim
      |exn y=>rw[e17]at hp2;exact hp2.elim
      |ok t0=>
        rw[e17]at hp2;dsimp only at hp2;by_cases hn:nlD 5 t0=Ab
        · rw[At hn]at hp2;exact⟨t0,rfl,hn,λw1 w2 H' a b c d=>hp2 _ _ rfl w1 w2 H' a b c d⟩
        · rw[AC hn]at hp2;exact hp2.elim
theorem mkF:(mkC c).run Z [d1,d2]=(noX (Z.F 910 [d1,d2])).bind (EJ c):=by
 simp only[Df.run,mkC,Bz,aI,SY];show (O.seq (O.of _ ((noX ((Z.F 910 [d1,d2]).bind λd=>.ok d)).bind λx=>EJ c x) λd=>O.ret d _) _).ans Ad=_
 have nx:∀ d y,EJ c d≠.exn y:=λd y z=>by
  unfold EJ at z;split at z
  .split at z<;>cases z
  .cases z
 cases Z.F 910 [d1,d2] with
 |bad=>rfl
 |exn y=>rfl
 |ok d=>
  show (O.seq (O.of _ (EJ c d) λd=>O.ret d _) _).ans Ad=EJ c d
  cases e:EJ c d with
  |ok _=>rfl
  |bad=>rfl
  |exn y=>exact absurd e (nx d y)
theorem inF:noX (inC.run Z [d1,d2])=noX ((Z.F 17 [d1,d2]).bind λt=>.ok (.tup [d1,t])):=by
 simp[Df.run,inC,Bz];cases Z.F 17 [d1,d2]<;>rfl
theorem Ui(t:Tab K mg CL fns bl rzs exs gls Pg fuel):∀ n,(∀ m,m<=n->∀ q∈fns,Lvl P w K mg base CL Pg m q)->∀ c,c<3->MkR P w K mg base CL (gam Pg n).F n c:=by
  intro n
  induction n using Nat.strongRecOn with
  |ind n ih=>
    intro hl c hc;obtain⟨i1,i2,f,fd,x,qual,st,h2,h3,h5,h6⟩:=t.ini
    match n,ih,hl with
    |0,_,_=>exact .inl λds=>rfl
    |1,_,_=>
      refine .inl λds=>?_
      have e:(gam Pg 1).F (900+c) ds=Fi Pg.xs ((Pg.defs (900+c)).run (gam Pg 0) ds):=rfl;rw[e,i1 c hc];have e2:(mkC c).run (gam Pg 0) ds=.bad:=by
        match ds with
        |[]=>rfl
        |[_]=>rfl
        |_::_::_=>rfl
      rw[e2];cases Pg.xs<;>rfl
    |m+2,ih,hl=>
      obtain⟨C,o1,M⟩:=h6 c hc;refine .inr ⟨C,f,fd,Gn Pg m,m+1,o1,M,h3,rfl,fJ t (λq hq=>hl m (by omega) q hq) (ih m (by omega) λk hk=>hl k (by omega)) h2 h5,λds hd=>?_,oK Pg m⟩
      match ds,hd with
      |[d1,d2],_=>
        have cutN:∀ r:R D,noX (Fi Pg.xs r)=noX r:=λr=>by cases Pg.xs<;>cases r<;>rfl
        have e:(gam Pg (m+2)).F (900+c) [d1,d2]=Fi Pg.xs ((Pg.defs (900+c)).run (gam Pg (m+1)) [d1,d2]):=rfl;have e0:(gam Pg (m+1)).F 910 [d1,d2]=Fi Pg.xs ((Pg.defs 910).run (gam Pg m) [d1,d2]):=rfl;rw[e,i1 c hc,mkF,e0,i2,cutN,inF];cases e17:(gam Pg m).F 17 [d1,d2] with
        |bad=>refine .inl ?_;cases Pg.xs<;>rfl
        |exn y=>refine .inl ?_;cases Pg.xs<;>rfl
        |ok t0=>
          by_cases hn:nlD 5 t0=Ab
          · refine .inr ?_;have g:Gn Pg m [d1,d2]=.ok (.tup [d1,t0]):=by
              show (match (gam Pg m).F 17 [d1,d2] with
                |.ok t=>if nlD 5 t=Ab then .ok (.tup [d1,t]) else .bad
                | _=>.bad:R D)=_
              rw[e17];exact At hn
            rw[g];show Fi Pg.xs (EJ c (.tup [d1,t0]))=EJ c (.tup [d1,t0]);have:EJ c (.tup [d1,t0])=.ok (.obj c [("p",d1),("triple",t0)]):=At hn;rw[this];cases Pg.xs<;>rfl
          · refine .inl ?_;have:EJ c (.tup [d1,t0])=.bad:=AC hn;show Fi Pg.xs (EJ c (.tup [d1,t0]))=.bad;rw[this];cases Pg.xs<;>rfl
theorem Se(t:Tab K mg CL fns bl rzs exs gls Pg fuel):∀ n m,m<=n->∀ p∈fns,Lvl P w K mg base CL Pg m p:=by
 have zero:∀ p∈fns,Lvl P w K mg base CL Pg 0 p:=λp hp=>by
  obtain⟨f,fd,ps,qual,st,N,h1,⟨x0,h2⟩,h3,h4,h5⟩:=t.fn p hp;exact⟨f,fd,ps,h1,h2.kp,h3,h4,λ_=>⟨λvs H Q E ⟨ds,A,_,_,_,z⟩=>z.elim,λA outer s H args us vs Q E _ _ _ _ ⟨ds,A,_,_,_,z⟩=>z.elim⟩,λ_=>⟨λvs H Q E ⟨ds,A,_,_,_,z⟩=>z.elim,λA ev outer s H args us vs Q E _ _ _ _ ⟨ds,A,_,_,_,z⟩=>z.elim⟩⟩
 intro n
 induction n with
 |zero=>intro m hm p hp;obtain rfl:=Nat.le_zero.mp hm;exact zero p hp
 |succ n ih=>
  intro m hm p hp;by_cases hmn:m<=n
  .exact ih m hmn p hp
  .have:m=n+1:=by omega
   subst this;have mk:=Ui (P:=P) (w:=w) (base:=base) t n ih;obtain⟨f,fd,ps,qual,st,N,h1,⟨x0,h2⟩,h3,h4,h5⟩:=t.fn p hp;refine⟨f,fd,ps,h1,h2.kp,h3,h4,λhlt=>?_,λhge=>?_⟩
   .have eb:Dl 1000 p.2.2=Ad:=by
     cases e:Dl 1000 p.2.2 with
     |false=>rfl
     |true=>exact absurd (BD e) (by omega)
    rw[eb]at h5;exact Tg t (λq hq=>ih n (AL _) q hq) mk h2 h4 h5
   .rw[Nat.ble_eq_true_of_le hge]at h5;exact oE t (λq hq=>ih n (AL _) q hq) mk h2 h4 h5
theorem jQ(t:Tab K mg CL fns bl rzs exs gls Pg fuel)(n:Af):∀ p∈fns,Lvl P w K mg base CL Pg n p:=Se t n n (AL _)
theorem jR(t:Tab K mg CL fns bl rzs exs gls Pg fuel)(n:Af):∀ c,c<3->MkR P w K mg base CL (gam Pg n).F n c:=Ui t n (Se t n)
theorem nL{s s':Ap}{e:Aj}(h:CXR P w [] H s (λ_ _ _=>AW) e s'):AW:=by
 obtain⟨_,_,_,_,_,_,_,_,_,_,_,_,_,_,_,z⟩:=h;exact z
noncomputable def Vn:AJ->Ao (An×AD)
 |.Expr e p=>Aa (e,p)
 |_=>Ae
theorem eT{e:AJ}{t:An×AD}(h:Vn e=Aa t):e=.Expr t.1 t.2:=by
 cases e with
 |Expr x p=>cases h;rfl
 |_=>exact nomatch (show Ae=Aa t from h)
noncomputable def Vp:AJ->Ao (An×An×AD)
  | .Assign ts v p=>(match ts with
    |[t]=>Aa (t,v,p)
    | _=>Ae)
  |_=>Ae
theorem eV{e:AJ}{t:An×An×AD}(h:Vp e=Aa t):e=.Assign [t.1] t.2.1 t.2.2:=by
 cases e with
 |Assign ts v p=>
  cases ts with
  |nil=>exact nomatch (show Ae=Aa t from h)
  |cons a ts=>
   cases ts with
   |nil=>cases h;rfl
   |cons=>exact nomatch (show Ae=Aa t from h)
 |_=>exact nomatch (show Ae=Aa t from h)
noncomputable def Qf:An->Ao (An×Ag×AD)
 |.Attribute e x p=>Aa (e,x,p)
 |_=>Ae
theorem R5{e:An}{t:An×Ag×AD}(h:Qf e=Aa t):e=.Attribute t.1 t.2.1 t.2.2:=by
 cases e with
 |Attribute e x p=>cases h;rfl
 |_=>exact nomatch (show Ae=Aa t from h)
noncomputable def Vm:An->Ao (Ac An×AD)
 |.JoinedStr l p=>Aa (l,p)
 |_=>Ae
theorem eS{e:An}{t:Ac An×AD}(h:Vm e=Aa t):e=.JoinedStr t.1 t.2:=by
 cases e with
 |JoinedStr l p=>cases h;rfl
 |_=>exact nomatch (show Ae=Aa t from h)
noncomputable def Qe:An->Ao (An×Ah×AD)
  | .FormattedValue e n f p=>(match f with
    |none=>Aa (e,n,p)
    | _=>Ae)
  |_=>Ae
theorem R4{e:An}{t:An×Ah×AD}(h:Qe e=Aa t):e=.FormattedValue t.1 t.2.1 Ae t.2.2:=by
 cases e with
 |FormattedValue e n f p=>
  cases f with
  |none=>cases h;rfl
  |some=>exact nomatch (show Ae=Aa t from h)
 |_=>exact nomatch (show Ae=Aa t from h)
noncomputable def Nl:An->Ao (Ag×Af×AD)
  | .Constant c k p=>(match c with
    |.str z=>Aa (z,k,p)
    | _=>Ae)
  |_=>Ae
theorem OQ{e:An}{t:Ag×Af×AD}(h:Nl e=Aa t):e=.Constant (.str t.1) t.2.1 t.2.2:=by
 cases e with
 |Constant c k p=>
  cases c with
  |str z=>cases h;rfl
  |_=>exact nomatch (show Ae=Aa t from h)
 |_=>exact nomatch (show Ae=Aa t from h)
noncomputable def Vl{α:Type}:Ac α->Ao (α×α×α)
 |[a,b,c]=>Aa (a,b,c)
 |_=>Ae
theorem eR{l:Ac α}{t:α×α×α}(h:Vl l=Aa t):l=[t.1,t.2.1,t.2.2]:=by
  match l,h with
  |[a,b,c],h=>cases h;rfl
  |[],h=>cases h
  |[_],h=>cases h
  |[_,_],h=>cases h
  |_::_::_::_::_,h=>cases h
noncomputable def YI(par:Ag)(j:Ac An):Ao DI:=(LW j).bind λfk=>(Qe fk.1).bind λfm=>(G4 fm.1).bind λq1=>(Nl fk.2).bind λz=>if (q1.1==par&&(decide (fm.2.1=-1)&&Dl z.1.length 1000))=Ab then Aa () else Ae
noncomputable def YH(par:Ag)(j:Ac An):Ao DI:=(Vl j).bind λfk=>(Nl fk.1).bind λy=>(Qe fk.2.1).bind λfm=>(G4 fm.1).bind λq1=>(Nl fk.2.2).bind λz=>if (q1.1==par&&(decide (fm.2.1=-1)&&(Dl y.1.length 400&&Dl z.1.length 1000)))=Ab then Aa () else Ae
noncomputable def fsX(par:Ag)(e:An):Ao DI:=(Vm e).bind λj=>if ((YI par j.1).isSome||(YH par j.1).isSome)=Ab then Aa () else Ae
theorem nE{e:An}(h:fsX par e=Aa u):FsOk par e:=by
 obtain⟨j,e1,h⟩:=Ax.mp h;rw[eS e1];split at h
 .rename_i hc;rcases orT hc with hc|hc
  .obtain⟨_,h⟩:=Co.mp hc;obtain⟨fk,e2,h⟩:=Ax.mp h;obtain⟨fm,e3,h⟩:=Ax.mp h;obtain⟨q1,e4,h⟩:=Ax.mp h;obtain⟨z,e5,h⟩:=Ax.mp h;split at h
   .rename_i hc;simp only[Al,AH,AE]at hc;obtain⟨c1,c2,c3⟩:=hc;rw[MK e2,R4 e3,HV e4,OQ e5,c1,c2];exact nC (BD c3)
   .cases h
  .obtain⟨_,h⟩:=Co.mp hc;obtain⟨fk,e2,h⟩:=Ax.mp h;obtain⟨y,e6,h⟩:=Ax.mp h;obtain⟨fm,e3,h⟩:=Ax.mp h;obtain⟨q1,e4,h⟩:=Ax.mp h;obtain⟨z,e5,h⟩:=Ax.mp h;split at h
   .rename_i hc;simp only[Al,AH,AE]at hc;obtain⟨c1,c2,c4,c3⟩:=hc;rw[eR e2,OQ e6,R4 e3,HV e4,OQ e5,c1,c2];exact aO (BD c4) (BD c3)
   .cases h
 .cases h
noncomputable def VE(g par f:Ag)(b:Ac AJ):Ao DI:=(LW b).bind λs=>(Vn s.1).bind λc=>(Vo c.1).bind λcl=>(Qf cl.1).bind λat1=>(G4 at1.1).bind λg1=>(LW cl.2.1).bind λab=>(G4 ab.1).bind λs1=>(fsX par ab.2).bind λ_=>(Vp s.2).bind λt=>(Qf t.1).bind λat2=>(G4 at2.1).bind λs2=>(G4 t.2.1).bind λq2=>
 if (g1.1==g&&(at1.2.1==("__init__" : Ag)&&(s1.1==("self" : Ag)&&(s2.1==("self" : Ag)&&(at2.2.1==f&&(q2.1==par&&at1.2.2.endLine==cl.2.2.line))))))=Ab then Aa () else Ae
noncomputable def VF(g par f:Ag)(b:Ac AJ):Am:=(VE g par f b).isSome
theorem fK{g par f:Ag}{b:Ac AJ}(h:VF g par f b=Ab):∃ j np apos p1 cpos p6 p7 p8 p9 p10,b=Qj g par f j np apos p1 cpos p6 p7 p8 p9 p10/\(apos.endLine==cpos.line)=Ab/\FsOk par j:=by
 obtain⟨_,h⟩:=Co.mp (show (VE g par f b).isSome=Ab from h)
 obtain⟨s,e1,h⟩:=Ax.mp h;obtain⟨c,e2,h⟩:=Ax.mp h;obtain⟨cl,e3,h⟩:=Ax.mp h;obtain⟨at1,e4,h⟩:=Ax.mp h;obtain⟨g1,e5,h⟩:=Ax.mp h;obtain⟨ab,e6,h⟩:=Ax.mp h;obtain⟨s1,e7,h⟩:=Ax.mp h;obtain⟨_,e8,h⟩:=Ax.mp h;obtain⟨t,f4,h⟩:=Ax.mp h;obtain⟨at2,f5,h⟩:=Ax.mp h;obtain⟨s2,f6,h⟩:=Ax.mp h;obtain⟨q2,f7,h⟩:=Ax.mp h;split at h
 .rename_i hc;simp only[Al,AH,AE]at hc;obtain⟨c1,c2,c3,c6,c7,c8,h1⟩:=hc;rw[MK e1,eT e2,eU e3,R5 e4,HV e5,MK e6,HV e7,eV f4,R5 f5,HV f6,HV f7,c1,c2,c3,c6,c7,c8];exact⟨_,_,_,_,_,_,_,_,_,_,rfl,by rw[AH];exact h1,nE e8⟩
 .cases h
noncomputable def L7(g par f:Ag)(st:AJ):Am:=
 (BK st).kind==.function&&((BK st).isCoroutine==Ad&&((BK st).isGenerator==Ad&&(KA ["self",par]&&((BK st).names.lookup ("self" : Ag)==Aa .local&&((BK st).names.lookup par==Aa .local&&(((BK st).names.all λy=>y.2 != .free) &&
  ((BK st).names.lookup g==Aa .globalImplicit&&(g != ("__debug__" : Ag)&&(par != ("__debug__" : Ag)&&(par != ("__classdict__" : Ag)&&VF g par f (Ew st)))))))))))
noncomputable def UJ(s:AJ):AJ:=match s with
  |.ClassDef _ _ _ (b::_) _ _ _ _ _ _ _=>b
  |s=>s
def InI(K:Fg)(f:Ak)(qual:Ag)(st:AJ):Prop:=∃ fd,Fun K "__init__" qual st f fd
theorem ini_mk{st:AJ}{f:Ak}{oc:Aj}{kV doc pm cdv ct:Aj}(l:K.lookup f=Aa ⟨oc,od,.func (BX "__init__" qual (Go st) (Ew st) (BK st) .none kV doc pm an cdv ct),osl⟩)(c:D0 K cdv qual=Ab)(k:Bi K (.ref f)=Ab):InI K f qual st:=⟨_,O7 l c k⟩
theorem TQ{fI:Ak}{g par f qual:Ag}{st:AJ}(a:InI K fI qual st)(hk:L7 g par f st=Ab)(hb:∀(u0 u1 kV doc pm:Aj)(an:Ao Ak)(cdv ct:Aj),F2 (BX "__init__" qual (Go st) (Ew st) (BK st) .none kV doc pm an cdv ct) ⟨[u0,u1],[]⟩=pure ((["self",par]:Ac Ag).zip [u0,u1]))(xc:Db K C (Aa (.ref fI))=Ab)(dc:F9 K C=Ab)(ty:Dh K (.ref fI)=Aa (.type "function"))(mo:mg g=Aa (.ref OV))(s1:B2 K (.ref OV) "__getattribute__" = Aa (Aa (.builtin "type.__getattribute__")))(s2:Fo K OV (.type "type")=Ab)(s3:Fn K (.ref OV) (.type "type") "__init__" = Aa (.val (.builtin "ValueError.__init__")))(hf:Ar K (.ref C) f=Aa Ae)(hs:Ar K (.ref C) "__setattr__" = Aa (Aa (.builtin "object.__setattr__"))):XIn K mg C f:=by
 obtain⟨fd,fn⟩:=a;unfold L7 at hk;simp only[Al,AH,Br,Ha,K9]at hk;obtain⟨c1,c2,c3,c4,c5,c6,c7,c8,c9,c10,c11,c12⟩:=hk;obtain⟨j,np,apos,p1,cpos,p6,p7,p8,p9,p10,eb,hl,hz⟩:=fK c12;exact .mk xc dc fn ty ⟨c1,c2,c3,Li c4,rfl,λx hx=>by
  rcases AI.mp hx with rfl|hx
  .exact .inl c5
  .rw[Bf.mp hx];exact .inl c6,c7⟩ c5 c6 (fn.binds λkV doc pm an cdv ct us hu=>match us,hu with | [u0,u1],_=>hb u0 u1 kV doc pm an cdv ct) eb c8 mo (by simpa using c9) (by simpa using c10) (by simpa using c11) s1 s2 s3 hl hz hf hs
theorem rS(h:∀ ds,xn c ds=.bad\/xn c ds=.ok ⟨c,[]⟩)(e:Db K C Ae=Ab)(ds:Ac D):xn c ds=.bad\/(xn c ds=.ok ⟨c,[]⟩/\Db K C Ae=Ab)\/∃ f,XIn K mg C f/\J8 xn c f ds:=(h ds).imp id λz=>.inl ⟨z,e⟩
theorem rR{f:Ag}(h:∀ ds,xn c ds=mkX c f ds)(x:XIn K mg C f)(ds:Ac D):xn c ds=.bad\/(xn c ds=.ok ⟨c,[]⟩/\Db K C Ae=Ab)\/∃ f,XIn K mg C f/\J8 xn c f ds:=by
  have e:=h ds
  match ds,e with
  |[],e=>exact .inl e
  |_::_::_,e=>exact .inl e
  |[d],e=>
    have e':xn c [d]=if (xfD 1 d||xfD 2 d)=Ab then .ok ⟨c,[(f,d)]⟩ else .bad:=e
    by_cases z:(xfD 1 d||xfD 2 d)=Ab
    · rw[At z]at e';refine .inr (.inr ⟨f,x,d,?_⟩);rw[B8]at z;rcases z with z|z
      · exact⟨1,rfl,z,by decide,e'⟩
      · exact⟨2,rfl,z,by decide,e'⟩
    · rw[AC z]at e';exact .inl e'
theorem lB{f:Ag}(h:∀ ds,xn c ds=mkI c f ds)(x:XIn K mg C f)(ds:Ac D):xn c ds=.bad\/(xn c ds=.ok ⟨c,[]⟩/\Db K C Ae=Ab)\/∃ f,XIn K mg C f/\J8 xn c f ds:=by
  have e:=h ds
  match ds,e with
  |[],e=>exact .inl e
  |_::_::_,e=>exact .inl e
  |[d],e=>
    have e':xn c [d]=if xfD 0 d=Ab then .ok ⟨c,[(f,d)]⟩ else .bad:=e
    by_cases z:xfD 0 d=Ab
    · rw[At z]at e';exact .inr (.inr ⟨f,x,d,0,rfl,z,by decide,e'⟩)
    · rw[AC z]at e';exact .inl e'
theorem PH(dc:F9 K C=Ab)(h1:Ar K (.ref C) "triple" = Aa Ae)(h2:Ar K (.ref C) "points" = Aa Ae)(h3:Ar K (.ref C) "row" = Aa Ae)(f:Ag)(h:(f==("triple" : Ag)||(f==("points" : Ag)||f==("row" : Ag)))=Ab):F9 K C=Ab/\Ar K (.ref C) f=Aa Ae:=by
 rw[B8,B8]at h;rcases h with h|h|h
 .rw[eq_of_beq h];exact⟨dc,h1⟩
 .rw[eq_of_beq h];exact⟨dc,h2⟩
 .rw[eq_of_beq h];exact⟨dc,h3⟩
structure XA (K:Fg) (c:Ag) (x:Ak) (i:Ao Aj):Prop where
 n:Be K AR c=Aa (Aa (.ref x))
 y:Db K x i=Ab
 dc:F9 K x=Ab
 ft:Ar K (.ref x) "triple" = Aa Ae
 fp:Ar K (.ref x) "points" = Aa Ae
 fr:Ar K (.ref x) "row" = Aa Ae
 ok:XcOk K x
theorem xcls_l{x:Ak}(e:IZ K x [.type "ValueError",.type "Exception",.type "BaseException",.type "object"] "ValueError.__new__" = Ab):Db K x Ae=Ab:=eM e
theorem xa_mk{c:Ag}{x:Ak}{i:Ao Aj}(n:Be K AR c=Aa (Aa (.ref x)))(e:Db K x i=Ab)(dc:F9 K x=Ab)(ft:Ar K (.ref x) "triple" = Aa Ae)(fp:Ar K (.ref x) "points" = Aa Ae)(fr:Ar K (.ref x) "row" = Aa Ae)(ga:Ar K (.ref x) "__getattribute__" = Aa (Aa (.builtin "BaseException.__getattribute__")))(gt:Ar K (.ref x) "__getattr__" = Aa Ae)(cl:Ar K (.ref x) "__class__" = Aa (Aa (.builtin "object.__class__")))(ob:B7 K x (.type "object")=Aa Ab)(be:BF K (.ref x) (.type "BaseException")=Aa Ab)(sv:BF K (.ref x) (.type "ValueError")=Aa Ab):XA K c x i:=⟨n,e,dc,ft,fp,fr,pX e ga gt cl ob be sv⟩
structure XB (K:Fg) (c:Ag) (x i:Ak) (q:Ag) (st:AJ):Prop where
 fi:Ar K (.ref x) "__init__" = Aa (Aa (.ref i))
 a:XA K c x (Aa (.ref i))
 ii:InI K i q st
 ti:Dh K (.ref i)=Aa (.type "function")
 sn:Ar K (.ref x) "__setattr__" = Aa (Aa (.builtin "object.__setattr__"))
structure XE (K:Fg) (c:Ag) (x:Ak):Prop where
 n:Be K AR c=Aa (Aa (.ref x))
 cs:B7 K x (.type "object")=Aa Ab
 ty:Dh K (.ref x)=Aa (.type "type")
structure XO (K:Fg) (x:Ak):Prop where
 sa:B2 K (.ref x) "__getattribute__" = Aa (Aa (.builtin "type.__getattribute__"))
 sb:Fo K x (.type "type")=Ab
 sc:Fn K (.ref x) (.type "type") "__init__" = Aa (.val (.builtin "ValueError.__init__"))
def SuC(K:Fg)(C:Ak)(l:Ac (Ak×Am)):Prop:=∀ q∈l,BF K (.ref q.1) (.ref C)=Aa q.2
def KC(K:Fg)(C:Ak):Prop:=∀ x i v,Db K x i=Ab->BF K (.ref x) (.ref C)=Aa v->BW K (.ref x) (.ref C)=Aa v
theorem XA.kc{c:Ag}{x:Ak}{i:Ao Aj}(a:XA K c x i):KC K x:=λ_ _ _ y s=>fX y a.y s
theorem XE.kc{c:Ag}{x:Ak}(a:XE K c x):KC K x:=λ_ _ _ y s=>bG y a.cs a.ty s
noncomputable def clL:Ac (Af×Ak)->Af->Ao Ak
 |[],_=>Ae
 |p::r,c=>if Nat.beq c p.1=Ab then Aa p.2 else clL r c
theorem LG:∀{l:Ac (Af×Ak)},clL l c=Aa C->(c,C)∈l:=by
 intro l
 induction l with
 |nil=>intro q;cases q
 |cons p r ih=>
  intro q;obtain⟨n,x⟩:=p;by_cases e:Nat.beq c n=Ab
  .cases Nat.eq_of_beq_eq_true e;cases (show Aa x=Aa C from (At e).symm.trans q)
   exact AF
  .exact Aw _ (ih ((AC e).symm.trans q))
structure XR (K:Fg) (mg:Ag->Ao Aj) (xn:Af->Ac D->R Ex) (p:Af×Ak):Prop where
 ok:XcOk K p.2
 nf:∀ f:Ag,(f==("triple" : Ag)||(f==("points" : Ag)||f==("row" : Ag)))=Ab->F9 K p.2=Ab/\Ar K (.ref p.2) f=Aa Ae
 md:∀ ds,xn p.1 ds=.bad\/(xn p.1 ds=.ok ⟨p.1,[]⟩/\Db K p.2 Ae=Ab)\/∃ f,XIn K mg p.2 f/\J8 xn p.1 f ds
theorem XA.row{c:Ag}{x:Ak}(a:XA K c x Ae)(h:∀ ds,xn k ds=.bad\/xn k ds=.ok ⟨k,[]⟩):XR K mg xn (k,x):=⟨a.ok,PH a.dc a.ft a.fp a.fr,rS h a.y⟩
theorem XB.row{c:Ag}{x i o:Ak}{st:AJ}{g par f:Ag}(X:K.In h)(G:h.Ns AR mg)(b:XB K c x i q st)(w:XO K o)(no:Be K AR g=Aa (Aa (.ref o)))(hf:f = "triple"\/f = "points")(hk:L7 g par f st=Ab)(hb:∀(u0 u1 kV doc pm:Aj)(an:Ao Ak)(cdv ct:Aj),F2 (BX "__init__" q (Go st) (Ew st) (BK st) .none kV doc pm an cdv ct) ⟨[u0,u1],[]⟩=pure ((["self",par]:Ac Ag).zip [u0,u1]))(hx:∀ ds,xn k ds=mkX k f ds):XR K mg xn (k,x):=
 ⟨b.a.ok,PH b.a.dc b.a.ft b.a.fp b.a.fr,rR hx (TQ b.ii hk hb b.a.y b.a.dc b.ti (BM X G no) w.sa w.sb w.sc (by rcases hf with rfl|rfl;exact b.a.ft;exact b.a.fp) b.sn)⟩
theorem XB.rowI{c:Ag}{x i o:Ak}{st:AJ}(X:K.In h)(G:h.Ns AR mg)(b:XB K c x i q st)(w:XO K o)(no:Be K AR g=Aa (Aa (.ref o)))(hk:L7 g par "row" st=Ab)(hb:∀(u0 u1 kV doc pm:Aj)(an:Ao Ak)(cdv ct:Aj),F2 (BX "__init__" q (Go st) (Ew st) (BK st) .none kV doc pm an cdv ct) ⟨[u0,u1],[]⟩=pure ((["self",par]:Ac Ag).zip [u0,u1]))(hx:∀ ds,xn k ds=mkI k "row" ds):XR K mg xn (k,x):=
 ⟨b.a.ok,PH b.a.dc b.a.ft b.a.fp b.a.fr,lB hx (TQ b.ii hk hb b.a.y b.a.dc b.ti (BM X G no) w.sa w.sb w.sc b.a.fr b.sn)⟩
theorem pW{l:Ac (Af×Ak)}{rzs exs:Ac (Ag×Af)}(r:∀ p∈l,XR K mg xn p)(rz:∀ p∈rzs,∃ C,clL l p.2=Aa C/\mg p.1=Aa (.ref C))(ex:∀ p∈exs,∃ C,mg p.1=Aa (.ref C)/\KC K C/\SuC K C (l.map λq=>(q.2,(up q.1).contains p.2)))(xb:∀ c,(∀ p∈rzs,p.2≠c)->∀ ds,xn c ds=.bad):XT up xn (clL l) rzs exs K mg:=by
 refine⟨λc C q=>(r _ (LG q)).ok,rz,λp hp=>?_,λc C ds q=>(r _ (LG q)).md ds,λc C q=>(r _ (LG q)).nf,xb⟩
 obtain⟨C,e,kc,su⟩:=ex p hp;have s:∀ c D,clL l c=Aa D->BF K (.ref D) (.ref C)=Aa ((up c).contains p.2):=λc D q=>su _ (List.mem_map_of_mem (f:=λq:Af×Ak=>(q.2,(up q.1).contains p.2)) (LG q))
 exact⟨C,e,λc D q=>let ⟨_,y⟩:=(r _ (LG q)).ok.exc;kc _ _ _ y (s c D q),s⟩
def M4(K:Fg):Sp:=λvs H Q _=>∃(a:Ak)(ns:Ac Ah),vs=[.ref a]/\ns.length<=63/\SqL K H a (ns.map V.int)/\∀ v H',v=V.bl Ab->Q v H'
theorem law_fn{f:Ak}{F:Ac D->R D}(G:FnOk P w K mg base CX k f fd ps (spD K CL 1 Ad F))(h:∀ ns:Ac Ah,F [.lst (ns.map .int)]=.ok (.bl Ab)):FnOk P w K mg base CX k f fd ps (M4 K):=G.imp λvs H Q E ⟨a,ns,e,hl,hS,q⟩=>by
 subst e;have rs:∀ l:Ac Ah,Reps K CL H A0 (l.map V.int) (l.map D.int):=λl=>by
  induction l with
  |nil=>trivial
  |cons x l ih=>exact⟨rfl,ih⟩
 refine⟨[.lst (ns.map .int)],A0,rfl,λ_ z=>z.elim,⟨⟨a,_,rfl,.inl (λz=>z),hS,rs ns⟩,trivial⟩,?_⟩
 rw[h ns];exact λv H' _ r=>q v H' r.1
theorem all_nil{Q:α->Prop}:∀ x∈([]:Ac α),Q x:=λ_ h=>nomatch h
theorem all_cons{Q:α->Prop}{a:α}{l:Ac α}(h1:Q a)(h2:∀ x∈l,Q x):∀ x∈a::l,Q x:=List.forall_mem_cons.2 ⟨h1,h2⟩
def FnI(K:Fg)(f:Ak)(n:Ag)(st:AJ):Prop:=∃ fd,Fun K n n st f fd/\Be K AR n=Aa (Aa (.ref f))
theorem fni{n:Ag}{st:AJ}{f:Ak}{oc:Aj}{kV doc pm cdv ct:Aj}(a:Be K AR n=Aa (Aa (.ref f)))(l:K.lookup f=Aa ⟨oc,od,.func (BX n n (Go st) (Ew st) (BK st) .none kV doc pm an cdv ct),osl⟩)(c:D0 K cdv n=Ab)(k:Bi K (.ref f)=Ab):FnI K f n st:=⟨_,O7 l c k,a⟩
def Bd(n:Ag)(st:AJ)(ps:Ac Ag)(us:Ac Aj):Prop:=∀(kV doc pm:Aj)(an:Ao Ak)(cdv ct:Aj),F2 (BX n n (Go st) (Ew st) (BK st) .none kV doc pm an cdv ct) ⟨us,[]⟩=pure (ps.zip us)
theorem bE(h:mg x=v)(e:GL.lookup x=Ae):H9 K mg x=v:=by
 unfold H9;rw[e];exact h
def MeI(K:Fg)(f:Ak)(m q:Ag)(st:AJ):Prop:=∃ fd,Fun K m q st f fd
theorem mei{m q:Ag}{st:AJ}{f:Ak}{oc:Aj}{kV doc pm cdv ct:Aj}(l:K.lookup f=Aa ⟨oc,od,.func (BX m q (Go st) (Ew st) (BK st) .none kV doc pm an cdv ct),osl⟩)(c:D0 K cdv q=Ab)(k:Bi K (.ref f)=Ab):MeI K f m q st:=⟨_,O7 l c k⟩
theorem Nn{key m q:Ag}{C f:Ak}{st:AJ}{N:Ac Ag}(id:Af)(hk:GL.lookup key=Aa (c,m))(hC:OC K c=Aa C)(hf:Ar K (.ref C) m=Aa (Aa (.ref f)))(A:MeI K f m q st)(hc:Gu fuel Ad fns bl rzs exs gls ["self"] N st (Pg.defs id)=Ab)(hb:∀(u0 kV doc pm:Aj)(an:Ao Ak)(cdv ct:Aj),F2 (BX m q (Go st) (Ew st) (BK st) .none kV doc pm an cdv ct) ⟨[u0],[]⟩=pure ((["self"]:Ac Ag).zip [u0])):K4 K mg fns bl rzs exs gls Pg fuel (key,id,1):=by
 obtain⟨fd,F⟩:=A;refine⟨_,_,["self"],_,_,_,?_,⟨_,M0 F⟩,F.binds λkV doc pm an cdv ct us hu=>match us,hu with | [u0],_=>hb u0 kV doc pm an cdv ct,rfl,hc⟩
 unfold H9;rw[show GL.lookup (key,id,1).1=Aa (c,m) from hk]
 dsimp only;rw[hC];show (Ar K (.ref C) m).join=_;rw[hf];rfl
structure OA (K:Fg) (n:Ag) (C t s f:Ak):Prop where
 n:Be K AR n=Aa (Aa (.ref C))
 o:OCls K C
 ft:Ar K (.ref C) "told" = Aa (Aa (.ref t))
 fs:Ar K (.ref C) "shown" = Aa (Aa (.ref s))
 nt:Dx K (.ref t)=Ab
 ns:Dx K (.ref s)=Ab
 m:Mk K C f
theorem oa_mk{n:Ag}{C t s f:Ak}(n1:Be K AR n=Aa (Aa (.ref C)))(i:Ar K (.ref C) "__init__" = Aa (Aa (.ref f)))(ft:Ar K (.ref C) "told" = Aa (Aa (.ref t)))(fs:Ar K (.ref C) "shown" = Aa (Aa (.ref s)))(pg:ER K C Do=Ab)(hd:FK K C=Ab)(po:G9 K C=Ab)(sa:Ar K (.ref C) "__setattr__" = Aa (Aa (.builtin "object.__setattr__")))(np:Ar K (.ref C) "p" = Aa Ae)(nt:Ar K (.ref C) "triple" = Aa Ae)(ha:Ar K (.ref C) "__class__" = Aa (Aa (.builtin "object.__class__")))(hn:B2 K (.builtin "object.__class__") "__get__" = Aa (Aa (.builtin "getset_descriptor.__get__")))(htk:HM K (.builtin "object.__class__")=Aa Ab)(hm:B7 K C (.type "object")=Aa Ab)(t1:Dx K (.ref t)=Ab)(s1:Dx K (.ref s)=Ab)(mk:HK K C=Ab)(f1:Dx K (.ref f)=Ab)(kp:Bi K (.ref C)=Ab):OA K n C t s f:=
 ⟨n1,⟨⟨pg,hd,po,sa⟩,np,nt,ha,hn,htk,hm⟩,ft,fs,t1,s1,⟨mk,i,f1,kp⟩⟩
theorem HZ(h:c<3)(n:Be K AR (Nv c)=Aa (Aa (.ref C))):OC K c=Aa C:=by
 unfold OC;rw[At h,n]
def KtC(K:Fg)(C:Ak)(l:Ac (Ak×Am)):Prop:=∀ q∈l,BW K (.ref C) (.ref q.1)=Aa q.2
theorem sX{C0 C1 C2 t0 t1 t2 s0 s1 s2 f:Ak}(X:K.In h)(G:h.Ns AR mg)(a0:OA K "Triple" C0 t0 s0 f)(a1:OA K "Point" C1 t1 s1 f)(a2:OA K "Line" C2 t2 s2 f)(k0:KtC K C0 [(C0,Ab),(C1,Ad),(C2,Ad)])(k1:KtC K C1 [(C0,Ab),(C1,Ab),(C2,Ad)])(k2:KtC K C2 [(C0,Ab),(C1,Ad),(C2,Ab)]):OS K mg:=by
  have e0:OC K 0=Aa C0:=HZ (by decide) a0.n
  have e1:OC K 1=Aa C1:=HZ (by decide) a1.n
  have e2:OC K 2=Aa C2:=HZ (by decide) a2.n
  have three:∀ c C,OC K c=Aa C->(c=0/\C=C0)\/(c=1/\C=C1)\/(c=2/\C=C2):=λc C e=>by
    match c,e with
    |0,e=>exact .inl ⟨rfl,(Bl (e0.symm.trans e)).symm⟩
    |1,e=>exact .inr (.inl ⟨rfl,(Bl (e1.symm.trans e)).symm⟩)
    |2,e=>exact .inr (.inr ⟨rfl,(Bl (e2.symm.trans e)).symm⟩)
    |n+3,e=>
      unfold OC at e;rw[AC (by omega)]at e
      cases e
  have fu:∀{f f':Ak}{r:Ao (Ao Aj)},r=Aa (Aa (.ref f))->r=Aa (Aa (.ref f'))->f'=f:=λa b=>by rw[a]at b;cases b;rfl
  refine⟨λc C e=>?_,λc C c' C' e e'=>?_,λc hc=>?_,λc C m f' e hm hf=>?_⟩
  · rcases three c C e with ⟨rfl,rfl⟩|⟨rfl,rfl⟩|⟨rfl,rfl⟩
    · exact a0.o
    · exact a1.o
    · exact a2.o
  · rcases three c C e with ⟨rfl,rfl⟩|⟨rfl,rfl⟩|⟨rfl,rfl⟩<;>rcases three c' C' e' with ⟨rfl,rfl⟩|⟨rfl,rfl⟩|⟨rfl,rfl⟩
    · exact k0 (_,Ab) (by simp)
    · exact k0 (_,Ad) (by simp)
    · exact k0 (_,Ad) (by simp)
    · exact k1 (_,Ab) (by simp)
    · exact k1 (_,Ab) (by simp)
    · exact k1 (_,Ad) (by simp)
    · exact k2 (_,Ab) (by simp)
    · exact k2 (_,Ad) (by simp)
    · exact k2 (_,Ab) (by simp)
  · match c,hc with
    |0,_=>exact⟨_,e0,BM X G a0.n⟩
    |1,_=>exact⟨_,e1,BM X G a1.n⟩
    |2,_=>exact⟨_,e2,BM X G a2.n⟩
    |n+3,h=>omega
  · rcases orT hm with z|z
    · obtain rfl:=eq_of_beq z;rcases three c C e with ⟨rfl,rfl⟩|⟨rfl,rfl⟩|⟨rfl,rfl⟩
      · rw[fu a0.ft hf];exact a0.nt
      · rw[fu a1.ft hf];exact a1.nt
      · rw[fu a2.ft hf];exact a2.nt
    · obtain rfl:=eq_of_beq z;rcases three c C e with ⟨rfl,rfl⟩|⟨rfl,rfl⟩|⟨rfl,rfl⟩
      · rw[fu a0.fs hf];exact a0.ns
      · rw[fu a1.fs hf];exact a1.ns
      · rw[fu a2.fs hf];exact a2.ns
theorem tH{C0 C1 C2 t0 t1 t2 s0 s1 s2 f:Ak}{st:AJ}(a0:OA K "Triple" C0 t0 s0 f)(a1:OA K "Point" C1 t1 s1 f)(a2:OA K "Line" C2 t2 s2 f)(A:InI K f q st)(hc:LX fuel fns bl rzs exs gls st=Ab)(d0:Pg.defs 900=mkC 0)(d1:Pg.defs 901=mkC 1)(d2:Pg.defs 902=mkC 2)(d3:Pg.defs 910=inC)(hb:∀(u0 u1 u2 kV doc pm:Aj)(an:Ao Ak)(cdv ct:Aj),F2 (BX "__init__" q (Go st) (Ew st) (BK st) .none kV doc pm an cdv ct) ⟨[u0,u1,u2],[]⟩=pure ((["self", "p", "numbers"]:Ac Ag).zip [u0,u1,u2])):InR K fns bl rzs exs gls Pg fuel:=by
  obtain⟨fd,F⟩:=A;refine⟨λc hc=>?_,d3,f,fd,_,q,st,M0 F,F.binds λkV doc pm an cdv ct us hu=>match us,hu with | [u0,u1,u2],_=>hb u0 u1 u2 kV doc pm an cdv ct,hc,λc hc=>?_⟩
  · match c,hc with
    |0,_=>exact d0
    |1,_=>exact d1
    |2,_=>exact d2
    |n+3,h=>omega
  · match c,hc with
    |0,_=>exact⟨_,HZ (by decide) a0.n,a0.m⟩
    |1,_=>exact⟨_,HZ (by decide) a1.n,a1.m⟩
    |2,_=>exact⟨_,HZ (by decide) a2.n,a2.m⟩
    |n+3,h=>omega
theorem Pd{n:Ag}{f:Ak}{st:AJ}{ps N:Ac Ag}(m id:Af)(hm:GL.lookup n=Ae)(X:K.In h)(G:h.Ns AR mg)(A:FnI K f n st)(hl:ps.length=m%1000)(hc:Gu fuel (Dl 1000 m) fns bl rzs exs gls ps N st (Pg.defs id)=Ab)(hb:∀ us:Ac Aj,us.length=ps.length->Bd n st ps us):K4 K mg fns bl rzs exs gls Pg fuel (n,id,m):=by
 obtain⟨fd,F,a⟩:=A;exact⟨_,_,_,_,_,_,bE (BM X G a) hm,⟨_,M0 F⟩,F.binds λkV doc pm an cdv ct us hu=>hb us hu kV doc pm an cdv ct,hl,hc⟩
theorem Qm{l:Ac α}(h:l.length=0):l=[]:=List.eq_nil_of_length_eq_zero h
theorem KW{l:Ac α}{n:Af}(h:l.length=n+1):∃ a r,l=a::r/\r.length=n:=by
 cases l with
 |nil=>cases h
 |cons a r=>exact⟨a,r,rfl,Nat.succ.inj h⟩
theorem Qo{n:Ag}{f:Ak}{st:AJ}{N:Ac Ag}(m id:Af)(hm:GL.lookup n=Ae)(X:K.In h)(G:h.Ns AR mg)(A:FnI K f n st)(hl:1=m%1000)(hc:Gu fuel (Dl 1000 m) fns bl rzs exs gls [x0] N st (Pg.defs id)=Ab)(hb:∀ u0,Bd n st [x0] [u0]):K4 K mg fns bl rzs exs gls Pg fuel (n,id,m):=
 Pd (ps:=[x0]) m id hm X G A hl hc λus hu=>by obtain⟨u0,v0,rfl,h0⟩:=KW hu;obtain rfl:=Qm h0;exact hb u0
theorem F8{n:Ag}{f:Ak}{st:AJ}{N:Ac Ag}{x1:Ag}(m id:Af)(hm:GL.lookup n=Ae)(X:K.In h)(G:h.Ns AR mg)(A:FnI K f n st)(hl:2=m%1000)(hc:Gu fuel (Dl 1000 m) fns bl rzs exs gls [x0,x1] N st (Pg.defs id)=Ab)(hb:∀ u0 u1,Bd n st [x0,x1] [u0,u1]):K4 K mg fns bl rzs exs gls Pg fuel (n,id,m):=
 Pd (ps:=[x0,x1]) m id hm X G A hl hc λus hu=>by obtain⟨u0,v0,rfl,h0⟩:=KW hu;obtain⟨u1,v1,rfl,h1⟩:=KW h0;obtain rfl:=Qm h1;exact hb u0 u1
theorem No{n:Ag}{f:Ak}{st:AJ}{N:Ac Ag}{x1 x2:Ag}(m id:Af)(hm:GL.lookup n=Ae)(X:K.In h)(G:h.Ns AR mg)(A:FnI K f n st)(hl:3=m%1000)(hc:Gu fuel (Dl 1000 m) fns bl rzs exs gls [x0,x1,x2] N st (Pg.defs id)=Ab)(hb:∀ u0 u1 u2,Bd n st [x0,x1,x2] [u0,u1,u2]):K4 K mg fns bl rzs exs gls Pg fuel (n,id,m):=
 Pd (ps:=[x0,x1,x2]) m id hm X G A hl hc λus hu=>by obtain⟨u0,v0,rfl,h0⟩:=KW hu;obtain⟨u1,v1,rfl,h1⟩:=KW h0;obtain⟨u2,v2,rfl,h2⟩:=KW h1;obtain rfl:=Qm h2;exact hb u0 u1 u2
end
end Ov
namespace OvC
open PySem Ov
variable{p:Ah}{xs:Ac Ah}{n:Af}{w x:Ag}{ws:Ac Ag}{s:Am}
noncomputable abbrev tr(a b c:Ah):D:=.tup [.int a,.int b,.int c]
noncomputable def det(a0 a1 a2 b0 b1 b2 c0 c1 c2:Ah):Ah:=a0*(b1*c2-b2*c1)-a1*(b0*c2-b2*c0)+a2*(b0*c1-b1*c0)
def Sm(x:Ah):Prop:=0<=x/\x<11
theorem mo{x:Ah}(h:Sm x)(y:Ah):FP x y=Ab:=MH (by have:=h.1;omega) (by have:=h.2;omega)
theorem Sm.of(h:P4 p)(x:Ah):Sm (x%p):=⟨B9 _ (by have:=h.pos;omega),by have:=BR x h.pos;have:=h.hi;omega⟩
theorem QS{body:D->Rho->O}(I:Rho->Prop)(g:Ah->Am):∀(L:Ac Ah),(∀ t∈L,∀ U,I U->(g t=Ab/\body (.int t) U=.ret (.int t) Ad)\/(g t=Ad/\∃ U',body (.int t) U=.next U'/\I U'))->∀ U,I U->(∃ t∈L,g t=Ab/\Dk body (L.map D.int) U=.ret (.int t) Ad)\/((∀ t∈L,g t=Ad)/\∃ U',Dk body (L.map D.int) U=.next U'/\I U')
 |[],_,U,i=>.inr ⟨(λ_ h=>nomatch h),U,rfl,i⟩
 |m::L,h,U,i=>by
  rcases h m (AF ..) U i with ⟨e1,e2⟩|⟨e1,U',e2,i'⟩
  .refine .inl ⟨m,AF ..,e1,?_⟩;show (body (.int m) U).turn _=_;rw[e2];rfl
  .rcases QS I g L (λm' h'=>h m' (Aw _ h')) U' i' with ⟨t,ht,a,b⟩|⟨a,r,b,c⟩
   .refine .inl ⟨t,Aw _ ht,a,?_⟩;show (body (.int m) U).turn _=_;rw[e2];exact b
   .refine .inr ⟨λt ht=>?_,r,?_,c⟩
    .rcases AI.mp ht with rfl|ht
     .exact e1
     .exact a t ht
    .show (body (.int m) U).turn _=_;rw[e2];exact b
noncomputable def Km:Ss:=(.cons (.ife (.cmp .Eq (.call 1 (.cons (.var 0) (.cons (.bin .Mult (.var 1) (.var 2)) .nil))) (.int 1)) (.cons (.ret (.var 2)) .nil) .nil) .nil)
noncomputable def Mc:Df:=⟨3,Ad,(.cons (.fors 2 (.rng2 (.int 1) (.var 0)) Km) (.cons (.rais 2 (.cons (.str (Ai "a number with the rest 0 is not turned over")) .nil)) .nil))⟩
noncomputable def Gv(p:Ah):Ac Ah:=(Ba (p-1).toNat).map fun(k:Af)=>1+(k:Ah)
theorem Kq{t:Ah}:t∈Gv p↔1<=t/\t<p:=by
 unfold Gv;rw[List.mem_map];constructor
 .rintro⟨k,hk,rfl⟩;have:=Ds.mp hk;omega
 .rintro⟨h1,h2⟩;exact⟨(t-1).toNat,Ds.mpr (by omega),by omega⟩
theorem RU(h:P4 p):Ee 1 p=.ok ((Gv p).map D.int):=by
 rcases h with rfl|rfl|rfl|rfl<;>rfl
theorem fH:∀ p:Fin 12,(p.val=3\/p.val=5\/p.val=7\/p.val=11)->∀ r:Fin 12,r.val<p.val->r.val≠0->∃ t:Fin 12,1<=t.val/\t.val<p.val/\r.val*t.val%p.val=1:=by decide+kernel
theorem LK{n:Ah}(h:P4 p)(hn:n%p≠0):∃ t,1<=t/\t<p/\n*t%p=1:=by
 have p0:0<p/\p<12:=by rcases h with rfl|rfl|rfl|rfl<;>decide
 obtain⟨q,rfl⟩:∃ q:Af,p=q:=⟨p.toNat,by omega⟩
 have h0:=B9 n (b:=(q:Ah)) (by omega)
 have h1:=BR n p0.1;obtain⟨r,hr⟩:∃ r:Af,n%(q:Ah)=r:=⟨(n%(q:Ah)).toNat,by omega⟩
 obtain⟨t,t1,t2,t3⟩:=fH ⟨q,by omega⟩ (by rcases h with e|e|e|e<;>simp<;>omega) ⟨r,by omega⟩ (by show r<q;omega) (by show r≠0;omega)
 refine⟨(t.val:Ah),by omega,by show (t.val:Ah)<q;exact Int.ofNat_lt.mpr t2,?_⟩
 have e:((r*t.val%q:Af):Ah)=1:=by rw[show r*t.val%q=1 from t3];rfl
 rw[<-e,Int.natCast_emod,Int.natCast_mul,<-hr];exact(CW n _ _).trans (by rw[CW (n%(q:Ah)) (t.val:Ah) (q:Ah),CH n (EC _)])
def IW(p n t:Ah):Prop:=1<=t/\t<p/\n*t%p=1
theorem Rm{n t u:Ah}(h1:IW p n t)(h2:IW p n u):t=u:=by
 have hp:1<p:=by have:=h1.1;have:=h1.2.1;omega
 have e:t%p=u%p:=by
  have a:t%p=t*(n*u)%p:=by rw[CW,h2.2.2,VS,CH _ (EC p)]
  have b:u%p=(n*t)*u%p:=by rw[CW (n*t) u p,h1.2.2,GN,CH _ (EC p)]
  rw[a,b]
  congr 1
  rw[<-GW,ED t n]
 rw[BO (by have:=h1.1;omega) h1.2.1,BO (by have:=h2.1;omega) h2.2.1]at e
 exact e
theorem MN{c x:Ah}(hp:P4 p)(hc:c%p≠0)(hx:x%p≠0):c*x%p≠0:=λz=>by
 obtain⟨t,_,_,e⟩:=LK hp hc;refine hx ?_;have e1:x%p=(c*t)*x%p:=by rw[CW (c*t) x p,e,GN,CH _ (EC p)]
 rw[e1,show c*t*x=t*(c*x) by rw[ED c t,GW],CW,z,VT,EZ]
noncomputable def CO(p:Ah):Ac Ah->Ao Ah
 |[]=>Ae
 |x::xs=>if x%p=0 then CO p xs else Aa (x%p)
theorem Ml{p:Ah}:∀{xs:Ac Ah},CO p xs=Ae↔∀ x∈xs,x%p=0
 |[]=>by simp[CO]
 |x::xs=>by
  unfold CO;by_cases h:x%p=0
  .rw[At h,Ml (xs:=xs)];simp[h]
  .rw[AC h];simp[h]
theorem Mj{p l:Ah}(hp:0<p):∀{xs:Ac Ah},CO p xs=Aa l->l%p≠0/\0<l/\l<p
 |[],h=>by cases h
 |x::xs,h=>by
  unfold CO at h;by_cases hx:x%p=0
  .rw[At hx]at h;exact Mj hp h
  .rw[AC hx]at h;cases h;have h0:=B9 x (b:=p) (by omega)
   have h1:=BR x hp;exact⟨by rw[CH _ (EC p)];exact hx,by omega,h1⟩
theorem RC{p c:Ah}(hp:P4 p)(hc:c%p≠0){f:Ah->Ah}(hf:∀ x,f x%p=c*x%p):∀ xs:Ac Ah,CO p (xs.map f)=(CO p xs).map λl=>c*l%p
 |[]=>rfl
 |x::xs=>by
  rw[A4];unfold CO;rw[hf x];by_cases hx:x%p=0
  .rw[At hx,At (by rw[CW,hx,VT,EZ]),RC hp hc hf xs]
  .rw[AC hx,AC (MN hp hc hx),Wp]
   congr 1
   rw[CW c (x%p),CH _ (EC p),<-CW]
noncomputable def ds(xs:Ac Ah):Ac D:=xs.map D.int
noncomputable def EV(b:Am)(xs:Ac Ah):D:=if b=Ab then .tup (ds xs) else .lst (ds xs)
theorem Zv(b xs):Ey (EV b xs)=.ok (ds xs):=by unfold EV;cases b<;>rfl
theorem Lj{g:D->R Am}{f:D->R D}{φ:Ah->Ah}:∀(xs:Ac Ah),(∀ x∈xs,g (.int x)=.ok Ab/\f (.int x)=.ok (.int (φ x)))->Bv g f (ds xs)=.ok (ds (xs.map φ))
 |[],_=>rfl
 |x::xs,h=>by
  obtain⟨h1,h2⟩:=h x (AF ..);show (g (.int x)).bind _=_;rw[h1,R.bind_ok,At rfl,h2,R.bind_ok];show (Bv g f (ds xs)).bind _=_;rw[Lj xs λy hy=>h y (Aw _ hy)]
  rfl
noncomputable def DS:E:=(.bl Ab)
noncomputable def NI:E:=(.call 1 (.cons (.var 0) (.cons (.var 5) .nil)))
noncomputable def NH:E:=(.call 1 (.cons (.var 0) (.cons (.bin .Mult (.var 4) (.var 6)) .nil)))
noncomputable def Ht:Ss:=(.cons (.ife (.cmp .NotEq (.var 3) (.int 0)) (.cons (.asg 4 Ad (.call 9 (.cons (.var 0) (.cons (.var 3) .nil)))) (.cons (.ret (.bi .tuple (.cons (.comp NH 6 (.e (.var 2)) DS) .nil))) .nil)) .nil) .nil)
noncomputable def Mr:Df:=⟨7,Ad,(.cons (.asg 2 Ad (.comp NI 5 (.e (.var 1)) DS)) (.cons (.fors 3 (.e (.var 2)) Ht) (.cons (.rais 3 (.cons (.str (Ai "all the numbers have the rest 0")) .nil)) .nil)))⟩
noncomputable def fmI(p t:Ah)(xs:Ac Ah):Ac Ah:=xs.map λx=>t*(x%p)%p
section
variable{Z:Gam}{p:Ah}{xs:Ac Ah}{b:Am}
end
noncomputable def NP:E:=(.bin .Mod (.var 5) (.var 1))
noncomputable def NL:E:=(.cmp .Gt (.var 6) (.int 0))
noncomputable def NO:E:=(.var 6)
noncomputable def NK:E:=(.cmp .Eq (.bin .Mod (.bin .Mult (.var 7) (.idx (.var 3) (.int 0))) (.var 1)) (.int 1))
noncomputable def NN:E:=(.var 7)
noncomputable def NM:E:=(.bin .Mod (.bin .Mult (.var 8) (.var 4)) (.var 1))
noncomputable def Ln:Df:=⟨9,Ad,(.cons (.asg 2 Ad (.comp NP 5 (.e (.var 0)) DS)) (.cons (.asg 3 Ad (.comp NO 6 (.e (.var 2)) NL)) (.cons (.ife (.cmp .Eq (.bi .len (.cons (.var 3) .nil)) (.int 0)) (.cons (.ret .non) .nil) .nil) (.cons (.asg 4 Ad (.idx (.comp NN 7 (.rng2 (.int 1) (.var 1)) NK) (.int 0))) (.cons (.ret (.bi .tuple (.cons (.comp NM 8 (.e (.var 2)) DS) .nil))) .nil)))))⟩
theorem N5{g:D->R Am}{f:D->R D}{q:Ah->Am}:∀(xs:Ac Ah),(∀ x∈xs,g (.int x)=.ok (q x)/\f (.int x)=.ok (.int x))->Bv g f (ds xs)=.ok (ds (xs.filter q))
 |[],_=>rfl
 |x::xs,h=>by
  obtain⟨h1,h2⟩:=h x (AF ..);have ih:=N5 xs λy hy=>h y (Aw _ hy)
  show (g (.int x)).bind _=_;rw[h1,R.bind_ok];cases hq:q x with
  |true=>
   rw[At rfl,h2,R.bind_ok,Hg,hq,At rfl];show (Bv g f (ds xs)).bind _=_;rw[ih];rfl
  |false=>
   rw[AC (by decide),Hg,hq,AC (by decide)]
   exact ih
theorem QD{p:Ah}(hp:0<p):∀(xs:Ac Ah),((xs.map λx=>x%p).filter λr=>decide (0<r)).head?=CO p xs
 |[]=>rfl
 |x::xs=>by
  have h0:=B9 x (b:=p) (by omega)
  unfold CO;rw[A4,Hg];by_cases h:x%p=0
  .rw[At h,AC (by simp[h]),QD hp xs]
  .rw[AC h,At (by simp;omega)]
   rfl
theorem Zq{p l t:Ah}(it:IW p l t):((Gv p).filter λk=>decide (k*l%p=1)).head?=Aa t:=by
 have hm:t∈(Gv p).filter λk=>decide (k*l%p=1):=Gf.mpr ⟨Kq.mpr ⟨it.1,it.2.1⟩,by simp[ED t l,it.2.2]⟩
 cases e:(Gv p).filter λk=>decide (k*l%p=1) with
 |nil=>rw[e]at hm;cases hm
 |cons u us=>
  have hu:u∈(Gv p).filter λk=>decide (k*l%p=1):=by rw[e];exact AF ..
  obtain⟨h1,h2⟩:=Gf.mp hu;obtain⟨a,b⟩:=Kq.mp h1;have h3:u*l%p=1:=by simpa using h2
  rw[Rm it ⟨a,b,by rw[ED];exact h3⟩]
  rfl
theorem Rs{l:Ah}(h:xs.head?=Aa l):CP (ds xs) 0=.ok (.int l):=by
 cases xs with
 |nil=>cases h
 |cons x xs=>cases h;exact OG (by omega) rfl
theorem gA(Z:Gam)(hp:P4 p):(CO p xs=Ae->Ln.run Z [.lst (ds xs),.int p]=.ok .non)/\(∀ l t,CO p xs=Aa l->IW p l t->Ln.run Z [.lst (ds xs),.int p]=.ok (.tup (ds (fmI p t xs)))):=by
 have p0:=hp.pos;have ph:=hp.hi;have c1:Bv (cG Z [sh (.lst (ds xs)),si p,Ae,Ae,Ae,Ae,Ae,Ae,Ae] 5 DS) (cF Z [sh (.lst (ds xs)),si p,Ae,Ae,Ae,Ae,Ae,Ae,Ae] 5 NP) (ds xs)=.ok (ds (xs.map λx=>x%p)):=by
  refine Lj xs λx _=>⟨rfl,?_⟩
  simp[cF,NP,p0]
 generalize hR:(xs.map λx=>x%p)=rs at c1
 have c2:Bv (cG Z [sh (.lst (ds xs)),si p,sh (.lst (ds rs)),Ae,Ae,Ae,Ae,Ae,Ae] 6 NL) (cF Z [sh (.lst (ds xs)),si p,sh (.lst (ds rs)),Ae,Ae,Ae,Ae,Ae,Ae] 6 NO) (ds rs)=.ok (ds (rs.filter λr=>decide (0<r))):=by
  refine N5 rs λx _=>⟨?_,?_⟩
  .simp[cG,NL]
  .simp[cF,NO]
 have hl:=QD p0 xs;rw[hR]at hl;generalize hL:(rs.filter λr=>decide (0<r))=ls at c2 hl
 have dl:(ds ls).length=ls.length:=Bo ..;refine⟨λz=>?_,λl t e it=>?_⟩
 .rw[z]at hl;have:ls=[]:=List.head?_eq_none_iff.mp hl;subst this;simp[Ln,Df.run,Bz,c1,c2,dl]
 .rw[e]at hl;have hne:ls≠[]:=by rintro rfl;cases hl
  have hlen:(ls.length:Ah)≠0:=by have:=Gx.mpr hne;omega
  have g0:=Rs hl;obtain⟨_,l0,l1⟩:=Mj p0 e;have c3:Bv (cG Z [sh (.lst (ds xs)),si p,sh (.lst (ds rs)),sh (.lst (ds ls)),Ae,Ae,Ae,Ae,Ae] 7 NK) (cF Z [sh (.lst (ds xs)),si p,sh (.lst (ds rs)),sh (.lst (ds ls)),Ae,Ae,Ae,Ae,Ae] 7 NN) (ds (Gv p))=.ok (ds ((Gv p).filter λk=>decide (k*l%p=1))):=by
   refine N5 (Gv p) λx hx=>⟨?_,?_⟩
   .obtain⟨x1,x2⟩:=Kq.mp hx;have m:FP x l=Ab:=MH (by omega) (by omega)
    simp[cG,NK,g0,m,p0];rw[Eh];simp
   .simp[cF,NN]
  have g1:=Rs (Zq it);have c4:Bv (cG Z [sh (.lst (ds xs)),si p,sh (.lst (ds rs)),sh (.lst (ds ls)),si t,Ae,Ae,Ae,Ae] 8 DS) (cF Z [sh (.lst (ds xs)),si p,sh (.lst (ds rs)),sh (.lst (ds ls)),si t,Ae,Ae,Ae,Ae] 8 NM) (ds rs)=.ok (ds (rs.map λr=>t*r%p)):=by
   refine Lj rs λx _=>⟨rfl,?_⟩
   have m:FP x t=Ab:=Sy (by have:=it.1;omega) (by have:=it.2.1;omega)
   simp[cF,NM,m,p0,ED]
  have ru:Ee 1 p=.ok (ds (Gv p)):=RU hp;have fe:fmI p t xs=rs.map λr=>t*r%p:=by rw[<-hR];simp[fmI,Wb,VO]
  simp[Ln,Df.run,Bz,c1,c2,dl,hlen,hne,ru,c3,g1,c4,fe]
noncomputable abbrev own(xs:Ac Ah):Sl:=Aa (.lst (ds xs),Ab)
section
variable{Z:Gam}{ns:Ac Ah}{a1 a2 a4 a6 a7 a8 a9 b0 b1 b2 b3 b4:Sl}{p:Ah}
end
section
variable{Z:Gam}{ns:Ac Ah}{a1 a4 a6 a7 a8 a9 b2 b3 b4:Sl}{p m:Ah}{xs:Ac Ah}
end
def Cg(p x y:Ah):Prop:=x%p=y%p
section
variable{p a b c d:Ah}
theorem Cg.rfl:Cg p a a:=Eq.refl _
theorem Cg.of(h:a=b):Cg p a b:=by unfold Cg;rw[h]
theorem Cg.trans{a b c:Ah}(h:Cg p a b)(g:Cg p b c):Cg p a c:=Eq.trans h g
theorem Cg.symm(h:Cg p a b):Cg p b a:=Eq.symm h
theorem Cg.add(h:Cg p a b)(g:Cg p c d):Cg p (a+c) (b+d):=by unfold Cg at *;rw[VP,h,g,<-VP]
theorem Cg.mul(h:Cg p a b)(g:Cg p c d):Cg p (a*c) (b*d):=by unfold Cg at *;rw[CW,h,g,<-CW]
end
theorem P4.m1(h:P4 p):(-1:Ah)%p≠0:=by rcases h with rfl|rfl|rfl|rfl<;>decide
theorem P4.o1(h:P4 p):(1:Ah)%p≠0:=by rcases h with rfl|rfl|rfl|rfl<;>decide
abbrev R3:=Ah×Ah×Ah
variable{a q:R3}
noncomputable def LY(a:R3):D:=.lst [.int a.1,.int a.2.1,.int a.2.2]
@[simp]theorem Zps(a:R3)(U:Rho):DV (Aa (LY a,Ab)::U) 0=.ok (LY a):=rfl
noncomputable def L3(a b c:R3):Ah:=det a.1 a.2.1 a.2.2 b.1 b.2.1 b.2.2 c.1 c.2.1 c.2.2
def In3(p:Ah)(a:R3):Prop:=(0<=a.1/\a.1<p)/\(0<=a.2.1/\a.2.1<p)/\(0<=a.2.2/\a.2.2<p)
structure GoodR (p:Ah) (a b c:R3):Prop where
 p4:P4 p
 ia:In3 p a
 ib:In3 p b
 ic:In3 p c
 nz:L3 a b c%p≠0
theorem GoodR.of{k:Ah}{a b c a' b' c':R3}(h:GoodR p a b c)(hk:k%p≠0)(e:Cg p (L3 a' b' c') (k*L3 a b c))(hin:In3 p a'/\In3 p b'/\In3 p c'):GoodR p a' b' c':=⟨h.p4,hin.1,hin.2.1,hin.2.2,by rw[show L3 a' b' c'%p=_ from e];exact MN h.p4 hk h.nz⟩
noncomputable abbrev ownR(a b c:R3):Sl:=Aa (.lst [LY a,LY b,LY c],Ab)
section
variable{Z:Gam}{ns:Ac Ah}{at_ many s5 s0 s1 s2:Sl}{p t m:Ah}{a b c:R3}
end
section
variable{Z:Gam}{ns:Ac Ah}{many s5 s6 s7 s8 s9 s0 s1 s2:Sl}{p:Ah}{a b c:R3}
end
def Bd(n:Af)(x:Ah):Prop:=x.natAbs<2 ^ n
theorem Bd.mul{m:Af}{x y:Ah}(h:Bd m x)(g:Bd n y):Bd (m+n) (x*y):=by
 unfold Bd at *;rw[Int.natAbs_mul,Nat.pow_add];exact Nat.mul_lt_mul'' h g
def B3(a:R3):Prop:=Bd 300 a.1/\Bd 300 a.2.1/\Bd 300 a.2.2
noncomputable def Ck(q:Am)(a:R3):D:=EV q [a.1,a.2.1,a.2.2]
section
variable{Z:Gam}{ns:Ac Ah}{p t:Ah}{a b c r:R3}{made s6 s7:Sl}
end
section
variable{Z:Gam}{ns:Ac Ah}{p m:Ah}{a b c:R3}{fa fb fc:R3}{q:Am}{s9 s0 s1 s2:Sl}
end
def N9(Z:Gam):Prop:=∀ p n:Ah,P4 p->n%p≠0->∃ t,1<=t/\t<p/\n*t%p=1/\Z.F 9 [.int p,.int n]=.ok (.int t)
def O0(Z:Gam):Prop:=∀(p:Ah)(b:Am)(xs:Ac Ah)(l t:Ah),P4 p->CO p xs=Aa l->IW p l t->Z.F 17 [.int p,EV b xs]=.ok (.tup (ds (fmI p t xs)))
theorem ZM{Z:Gam}(hr:MR Z)(p n:Ah)(hp:P4 p)(z:n%p≠0):∃ t,1<=t/\t<p/\n*t%p=1/\Mc.run Z [.int p,.int n]=.ok (.int t):=by
 have p0:=hp.pos;have ph:=hp.hi;have body:∀ t∈Gv p,∀ U,(∃ s,U=[si p,si n,s])->(decide (n*t%p=1)=Ab/\Dz Z 2 Km (.int t) U=.ret (.int t) Ad)\/(decide (n*t%p=1)=Ad/\∃ U',Dz Z 2 Km (.int t) U=.next U'/\∃ s,U'=[si p,si n,s]):=by
  rintro t ht U ⟨s,rfl⟩;obtain⟨t1,t2⟩:=Kq.mp ht;have m:FP n t=Ab:=Sy (by omega) (by omega)
  by_cases e:n*t%p=1
  .exact .inl ⟨by simp[e],by simp[Dz,Km,hr p (n*t) p0,m,e,Dq]⟩
  .exact .inr ⟨by simp[e],_,by simp[Dz,Km,hr p (n*t) p0,m,e];rfl,_,rfl⟩
 have run:∀ o,Dk (Dz Z 2 Km) ((Gv p).map D.int) [si p,si n,Ae]=o->Mc.run Z [.int p,.int n]=(GM Z (.cons (.rais 2 (.cons (.str (Ai "a number with the rest 0 is not turned over")) .nil)) .nil) o).ans Ad:=by
  rintro o rfl;simp[Mc,Df.run,Bz,RU hp]
 rcases QS (λU=>∃ s,U=[si p,si n,s]) (λt=>decide (n*t%p=1)) (Gv p) body [si p,si n,Ae] ⟨_,rfl⟩ with ⟨t,ht,a,b⟩|⟨a,r,b,s,rfl⟩
 .obtain⟨t1,t2⟩:=Kq.mp ht;have a':n*t%p=1:=by simpa using a
  exact⟨t,t1,t2,a',by rw[run _ b];rfl⟩
 .obtain⟨t,t1,t2,e⟩:=LK hp z;have:=a t (Kq.mpr ⟨t1,t2⟩);simp[e]at this
section
variable{Z:Gam}{p:Ah}{xs:Ac Ah}{b:Am}
theorem RB(hr:MR Z)(ht:N9 Z)(hp:P4 p)(rs:Ac Ah):∀(ys:Ac Ah),(∀ y∈ys,0<=y/\y<p)->∀ s3,(CO p ys=Ae->∃ s3',Dk (Dz Z 3 Ht) (ds ys) [si p,sh (EV b xs),sh (.lst (ds rs)),s3,Ae,Ae,Ae]=.next [si p,sh (EV b xs),sh (.lst (ds rs)),s3',Ae,Ae,Ae])/\(∀ l t,CO p ys=Aa l->IW p l t->Dk (Dz Z 3 Ht) (ds ys) [si p,sh (EV b xs),sh (.lst (ds rs)),s3,Ae,Ae,Ae]=.ret (.tup (ds (rs.map λr=>t*r%p))) Ad)
 |[],_,s3=>⟨λ_=>⟨s3,rfl⟩,(λl t h=>nomatch h)⟩
 |y::ys,hy,s3=>by
  obtain⟨y0,y1⟩:=hy y (AF ..);have ym:y%p=y:=BO y0 y1;have ih:=RB hr ht hp rs ys (λz hz=>hy z (Aw _ hz)) (si y)
  have step:∀ o,Dz Z 3 Ht (.int y) [si p,sh (EV b xs),sh (.lst (ds rs)),s3,Ae,Ae,Ae]=o->Dk (Dz Z 3 Ht) (ds (y::ys)) [si p,sh (EV b xs),sh (.lst (ds rs)),s3,Ae,Ae,Ae]=o.turn (Dk (Dz Z 3 Ht) (ds ys)):=by
   rintro o rfl;rfl
  unfold CO;rw[ym];by_cases hz:y=0
  .have e:Dz Z 3 Ht (.int y) [si p,sh (EV b xs),sh (.lst (ds rs)),s3,Ae,Ae,Ae]=.next [si p,sh (EV b xs),sh (.lst (ds rs)),si y,Ae,Ae,Ae]:=by
    simp[Dz,Ht,hz]
   rw[At hz,step _ e];exact ih
  .rw[AC hz];refine⟨(λz=>nomatch z),λl t e it=>?_⟩
   cases e;obtain⟨u,u1,u2,u3,u4⟩:=ht p y hp (by rw[ym];exact hz)
   have:t=u:=Rm it ⟨u1,u2,u3⟩;subst this;have p0:=hp.pos;have ph:=hp.hi;have cp:Bv (cG Z [si p,sh (EV b xs),sh (.lst (ds rs)),si y,si t,Ae,Ae] 6 DS) (cF Z [si p,sh (EV b xs),sh (.lst (ds rs)),si y,si t,Ae,Ae] 6 NH) (ds rs)=.ok (ds (rs.map λr=>t*r%p)):=by
    refine Lj rs λr _=>⟨rfl,?_⟩
    have m:FP t r=Ab:=MH (by omega) (by omega)
    simp[cF,NH,m,hr p (t*r) p0]
   have e:Dz Z 3 Ht (.int y) [si p,sh (EV b xs),sh (.lst (ds rs)),s3,Ae,Ae,Ae]=.ret (.tup (ds (rs.map λr=>t*r%p))) Ad:=by
    simp[Dz,Ht,hz,u4,cp,Dq]
   rw[step _ e];rfl
theorem gB(hr:MR Z)(ht:N9 Z)(hp:P4 p){l t:Ah}(e:CO p xs=Aa l)(it:IW p l t):Mr.run Z [.int p,EV b xs]=.ok (.tup (ds (fmI p t xs))):=by
 have p0:=hp.pos;have cp:Bv (cG Z [si p,sh (EV b xs),Ae,Ae,Ae,Ae,Ae] 5 DS) (cF Z [si p,sh (EV b xs),Ae,Ae,Ae,Ae,Ae] 5 NI) (ds xs)=.ok (ds (xs.map λx=>x%p)):=by
  refine Lj xs λx _=>⟨rfl,?_⟩
  simp[cF,NI,hr p x p0]
 have run:∀ o,Dk (Dz Z 3 Ht) (ds (xs.map λx=>x%p)) [si p,sh (EV b xs),sh (.lst (ds (xs.map λx=>x%p))),Ae,Ae,Ae,Ae]=o->Mr.run Z [.int p,EV b xs]=(GM Z (.cons (.rais 3 (.cons (.str (Ai "all the numbers have the rest 0")) .nil)) .nil) o).ans Ad:=by
  rintro o rfl;simp[Mr,Df.run,Bz,Zv,cp]
 have le:CO p (xs.map λx=>x%p)=CO p xs:=by
  have:=RC (c:=1) hp (by rcases hp with rfl|rfl|rfl|rfl<;>decide) (f:=λx=>x%p) (λx=>by rw[GN,CH _ (EC p)]) xs
  rw[this];cases e:CO p xs with
  |none=>rfl
  |some l=>
   obtain⟨_,l0,l1⟩:=Mj p0 e;simp[BO (Int.le_of_lt l0) l1]
 obtain⟨a,c⟩:=RB (b:=b) (xs:=xs) hr ht hp (xs.map λx=>x%p) (xs.map λx=>x%p) (λy hy=>by
  obtain⟨x,_,rfl⟩:=Wc.mp hy;exact⟨B9 _ (by omega),BR _ p0⟩) Ae
 rw[le]at a c;rw[run _ (c l t e it)];simp[fmI,Wb,VO]
end
theorem kD(q:Am)(a:R3):Ey (Ck q a)=.ok [.int a.1,.int a.2.1,.int a.2.2]:=by cases q<;>rfl
noncomputable def L6(a b c:R3):R3:=(a.1,b.1,c.1)
noncomputable def L5(a b c:R3):R3:=(a.2.1,b.2.1,c.2.1)
noncomputable def L4(a b c:R3):R3:=(a.2.2,b.2.2,c.2.2)
noncomputable def JB(a x:R3):Ah:=a.1*x.1+a.2.1*x.2.1+a.2.2*x.2.2
theorem S2:∀ xs ys:Ac Ah,eqDs (ds xs) (ds ys)=decide (xs=ys)
 |[],[]=>rfl
 |[],_::_=>rfl
 |_::_,[]=>rfl
 |x::xs,y::ys=>by
  show ((x==y)&&eqDs (ds xs) (ds ys))=_;rw[S2 xs ys,Eh];simp
theorem nJ(a b:R3):eqD (Ck Ab a) (Ck Ab b)=decide (a=b):=by
 show eqDs (ds [a.1,a.2.1,a.2.2]) (ds [b.1,b.2.1,b.2.2])=_;rw[S2,Eh];simp only[List.cons.injEq,and_true,AE];exact⟨λ⟨h1,h2,h3⟩=>by obtain⟨a1,a2,a3⟩:=a;obtain⟨b1,b2,b3⟩:=b;simp at h1 h2 h3;rw[h1,h2,h3],λh=>by rw[h];exact⟨rfl,rfl,rfl⟩⟩
theorem tI{x:Ah}(hp:P4 p)(h0:0<=x)(h1:x<p):Bd 10 x:=by
 unfold Bd;have:=hp.hi;omega
theorem Bd.mono{m:Af}{x:Ah}(h:Bd m x)(hm:m<=n):Bd n x:=AQ h (Nat.pow_le_pow_right (by decide) hm)
def Bn(n:Af)(a:R3):Prop:=Bd n a.1/\Bd n a.2.1/\Bd n a.2.2
theorem Bn.b3(h:Bn n a)(hn:n<=300):B3 a:=⟨h.1.mono hn,h.2.1.mono hn,h.2.2.mono hn⟩
noncomputable def GH(k:Ah)(a:R3):R3:=(k*a.1,k*a.2.1,k*a.2.2)
noncomputable def fk0(p:Ah)(a b c d:R3):Ah:=L3 d b c%p
noncomputable def fs0(p:Ah)(a b c d:R3):R3:=GH (fk0 p a b c d) a
def CgR(p:Ah)(x y:R3):Prop:=Cg p x.1 y.1/\Cg p x.2.1 y.2.1/\Cg p x.2.2 y.2.2
section
variable{p:Ah}{a b c a' b' c' x y z x':R3}{k l m k':Ah}
theorem CgR.rfl:CgR p a a:=⟨Cg.rfl,Cg.rfl,Cg.rfl⟩
theorem CgR.of(h:a=b):CgR p a b:=by rw[h];exact CgR.rfl
theorem CgR.trans(h:CgR p a b)(g:CgR p b c):CgR p a c:=⟨h.1.trans g.1,h.2.1.trans g.2.1,h.2.2.trans g.2.2⟩
theorem CgR.symm(h:CgR p a b):CgR p b a:=⟨h.1.symm,h.2.1.symm,h.2.2.symm⟩
theorem CgR.sc(hk:Cg p k k')(h:CgR p a b):CgR p (GH k a) (GH k' b):=⟨hk.mul h.1,hk.mul h.2.1,hk.mul h.2.2⟩
theorem JX(ha:CgR p a a')(hb:CgR p b b'):Cg p (JB a b) (JB a' b'):=((ha.1.mul hb.1).add (ha.2.1.mul hb.2.1)).add (ha.2.2.mul hb.2.2)
theorem nM(ha:CgR p a a')(hb:CgR p b b')(hc:CgR p c c'):CgR p (L6 a b c) (L6 a' b' c')/\CgR p (L5 a b c) (L5 a' b' c')/\CgR p (L4 a b c) (L4 a' b' c'):=⟨⟨ha.1,hb.1,hc.1⟩,⟨ha.2.1,hb.2.1,hc.2.1⟩,⟨ha.2.2,hb.2.2,hc.2.2⟩⟩
noncomputable def ap(a b c x:R3):R3:=(JB a x,JB b x,JB c x)
theorem Ut(k l:Ah)(x:R3):GH k (GH l x)=GH (k*l) x:=by
 unfold GH;simp only[GW]
theorem tQ(a b c x:R3)(k:Ah):ap a b c (GH k x)=GH k (ap a b c x):=by
 unfold ap GH JB;refine La ?_ (La ?_ ?_)<;>(simp only;grind)
end
section
variable{p:Ah}{a b c f0 f1 f2 f3 g0 g1 g2 g3:R3}{d0 d1 d2 d3:Ah}
end
section
variable{Z:Gam}{ns:Ac Ah}
end
section
variable{Z:Gam}{ns:Ac Ah}{many s5 s6 s7 s8 s9 s0 s1 s2:Sl}{p:Ah}{a b c:R3}
end
def InL(p:Ah)(xs:Ac Ah):Prop:=∀ x∈xs,0<=x/\x<p
theorem InL.set(h:InL p xs)(k:Af){v:Ah}(h0:0<=v)(h1:v<p):InL p (xs.set k v):=λx hx=>by
 rcases List.mem_or_eq_of_mem_set hx with z|rfl
 .exact h x z
 .exact⟨h0,h1⟩
section
variable{Z:Gam}{ns:Ac Ah}{p at_:Ah}
end
section
variable{Z:Gam}{ns:Ac Ah}{p t:Ah}
end
structure C6 where
 c0:Ah
 c1:Ah
 c2:Ah
 c3:Ah
 c4:Ah
 c5:Ah
noncomputable def C6.l(C:C6):Ac Ah:=[C.c0,C.c1,C.c2,C.c3,C.c4,C.c5]
noncomputable def vI(C:C6)(x:R3):Ah:=C.c0*x.1*x.1+C.c1*x.2.1*x.2.1+C.c2*x.2.2*x.2.2+(C.c3*x.1*x.2.1+C.c4*x.1*x.2.2+C.c5*x.2.1*x.2.2)
noncomputable def tw0(C:C6):R3:=(2*C.c0,C.c3,C.c4)
noncomputable def tw1(C:C6):R3:=(C.c3,2*C.c1,C.c5)
noncomputable def tw2(C:C6):R3:=(C.c4,C.c5,2*C.c2)
noncomputable def bI(C:C6)(x y:R3):Ah:=JB (ap (tw0 C) (tw1 C) (tw2 C) x) y
noncomputable def scC(k:Ah)(C:C6):C6:=⟨k*C.c0,k*C.c1,k*C.c2,k*C.c3,k*C.c4,k*C.c5⟩
def CgC(p:Ah)(C D:C6):Prop:=Cg p C.c0 D.c0/\Cg p C.c1 D.c1/\Cg p C.c2 D.c2/\Cg p C.c3 D.c3/\Cg p C.c4 D.c4/\Cg p C.c5 D.c5
noncomputable def pb(C:C6)(a b c:R3):C6:=⟨vI C (L6 a b c),vI C (L5 a b c),vI C (L4 a b c),bI C (L6 a b c) (L5 a b c),bI C (L6 a b c) (L4 a b c),bI C (L5 a b c) (L4 a b c)⟩
section
variable{p:Ah}{C D E:C6}{a b c a' b' c' x y x' y':R3}{k k':Ah}
theorem C6.ext'(h0:C.c0=D.c0)(h1:C.c1=D.c1)(h2:C.c2=D.c2)(h3:C.c3=D.c3)(h4:C.c4=D.c4)(h5:C.c5=D.c5):C=D:=by
 cases C;cases D;simp_all
theorem CgC.rfl:CgC p C C:=⟨Cg.rfl,Cg.rfl,Cg.rfl,Cg.rfl,Cg.rfl,Cg.rfl⟩
theorem CgC.of(h:C=D):CgC p C D:=by rw[h];exact CgC.rfl
theorem CgC.symm(h:CgC p C D):CgC p D C:=⟨h.1.symm,h.2.1.symm,h.2.2.1.symm,h.2.2.2.1.symm,h.2.2.2.2.1.symm,h.2.2.2.2.2.symm⟩
theorem CgC.trans(h:CgC p C D)(g:CgC p D E):CgC p C E:=⟨h.1.trans g.1,h.2.1.trans g.2.1,h.2.2.1.trans g.2.2.1,h.2.2.2.1.trans g.2.2.2.1,h.2.2.2.2.1.trans g.2.2.2.2.1,h.2.2.2.2.2.trans g.2.2.2.2.2⟩
theorem CgC.sc(hk:Cg p k k')(h:CgC p C D):CgC p (scC k C) (scC k' D):=⟨hk.mul h.1,hk.mul h.2.1,hk.mul h.2.2.1,hk.mul h.2.2.2.1,hk.mul h.2.2.2.2.1,hk.mul h.2.2.2.2.2⟩
theorem Pv(h:CgC p C D)(hx:CgR p x x'):Cg p (vI C x) (vI D x'):=
 (((((h.1.mul hx.1).mul hx.1).add ((h.2.1.mul hx.2.1).mul hx.2.1)).add ((h.2.2.1.mul hx.2.2).mul hx.2.2))).add ((((h.2.2.2.1.mul hx.1).mul hx.2.1).add ((h.2.2.2.2.1.mul hx.1).mul hx.2.2)).add ((h.2.2.2.2.2.mul hx.2.1).mul hx.2.2))
theorem pZ(h:CgC p C D):CgR p (tw0 C) (tw0 D)/\CgR p (tw1 C) (tw1 D)/\CgR p (tw2 C) (tw2 D):=
 ⟨⟨Cg.rfl.mul h.1,h.2.2.2.1,h.2.2.2.2.1⟩,⟨h.2.2.2.1,Cg.rfl.mul h.2.1,h.2.2.2.2.2⟩,⟨h.2.2.2.2.1,h.2.2.2.2.2,Cg.rfl.mul h.2.2.1⟩⟩
theorem pB(ha:CgR p a a')(hb:CgR p b b')(hc:CgR p c c')(hx:CgR p x x'):CgR p (ap a b c x) (ap a' b' c' x'):=⟨JX ha hx,JX hb hx,JX hc hx⟩
theorem PM(h:CgC p C D)(hx:CgR p x x')(hy:CgR p y y'):Cg p (bI C x y) (bI D x' y'):=
 let ⟨t0,t1,t2⟩:=pZ h
 JX (pB t0 t1 t2 hx) hy
theorem sW(h:CgC p C D)(ha:CgR p a a')(hb:CgR p b b')(hc:CgR p c c'):CgC p (pb C a b c) (pb D a' b' c'):=
 let ⟨s0,s1,s2⟩:=nM ha hb hc
 ⟨Pv h s0,Pv h s1,Pv h s2,PM h s0 s1,PM h s0 s2,PM h s1 s2⟩
theorem Tp(k l:Ah)(C:C6):scC k (scC l C)=scC (k*l) C:=by
 unfold scC;simp only[GW]
theorem SL(C:C6):scC 1 C=C:=by unfold scC;simp only[GN]
theorem sV(k:Ah)(C:C6)(a b c:R3):pb (scC k C) a b c=scC k (pb C a b c):=by
 unfold pb scC vI bI ap tw0 tw1 tw2 JB;refine C6.ext' ?_ ?_ ?_ ?_ ?_ ?_<;>(simp only;grind)
def PrC(p:Ah)(C D:C6):Prop:=∃ d,d%p≠0/\CgC p C (scC d D)
theorem PrC.rfl(hp:P4 p):PrC p C C:=⟨1,hp.o1,CgC.of (SL C).symm⟩
theorem PrC.trans(hp:P4 p)(i:PrC p C D)(j:PrC p D E):PrC p C E:=by
 obtain⟨d,dz,e⟩:=i;obtain⟨d',dz',e'⟩:=j;exact⟨d*d',MN hp dz dz',e.trans ((CgC.sc Cg.rfl e').trans (CgC.of (Tp _ _ _)))⟩
theorem oB(hp:P4 p)(dz:k%p≠0):∃ u,u%p≠0/\Cg p (u*k) 1:=by
 obtain⟨u,u1,u2,u3⟩:=LK hp dz;refine⟨u,by rw[BO (by omega) u2];omega,?_⟩
 show u*k%p=1%p;rw[ED,u3,BO (by decide) (by have:=hp.lo;omega)]
theorem PrC.symm(hp:P4 p)(i:PrC p C D):PrC p D C:=by
 obtain⟨d,dz,e⟩:=i;obtain⟨u,uz,o⟩:=oB hp dz;refine⟨u,uz,?_⟩;have q:=CgC.sc (k:=u) (k':=u) Cg.rfl e;rw[Tp]at q;exact(q.trans ((CgC.sc o CgC.rfl).trans (CgC.of (SL D)))).symm
theorem PrC.pb(i:PrC p C D):PrC p (OvC.pb C a b c) (OvC.pb D a b c):=by
 obtain⟨d,dz,e⟩:=i;exact⟨d,dz,(sW e CgR.rfl CgR.rfl CgR.rfl).trans (CgC.of (sV d D a b c))⟩
def InC(p:Ah)(C:C6):Prop:=∀ x∈C.l,0<=x/\x<p
end
structure BC (C:C6):Prop where
 b0:Bd 10 C.c0
 b1:Bd 10 C.c1
 b2:Bd 10 C.c2
 b3:Bd 10 C.c3
 b4:Bd 10 C.c4
 b5:Bd 10 C.c5
theorem InC.b{C:C6}(hp:P4 p)(h:InC p C):BC C:=by
 have k:∀ x∈C.l,Bd 10 x:=λx hx=>tI hp (h x hx).1 (h x hx).2
 exact⟨k _ (by simp[C6.l]),k _ (by simp[C6.l]),k _ (by simp[C6.l]),k _ (by simp[C6.l]),k _ (by simp[C6.l]),k _ (by simp[C6.l])⟩
noncomputable def t0(p:Ah)(C:C6):R3:=(2*C.c0%p,C.c3,C.c4)
noncomputable def t1(p:Ah)(C:C6):R3:=(C.c3,2*C.c1%p,C.c5)
noncomputable def t2(p:Ah)(C:C6):R3:=(C.c4,C.c5,2*C.c2%p)
section
variable{Z:Gam}{ns:Ac Ah}{p at_:Ah}{φ:Ah->Ah}
end
def Pr(p:Ah)(x y:R3):Prop:=∃ d,d%p≠0/\CgR p x (GH d y)
section
variable{p:Ah}{a b c x y z f g h:R3}{k:Ah}
theorem Tq(x:R3):GH 1 x=x:=by unfold GH;simp only[GN]
theorem Pr.rfl(hp:P4 p):Pr p x x:=⟨1,hp.o1,CgR.of (Tq x).symm⟩
theorem Pr.trans(hp:P4 p)(i:Pr p x y)(j:Pr p y z):Pr p x z:=by
 obtain⟨d,dz,e⟩:=i;obtain⟨d',dz',e'⟩:=j;exact⟨d*d',MN hp dz dz',e.trans ((CgR.sc Cg.rfl e').trans (CgR.of (Ut _ _ _)))⟩
theorem Pr.symm(hp:P4 p)(i:Pr p x y):Pr p y x:=by
 obtain⟨d,dz,e⟩:=i;obtain⟨u,u1,u2,u3⟩:=LK hp dz;have uz:u%p≠0:=by rw[BO (by omega) u2];omega
 have o:Cg p (u*d) 1:=by
  show u*d%p=1%p;rw[ED,u3,BO (by decide) (by have:=hp.lo;omega)]
 refine⟨u,uz,?_⟩;have q:=CgR.sc (k:=u) (k':=u) Cg.rfl e;rw[Ut]at q;exact(q.trans ((CgR.sc o CgR.rfl).trans (CgR.of (Tq y)))).symm
theorem tR{a' b' c' x':R3}(ha:CgR p a a')(hb:CgR p b b')(hc:CgR p c c')(hx:CgR p x x'):CgR p (ap a b c x) (ap a' b' c' x'):=⟨JX ha hx,JX hb hx,JX hc hx⟩
theorem Pr.ap(i:Pr p x y):Pr p (OvC.ap a b c x) (OvC.ap a b c y):=by
 obtain⟨d,dz,e⟩:=i;exact⟨d,dz,(tR CgR.rfl CgR.rfl CgR.rfl e).trans (CgR.of (tQ a b c y d))⟩
end
noncomputable def tri(g:R3):Ac Ah:=[g.1,g.2.1,g.2.2]
section
variable{p:Ah}{a b c a' b' c' f0 f1 f2 f3 g0 g1 g2 g3 h0 h1 h2 h3:R3}
end
section
variable{Z:Gam}{ns:Ac Ah}{p:Ah}
end
section
variable{Z:Gam}{ns:Ac Ah}{mid:Af}{p:Ah}{a b c:R3}{s2 s4 s5 s6 s7 s8:Sl}
end
theorem nO(h:1<p):CO p [0,0,1]=Aa 1:=by
 simp[CO,BO (by decide:(0:Ah)<=1) h]
theorem rV(h:1<p)(z:Ah):CO p [0,1,z]=Aa 1:=by
 simp[CO,BO (by decide:(0:Ah)<=1) h]
theorem YA(h:1<p)(y z:Ah):CO p [1,y,z]=Aa 1:=by
 simp[CO,BO (by decide:(0:Ah)<=1) h]
section
variable{Z:Gam}{ns:Ac Ah}{p:Ah}{C:C6}{s3 s4 s5 s6 s7 s8:Sl}
end
section
variable{Z:Gam}{ns:Ac Ah}
end
section
variable{Z:Gam}{ns:Ac Ah}{p:Ah}{C:C6}{s3 s4 s5 s6 s7 s8:Sl}
end
def NF(p:Ah)(x:R3):Prop:=In3 p x/\CO p (tri x)=Aa 1
noncomputable def ptI(p n:Ah):R3:=if n=0 then (0,0,1) else if n<=p then (0,1,n-1) else (1,(n-p-1)/p,(n-p-1)%p)
theorem sP{n:Ah}(hp:P4 p)(h0:0<=n)(h1:n<p*p+p+1):NF p (ptI p n):=by
 have p1:1<p:=by have:=hp.lo;omega
 have p0:=hp.pos;unfold ptI;by_cases z:n=0
 .rw[At z];exact⟨⟨⟨by decide,p0⟩,⟨by decide,p0⟩,⟨by decide,p1⟩⟩,nO p1⟩
 .rw[AC z];by_cases z1:n<=p
  .rw[At z1];exact⟨⟨⟨VQ 0,p0⟩,⟨(by decide:(0:Ah)<=1),p1⟩,⟨by show 0<=n-1;omega,by show n-1<p;omega⟩⟩,rV p1 _⟩
  .rw[AC z1];have d0:0<=(n-p-1)/p:=Int.ediv_nonneg (by omega) (by omega)
   have d1:(n-p-1)/p<p:=by rw[Int.ediv_lt_iff_lt_mul p0];omega
   exact⟨⟨⟨(by decide:(0:Ah)<=1),p1⟩,⟨d0,d1⟩,⟨B9 _ (by omega),BR _ p0⟩⟩,YA p1 _ _⟩
noncomputable def q4(w:Af)(k:Ah)(y:R3):Ah:=match w with
  |0=>y.1*y.2.2-y.2.1*y.2.1
  |1=>y.1*y.1
  |2=>y.1*y.2.1
  |_=>y.1*y.1-k*(y.2.1*y.2.1)
noncomputable def want(p:Ah)(w:Af):Af:=match w with
  |0=>(p+1).toNat
  |1=>(p+1).toNat
  |2=>(2*p+1).toNat
  |_=>1
section
variable{Z:Gam}{p i j k d N:Ah}{PP x y u:D}{RL:Ac D}{s t s' t' v:Sl}
end
section
variable{Z:Gam}{p:Ah}{pts:Ac R3}
end
noncomputable def Lo:Df:=⟨2,Ad,(.cons (.asg 0 Ad (.bin .Mod (.var 0) (.bin .Add (.bin .Add (.bin .Mult (.var 1) (.var 1)) (.var 1)) (.int 1)))) (.cons (.ife (.cmp .Eq (.var 0) (.int 0)) (.cons (.ret (.tup (.cons (.int 0) (.cons (.int 0) (.cons (.int 1) .nil))))) .nil) .nil) (.cons (.ife (.cmp .LtE (.var 0) (.var 1)) (.cons (.ret (.tup (.cons (.int 0) (.cons (.int 1) (.cons (.bin .Sub (.var 0) (.int 1)) .nil))))) .nil) .nil) (.cons (.ret (.tup (.cons (.int 1) (.cons (.bin .FloorDiv (.bin .Sub (.bin .Sub (.var 0) (.var 1)) (.int 1)) (.var 1)) (.cons (.bin .Mod (.bin .Sub (.bin .Sub (.var 0) (.var 1)) (.int 1)) (.var 1)) .nil))))) .nil))))⟩
def oH(Z:Gam):Prop:=∀(p n:Ah),P4 p->∃ x,NF p x/\Z.F 40 [.int n,.int p]=.ok (Ck Ab x)
theorem mI(Z:Gam)(p n:Ah)(hp:P4 p):∃ x,NF p x/\Lo.run Z [.int n,.int p]=.ok (Ck Ab x):=by
 have pp:FP p p=Ab:=MH (by have:=hp.lo;omega) (by have:=hp.hi;omega)
 have p0:=hp.pos;have ph:=hp.hi;have N0:0<p*p+p+1:=by have:=Int.mul_pos p0 p0;omega
 have h0:=B9 n (VU N0);have h1:=BR n N0;have pb:p<1073741824:=by omega
 refine⟨ptI p (n%(p*p+p+1)),sP hp h0 h1,?_⟩;generalize hr:n%(p*p+p+1)=r at *;unfold ptI;by_cases z0:r=0
 .rw[At z0];simp[Lo,Df.run,Bz,pp,N0,hr,z0];rfl
 .rw[AC z0];by_cases z1:r<=p
  .rw[At z1];simp[Lo,Df.run,Bz,pp,N0,hr,z0,z1];rfl
  .rw[AC z1];simp[Lo,Df.run,Bz,pp,N0,hr,z0,z1,p0,pb];rfl
noncomputable def sp7:Ag:=Ai " "
noncomputable def dg(n:Af):Ag:=if n<10 then ⟨#[48+n]⟩ else ⟨#[49,48]⟩
theorem jV:∀ n:Af,n<11->Ai (toString (n:Ah))=dg n:=by decide+kernel
noncomputable def br0(s:Am):Ag:=if s=Ab then Ai "[" else Ai "("
noncomputable def br1(s:Am):Ag:=if s=Ab then Ai "]" else Ai ")"
noncomputable def jn(a b c:Af):Ag:=Eu sp7 [dg a,dg b,dg c]
noncomputable def tx(s:Am)(a b c:Af):Ag:=br0 s++jn a b c++br1 s
def Sg(u:Ag):Prop:=(∃ x,u=⟨#[x]⟩)\/∃ x y,u=⟨#[x,y]⟩
theorem M1(a:Af):Sg (dg a):=by
 unfold dg;by_cases h:a<10
 .rw[At h];exact .inl ⟨_,rfl⟩
 .rw[AC h];exact .inr ⟨_,_,rfl⟩
structure JF (u v w:Ag):Prop where
 jo:Jf sp7 [u,v,w]=Ab
 ln:(Eu sp7 [u,v,w]).length<=10
 cut:∀ b d:Af,DK ((⟨#[b]⟩:Ag)++Eu sp7 [u,v,w]++⟨#[d]⟩) (Aa 1) (Aa (-1))=Eu sp7 [u,v,w]
 tl:∀ b d:Af,((⟨#[b]⟩:Ag)++Eu sp7 [u,v,w]++⟨#[d]⟩).length<=20
 i0:∀ b d:Af,FS (.str ((⟨#[b]⟩:Ag)++Eu sp7 [u,v,w]++⟨#[d]⟩)) (.int 0)=.ok (.str ⟨#[b]⟩)
 i1:∀ b d:Af,FS (.str ((⟨#[b]⟩:Ag)++Eu sp7 [u,v,w]++⟨#[d]⟩)) (.int (-1))=.ok (.str ⟨#[d]⟩)
theorem jf{u v:Ag}(hu:Sg u)(hv:Sg v)(hw:Sg w):JF u v w:=by
 rcases hu with ⟨x,rfl⟩|⟨x,x',rfl⟩<;>rcases hv with ⟨y,rfl⟩|⟨y,y',rfl⟩<;>rcases hw with ⟨z,rfl⟩|⟨z,z',rfl⟩ <;>
  exact⟨by kernel_rfl,BD (by kernel_rfl),λb d=>by kernel_rfl,λb d=>BD (by kernel_rfl),λb d=>by kernel_rfl,λb d=>by kernel_rfl⟩
theorem iL(s:Am):∃ b,br0 s=⟨#[b]⟩:=by
 cases s with
 |false=>exact⟨40,by kernel_rfl⟩
 |true=>exact⟨91,by kernel_rfl⟩
theorem iK(s:Am):∃ b,br1 s=⟨#[b]⟩:=by
 cases s with
 |false=>exact⟨41,by kernel_rfl⟩
 |true=>exact⟨93,by kernel_rfl⟩
theorem pM{y:Ag}{l:Ac Ag}(h:Em x y=l)(hl:l.length=3)(hx:x.length<=20):Hz x y=Ab:=by
 unfold Em at h;have no:¬ ([x]=l):=λz=>by rw[<-z]at hl;simp at hl
 by_cases h1:(decide (x.length<y.length)||decide (E8 x<E8 y))=Ab
 .rw[At h1]at h;exact absurd h no
 .rw[AC h1]at h;by_cases h2:(Ed x y 0 x.length (x.length+1)).isEmpty=Ab
  .rw[At h2]at h;exact absurd h no
  .rw[AC h2]at h;unfold Hz;rw[h,hl,Al];exact⟨Io.mpr (by omega),rfl⟩
noncomputable def GF(a:Af):Am:=(Ba 11).all λb=>(Ba 11).all λc=>Em (jn a b c) sp7==[dg a,dg b,dg c]
theorem tA0:GF 0=Ab:=by decide+kernel
theorem tA1:GF 1=Ab:=by decide+kernel
theorem tA2:GF 2=Ab:=by decide+kernel
theorem tA3:GF 3=Ab:=by decide+kernel
theorem tA4:GF 4=Ab:=by decide+kernel
theorem tA5:GF 5=Ab:=by decide+kernel
theorem tA6:GF 6=Ab:=by decide+kernel
theorem tA7:GF 7=Ab:=by decide+kernel
theorem tA8:GF 8=Ab:=by decide+kernel
theorem tA9:GF 9=Ab:=by decide+kernel
theorem tV:GF 10=Ab:=by decide+kernel
theorem pO:∀ a:Af,a<11->GF a=Ab
 |0,_=>tA0
 |1,_=>tA1
 |2,_=>tA2
 |3,_=>tA3
 |4,_=>tA4
 |5,_=>tA5
 |6,_=>tA6
 |7,_=>tA7
 |8,_=>tA8
 |9,_=>tA9
 |10,_=>tV
 |n+11,h=>absurd h (by omega)
noncomputable def Md:Ss:=(.cons (.ife (.cmp .Eq (.var 1) (.bi .str (.cons (.var 2) .nil))) (.cons (.ret (.var 2)) .nil) .nil) .nil)
noncomputable def Mf:Df:=⟨3,Ad,(.cons (.fors 2 (.rng (.var 0)) Md) (.cons (.ret .non) .nil))⟩
noncomputable def NS:E:=(.call 33 (.cons (.var 0) (.cons (.var 3) .nil)))
noncomputable def Mg:Df:=⟨4,Ad,(.cons (.asg 2 Ad (.comp NS 3 (.e (.var 1)) DS)) (.cons (.ife (.cmp .In .non (.var 2)) (.cons (.ret .non) .nil) .nil) (.cons (.ret (.var 2)) .nil)))⟩
noncomputable def Jo:Df:=⟨5,Ad,(.cons (.asg 3 Ad (.call 34 (.cons (.var 0) (.cons (.bi .ssplit (.cons (.sl (.var 1) (.int 1) (.un .USub (.int 1))) (.cons (.str (Ai " ")) .nil))) .nil)))) (.cons (.ife (.or (.cons (.cmp .Is (.var 3) .non) (.cons (.cmp .NotEq (.bi .len (.cons (.var 3) .nil)) (.int 3)) (.cons (.no (.bi .any (.cons (.var 3) .nil))) .nil)))) (.cons (.rais 106 (.cons (.var 2) .nil)) .nil) .nil) (.cons (.asg 4 Ad (.bin .Add (.idx (.var 1) (.int 0)) (.idx (.var 1) (.un .USub (.int 1))))) (.cons (.ife (.cmp .Eq (.var 4) (.str (Ai "()"))) (.cons (.ret (.mkn 1 (.cons (.var 0) (.cons (.var 3) .nil)))) .nil) .nil) (.cons (.ife (.cmp .Eq (.var 4) (.str (Ai "[]"))) (.cons (.ret (.mkn 2 (.cons (.var 0) (.cons (.var 3) .nil)))) .nil) .nil) (.cons (.rais 106 (.cons (.var 2) .nil)) .nil))))))⟩
noncomputable def Mq:Df:=⟨2,Ad,(.cons (.ret (.call 35 (.cons (.var 0) (.cons (.var 1) (.cons (.int 0) .nil))))) .nil)⟩
noncomputable def NG:Df:=⟨1,Ad,(.cons (.ret (.ofl (.var 0) (Ai "triple"))) .nil)⟩
structure TxF (a b c:Af):Prop where
 jo:Jf sp7 [dg a,dg b,dg c]=Ab
 spl:Em (jn a b c) sp7=[dg a,dg b,dg c]
 spo:Hz (jn a b c) sp7=Ab
 ln:(jn a b c).length<=10
 cut:∀ s,DK (tx s a b c) (Aa 1) (Aa (-1))=jn a b c
 tl:∀ s,(tx s a b c).length<=20
 i0:∀ s,FS (.str (tx s a b c)) (.int 0)=.ok (.str (br0 s))
 i1:∀ s,FS (.str (tx s a b c)) (.int (-1))=.ok (.str (br1 s))
theorem txf{a b c:Af}(ha:a<11)(hb:b<11)(hc:c<11):TxF a b c:=by
 have h:=pO a ha;unfold GF at h;rw[Br]at h;have h:=h b (Ds.mpr hb);rw[Br]at h;have h:=eq_of_beq (h c (Ds.mpr hc));have j:=jf (M1 a) (M1 b) (M1 c);have ln:(jn a b c).length<=10:=j.ln;have tw:∀ s,∃ b' d',tx s a b c=(⟨#[b']⟩:Ag)++Eu sp7 [dg a,dg b,dg c]++⟨#[d']⟩/\br0 s=⟨#[b']⟩/\br1 s=⟨#[d']⟩:=λs=>by
  obtain⟨b',e1⟩:=iL s;obtain⟨d',e2⟩:=iK s;exact⟨b',d',by unfold tx;rw[e1,e2];rfl,e1,e2⟩
 refine⟨j.jo,h,pM h rfl (by omega),ln,λs=>?_,λs=>?_,λs=>?_,λs=>?_⟩<;>obtain⟨b',d',e,e1,e2⟩:=tw s
 .rw[e];exact j.cut b' d'
 .rw[e];exact j.tl b' d'
 .rw[e,e1];exact j.i0 b' d'
 .rw[e,e2];exact j.i1 b' d'
noncomputable def jq(q:R3):Ag:=jn q.1.toNat q.2.1.toNat q.2.2.toNat
noncomputable def tq(s:Am)(q:R3):Ag:=tx s q.1.toNat q.2.1.toNat q.2.2.toNat
theorem O6(hp:P4 p)(h:In3 p q):TxF q.1.toNat q.2.1.toNat q.2.2.toNat:=by
 have:=hp.hi;obtain⟨⟨a0,a1⟩,⟨b0,b1⟩,c0,c1⟩:=h;exact txf (by omega) (by omega) (by omega)
theorem LI{x:Ah}(h0:0<=x)(h1:x<11):biD .str [.int x]=.ok (.str (dg x.toNat)):=by
 obtain⟨n,rfl⟩:=Ec h0;show (if LV (n:Ah)=Ab then R.ok (D.str (Ai (toString (n:Ah)))) else .bad)=_
 have:LV (n:Ah)=Ab:=by unfold LV;simp;omega
 rw[At this,jV n (by omega)]
 rfl
theorem iR(hp:P4 p)(h:In3 p q):biD .str [.int q.1]=.ok (.str (dg q.1.toNat))/\biD .str [.int q.2.1]=.ok (.str (dg q.2.1.toNat))/\biD .str [.int q.2.2]=.ok (.str (dg q.2.2.toNat)):=by
 have:=hp.hi;obtain⟨⟨a0,a1⟩,⟨b0,b1⟩,c0,c1⟩:=h;exact⟨LI a0 (by omega),LI b0 (by omega),LI c0 (by omega)⟩
theorem rX(hp:P4 p)(h:In3 p q):biD .sjoin [.str (Ai " "),.lst [.str (dg q.1.toNat),.str (dg q.2.1.toNat),.str (dg q.2.2.toNat)]]=.ok (.str (jq q)):=by
 show (if Jf sp7 [dg q.1.toNat,dg q.2.1.toNat,dg q.2.2.toNat]=Ab then R.ok (D.str (Eu sp7 [dg q.1.toNat,dg q.2.1.toNat,dg q.2.2.toNat])) else .bad)=_
 rw[At (O6 hp h).jo];rfl
theorem nN(s:Am):(br0 s).length=1/\(br1 s).length=1:=by cases s<;>exact⟨rfl,rfl⟩
theorem sz7(h:n<=1000):Cd n=Ab:=Io.mpr (by omega)
theorem Yq(hp:P4 p)(h:In3 p q)(s:Am):CF .Add (.str (br0 s)) (.str (jq q))=.ok (.str (br0 s++jq q))/\CF .Add (.str (br0 s++jq q)) (.str (br1 s))=.ok (.str (tq s q)):=by
 have t:=O6 hp h;have l:=nN s;have lj:(jq q).length<=10:=t.ln;have la:(br0 s++jq q).length=(br0 s).length+(jq q).length:=VM;rw[Fb,Fb,At (sz7 (by omega)),At (sz7 (by omega))]
 exact⟨rfl,rfl⟩
section
variable{Z:Gam}
noncomputable def sI(s:Am):Ah:=b2i s
theorem nY(s:Am):FS (.lst [.str (Ai "("),.str (Ai "[")]) (.int (sI s))=.ok (.str (br0 s)):=by cases s<;>rfl
theorem nX(s:Am):FS (.lst [.str (Ai ")"),.str (Ai "]")]) (.int (sI s))=.ok (.str (br1 s)):=by cases s<;>rfl
noncomputable def cl7(s:Am):Af:=if s=Ab then 2 else 1
noncomputable def obD(p:Ah)(s:Am)(q:R3):D:=.obj (cl7 s) [("p",.int p),("triple",Ck Ab q)]
def SV(Z:Gam):Prop:=∀(p:Ah)(s:Am)(q:R3),Z.F 920 [obD p s q]=.ok (Ck Ab q)
theorem rO(p:Ah)(s:Am)(q:R3):ofD (obD p s q) (Ai "triple")=.ok (Ck Ab q):=rfl
theorem dB(Z:Gam)(p:Ah)(s:Am)(q:R3):NG.run Z [obD p s q]=.ok (Ck Ab q):=by
 have e:=rO p s q;generalize obD p s q=o at *;simp[NG,Df.run,Bz,e]
def Fm(p:Ah)(q a:R3):Prop:=∃ l u,CO p (tri q)=Aa l/\IW p l u/\fmI p u (tri q)=tri a
def UT(Z:Gam):Prop:=∀(p:Ah)(b:Am)(q a:R3),P4 p->Fm p q a->Z.F 910 [.int p,Ck b q]=.ok (.tup [.int p,Ck Ab a])
theorem tO(hf:O0 Z)(b:Am)(hp:P4 p)(h:Fm p q a):Z.F 17 [.int p,Ck b q]=.ok (Ck Ab a):=by
 obtain⟨l,u,h1,h2,h3⟩:=h;have e:=hf p b (tri q) l u hp h1 h2;rw[h3]at e;exact e
theorem sH(hf:O0 Z)(p:Ah)(b:Am)(q a:R3)(hp:P4 p)(h:Fm p q a):inC.run Z [.int p,Ck b q]=.ok (.tup [.int p,Ck Ab a]):=by
 have e:=tO hf b hp h;generalize Ck b q=Q at *;generalize Ck Ab a=A at *;simp[inC,Df.run,Bz,e]
def UR(Z:Gam):Prop:=∀(p:Ah)(s b:Am)(q a:R3),P4 p->Fm p q a->Z.F (900+cl7 s) [.int p,Ck b q]=.ok (obD p s a)
theorem Uw(hi:UT Z)(c:Af)(p:Ah)(b:Am)(q a:R3)(hp:P4 p)(h:Fm p q a):(mkC c).run Z [.int p,Ck b q]=.ok (.obj c [("p",.int p),("triple",Ck Ab a)]):=by
 have e:=hi p b q a hp h;have m:EJ c (.tup [.int p,Ck Ab a])=.ok (.obj c [("p",.int p),("triple",Ck Ab a)]):=rfl;generalize Ck b q=Q at *;generalize Ck Ab a=A at *;simp[mkC,Df.run,Bz,e,m,noX]
end
section
variable{Z:Gam}
theorem Yp(hi:In3 p q)(h:Fm p q a):biD .any [Ck Ad q]=.ok (.bl Ab):=by
 obtain⟨l,u,h1,_⟩:=h;have:(q.1 != 0||(q.2.1 != 0||(q.2.2 != 0||false)))=Ab:=by
  rw[<-Bool.not_eq_false];intro z;simp only[Bool.or_eq_false_iff,bne_eq_false_iff_eq]at z;have:CO p (tri q)=Ae:=Ml.mpr λx hx=>by
   simp only[tri,AI,Ch,EB]at hx;rcases hx with rfl|rfl|rfl
   .rw[z.1];exact EZ p
   .rw[z.2.1];exact EZ p
   .rw[z.2.2.1];exact EZ p
  rw[this]at h1;cases h1
 show R.ok (D.bl (q.1 != 0||(q.2.1 != 0||(q.2.2 != 0||false))))=_;rw[this]
end
section
variable{Z:Gam}{ns:Ac Ah}{p:Ah}
end
section
variable{Z:Gam}{p:Ah}
theorem getL_at{xs:Ac D}{k:Af}{d:D}(h:xs[k]?=Aa d):CP xs (k:Ah)=.ok d:=by
 have hl:=(A5.mp h).1;have e:plD xs.length (k:Ah)=Aa k:=by
  unfold plD;simp;omega
 unfold CP;rw[e];dsimp only;rw[h]
end
noncomputable def Ll:Df:=⟨4,Ab,(.cons (.retc [2,3] (.enm (.var 1)) 35 (.cons (.var 0) (.cons (.var 3) (.cons (.var 2) .nil)))) .nil)⟩
noncomputable def NY:Df:=⟨2,Ad,(.cons (.asg 1 Ad (.str (Ai " !\"#$&'()*+,-./0123456789:;<=>?@ABCDEFGHIJKLMNOPQRSTUVWXYZ[\\]^_`"))) (.cons (.asg 1 Ad (.bin .Add (.var 1) (.str (Ai "abcdefghijklmnopqrstuvwxyz{|}~")))) (.cons (.ret (.idx (.var 1) (.bin .Mod (.var 0) (.bi .len (.cons (.var 1) .nil))))) .nil)))⟩
noncomputable def NJ:E:=(.bi .str (.cons (.var 3) .nil))
noncomputable def Ms:Df:=⟨4,Ad,(.cons (.asg 2 Ad (.comp NJ 3 (.rng (.var 1)) DS)) (.cons (.ife (.cmp .In (.var 0) (.var 2)) (.cons (.ret (.bi .index (.cons (.var 2) (.cons (.var 0) .nil)))) .nil) .nil) (.cons (.ret .non) .nil)))⟩
noncomputable def NT:E:=(.call 47 (.cons (.var 3) (.cons (.var 1) .nil)))
noncomputable def ID:Df:=⟨4,Ad,(.cons (.ife (.or (.cons (.cmp .Lt (.bi .len (.cons (.var 0) .nil)) (.int 2)) (.cons (.cmp .NotIn (.tup (.cons (.idx (.var 0) (.int 0)) (.cons (.idx (.var 0) (.un .USub (.int 1))) .nil))) (.lst (.cons (.tup (.cons (.str (Ai "(")) (.cons (.str (Ai ")")) .nil))) (.cons (.tup (.cons (.str (Ai "[")) (.cons (.str (Ai "]")) .nil))) .nil)))) .nil))) (.cons (.ret .non) .nil) .nil) (.cons (.asg 2 Ad (.comp NT 3 (.e (.bi .ssplit (.cons (.sl (.var 0) (.int 1) (.un .USub (.int 1))) (.cons (.str (Ai " ")) .nil)))) DS)) (.cons (.ife (.or (.cons (.cmp .NotEq (.bi .len (.cons (.var 2) .nil)) (.int 3)) (.cons (.cmp .In .non (.var 2)) .nil))) (.cons (.ret .non) .nil) .nil) (.cons (.ret (.call 44 (.cons (.var 2) (.cons (.var 1) .nil)))) .nil))))⟩
noncomputable def Lh:Df:=⟨6,Ad,(.cons (.asg 3 Ad .non) (.cons (.asg 4 Ad (.bl Ad)) (.cons (.tryx (.cons (.ife (.var 2) (.cons (.expr (.call 36 (.cons (.var 0) (.cons (.idx (.var 1) (.int 0)) .nil)))) .nil) (.cons (.expr (.call 37 (.cons (.var 0) (.cons (.var 1) .nil)))) .nil)) .nil) 106 5 (.cons (.asg 3 Ad (.fld (.var 5) (Ai "row"))) (.cons (.asg 4 Ad (.and (.cons (.isi (.var 5) [.cls 0]) (.cons (.isi (.var 5) [.verr]) (.cons (.no (.isi (.var 5) [.cls 12,.cls 3,.cls 107])) .nil))))) .nil))) (.cons (.ife (.no (.var 4)) (.cons (.ret .non) .nil) .nil) (.cons (.ret (.var 3)) .nil)))))⟩
noncomputable def Mn:Df:=⟨3,Ad,(.cons (.asg 2 Ad (.lst (.cons (.str (Ai "")) (.cons (.str (Ai "(")) (.cons (.str (Ai "()")) (.cons (.str (Ai "(0 0 0)")) (.cons (.str (Ai "[0 0 0]")) (.cons (.str (Ai "(1 0 0]")) (.cons (.str (Ai "[1 0 0)")) (.cons (.str (Ai "1 0 0")) (.cons (.str (Ai "(1 0)")) (.cons (.str (Ai "(1 0 0 0)")) (.cons (.str (Ai "(1  0 0)")) .nil))))))))))))) (.cons (.asg 2 Ad (.bin .Add (.var 2) (.lst (.cons (.str (Ai "( 1 0 0)")) (.cons (.str (Ai "(1 0 0 )")) (.cons (.str (Ai "(01 0 0)")) (.cons (.str (Ai "(+1 0 0)")) (.cons (.str (Ai "(-1 0 0)")) (.cons (.str (Ai "(1,0,0)")) (.cons (.str (Ai "(1 0 0) ")) (.cons (.str (Ai " (1 0 0)")) .nil))))))))))) (.cons (.asg 2 Ad (.bin .Add (.var 2) (.lst (.cons (.str (Ai "((1 0 0))")) (.cons (.str (Ai "(1 0 00)")) (.cons (.bin .Add (.bin .Add (.str (Ai "(1 0 ")) (.bi .str (.cons (.var 0) .nil))) (.str (Ai ")"))) (.cons (.bin .Add (.bin .Add (.str (Ai "(")) (.bi .str (.cons (.var 0) .nil))) (.str (Ai " 1 0)"))) (.cons (.str (Ai "(0 0 1)")) (.cons (.str (Ai "{1 0 0}")) .nil))))))))) (.cons (.asg 2 Ad (.bin .Add (.var 2) (.lst (.cons (.bin .Add (.bin .Add (.str (Ai "(1 0 ")) (.bi .str (.cons (.bin .Sub (.var 0) (.int 1)) .nil))) (.str (Ai ")"))) (.cons (.str (Ai "(1 0 a)")) .nil))))) (.cons (.ret (.idx (.var 2) (.bin .Mod (.var 1) (.bi .len (.cons (.var 2) .nil))))) .nil)))))⟩
noncomputable def JO:Df:=⟨7,Ab,(.cons (.asg 3 Ad (.bin .Mod (.var 2) (.int 4))) (.cons (.asg 4 Ad (.bin .Mod (.bin .FloorDiv (.var 2) (.int 4)) (.bin .Add (.bi .len (.cons (.var 1) .nil)) (.int 1)))) (.cons (.ife (.or (.cons (.cmp .Eq (.var 3) (.int 0)) (.cons (.cmp .Eq (.var 4) (.bi .len (.cons (.var 1) .nil))) .nil))) (.cons (.ret (.bin .Add (.bin .Add (.sl (.var 1) .non (.var 4)) (.lst (.cons (.call 50 (.cons (.var 0) (.cons (.bin .FloorDiv (.var 2) (.int 40)) .nil))) .nil))) (.sl (.var 1) (.var 4) .non))) .nil) .nil) (.cons (.asg 5 Ad (.idx (.var 1) (.var 4))) (.cons (.asg 6 Ad (.bin .Mod (.bin .FloorDiv (.var 2) (.int 40)) (.bin .Add (.bi .len (.cons (.var 5) .nil)) (.int 1)))) (.cons (.ife (.cmp .Eq (.var 3) (.int 1)) (.cons (.asg 5 Ad (.bin .Add (.sl (.var 5) .non (.var 6)) (.sl (.var 5) (.bin .Add (.var 6) (.int 1)) .non))) .nil) .nil) (.cons (.ife (.cmp .Eq (.var 3) (.int 2)) (.cons (.asg 5 Ad (.bin .Add (.bin .Add (.sl (.var 5) .non (.var 6)) (.call 46 (.cons (.bin .FloorDiv (.var 2) (.int 400)) .nil))) (.sl (.var 5) (.var 6) .non))) .nil) .nil) (.cons (.ife (.cmp .Eq (.var 3) (.int 3)) (.cons (.asg 5 Ad (.bin .Add (.bin .Add (.sl (.var 5) .non (.var 6)) (.call 46 (.cons (.bin .FloorDiv (.var 2) (.int 400)) .nil))) (.sl (.var 5) (.bin .Add (.var 6) (.int 1)) .non))) .nil) .nil) (.cons (.ret (.bin .Add (.bin .Add (.sl (.var 1) .non (.var 4)) (.lst (.cons (.var 5) .nil))) (.sl (.var 1) (.bin .Add (.var 4) (.int 1)) .non))) .nil)))))))))⟩
noncomputable def NE:E:=(.bi .str (.cons (.var 11) .nil))
noncomputable def Mi:Ss:=(.cons (.asg 4 Ad (.call 3 (.cons (.var 0) (.cons (.var 3) .nil)))) (.cons (.asg 5 Ad (.bi .sjoin (.cons (.str (Ai " ")) (.cons (.comp NE 11 (.e (.call 40 (.cons (.bin .FloorDiv (.var 4) (.int 2)) (.cons (.var 1) .nil)))) DS) .nil)))) (.cons (.app 2 (.bin .Add (.bin .Add (.idx (.lst (.cons (.str (Ai "(")) (.cons (.str (Ai "[")) .nil))) (.bin .Mod (.var 4) (.int 2))) (.var 5)) (.idx (.lst (.cons (.str (Ai ")")) (.cons (.str (Ai "]")) .nil))) (.bin .Mod (.var 4) (.int 2))))) .nil)))
noncomputable def Mh:Ss:=(.cons (.asg 2 Ab (.call 51 (.cons (.var 1) (.cons (.var 2) (.cons (.call 3 (.cons (.var 0) (.cons (.bin .Add (.int 62) (.var 3)) .nil))) .nil))))) .nil)
noncomputable def ND:E:=(.call 48 (.cons (.var 12) (.cons (.var 1) .nil)))
noncomputable def Lg:E:=(.meth (Ai "told") [(1,920),(2,920)] (.var 13))
noncomputable def Mo:Df:=⟨14,Ad,(.cons (.asg 1 Ad (.call 4 (.cons (.var 0) (.cons (.int 60) .nil)))) (.cons (.asg 2 Ab (.lst .nil)) (.cons (.fors 3 (.rng (.bi .min (.cons (.int 8) (.cons (.bi .len (.cons (.var 0) .nil)) .nil)))) Mi) (.cons (.fors 3 (.rng (.bin .Mod (.call 3 (.cons (.var 0) (.cons (.int 61) .nil))) (.int 4))) Mh) (.cons (.rel 2) (.cons (.asg 6 Ad (.comp ND 12 (.e (.var 2)) DS)) (.cons (.asg 7 Ad (.bi .list (.cons (.var 2) .nil))) (.cons (.ife (.cmp .In .non (.var 6)) (.cons (.asg 8 Ad (.call 49 (.cons (.var 1) (.cons (.var 7) (.cons (.bl Ad) .nil))))) (.cons (.asg 9 Ad (.call 49 (.cons (.var 1) (.cons (.lst (.cons (.idx (.var 2) (.bi .index (.cons (.var 6) (.cons .non .nil)))) .nil)) (.cons (.bl Ab) .nil))))) (.cons (.ret (.and (.cons (.call 6 (.cons (.var 8) (.cons (.int 0) (.cons (.bi .len (.cons (.var 2) .nil)) .nil)))) (.cons (.cmp .Eq (.var 8) (.bi .index (.cons (.var 6) (.cons .non .nil)))) (.cons (.cmp .Eq (.var 9) (.int 0)) (.cons (.cmp .Eq (.var 7) (.var 2)) .nil)))))) .nil))) .nil) (.cons (.asg 10 Ad (.call 37 (.cons (.var 1) (.cons (.var 7) .nil)))) (.cons (.ife (.or (.cons (.cmp .NotEq (.var 7) (.var 2)) (.cons (.cmp .NotEq (.call 49 (.cons (.var 1) (.cons (.bin .Add (.var 2) (.lst (.cons (.str (Ai "(0 0 0)")) .nil))) (.cons (.bl Ad) .nil)))) (.bi .len (.cons (.var 2) .nil))) .nil))) (.cons (.ret (.bl Ad)) .nil) .nil) (.cons (.ret (.cmp .Eq (.comp Lg 13 (.e (.var 10)) DS) (.var 6))) .nil)))))))))))⟩
theorem LA(x:Ag)(l h:Ao Ah):(DK x l h).length<=x.length:=by
 unfold DK;split
 .exact AL _
 .show (EE _).size<=_;rw[AN];exact By (List.length_filterMap_le _ _) (PyProof.Rows.indices_len_le _ _ _)
theorem kE(h:x.length<=1000):Hz x sp7=Ab:=by
 unfold Hz;rw[Al];refine⟨Io.mpr (by omega),Io.mpr ?_⟩
 rw[PySem.length_partsBetween];have:=PySem.StrLaws.occ_length_le x sp7 0 x.length (x.length+1);omega
theorem sl8(h:x.length<=1000)(l u:Ao Ah):slD (.str x) l u=.ok (.str (DK x l u)):=by
 have h1:Cd x.length=Ab:=sz7 h;have h2:Cd (DK x l u).length=Ab:=sz7 (By (LA x l u) h);show (if (Cd x.length&&Cd (DK x l u).length)=Ab then R.ok (D.str (DK x l u)) else .bad)=_
 rw[h1,h2];rfl
noncomputable def wsF(x:Ag):Ac Ag:=Em (DK x (Aa 1) (Aa (-1))) sp7
theorem sp8(h:x.length<=1000):biD .ssplit [.str (DK x (Aa 1) (Aa (-1))),.str (Ai " ")]=.ok (.lst ((wsF x).map D.str)):=by
 have ho:Hz (DK x (Aa 1) (Aa (-1))) sp7=Ab:=kE (By (LA _ _ _) h);show (if (!(sp7.length==0)&&Hz (DK x (Aa 1) (Aa (-1))) sp7)=Ab then R.ok (D.lst ((Em (DK x (Aa 1) (Aa (-1))) sp7).map D.str)) else .bad)=_
 rw[ho];rfl
noncomputable def rsF(p:Ah)(w:Ag):Ao Af:=(Ba p.toNat).find? λn=>dg n==w
noncomputable def oD:Ao Af->D
 |some n=>.int (n:Ah)
 |none=>.non
theorem UB{body:D->Rho->O}(I:Rho->Prop)(g:Af->Am):∀(l:Ac Af),(∀ j∈l,∀ U,I U->(g j=Ab->body (.int (j:Ah)) U=.ret (.int (j:Ah)) Ad)/\(g j=Ad->∃ U',body (.int (j:Ah)) U=.next U'/\I U'))->∀ U,I U->(∀ n,l.find? g=Aa n->Dk body (l.map fun(k:Af)=>D.int (k:Ah)) U=.ret (.int (n:Ah)) Ad)/\(l.find? g=Ae->∃ U',Dk body (l.map fun(k:Af)=>D.int (k:Ah)) U=.next U'/\I U')
 |[],_,U,hI=>⟨λn z=>(nomatch z),λ_=>⟨U,rfl,hI⟩⟩
 |j::l,h,U,hI=>by
  obtain⟨h1,h2⟩:=h j (AF ..) U hI;have st:Dk body ((j::l).map fun(k:Af)=>D.int (k:Ah)) U=(body (.int (j:Ah)) U).turn (Dk body (l.map fun(k:Af)=>D.int (k:Ah))):=rfl
  rw[st,V1];cases e:g j with
  |true=>
   rw[h1 e];exact⟨λn z=>by cases z;rfl,λz=>by cases z⟩
  |false=>
   obtain⟨U',e1,I'⟩:=h2 e;rw[e1];exact UB I g l (λk hk=>h k (Aw _ hk)) U' I'
theorem rg8(hp:P4 p):Ee 0 p=.ok ((Ba p.toNat).map fun(k:Af)=>D.int (k:Ah)):=by
 have:=hp.hi;have:=hp.pos;rw[Ol (by omega) (by omega)]
 simp[EW]
theorem U_6(hp:P4 p){j:Af}(h:j∈Ba p.toNat):biD .str [.int (j:Ah)]=.ok (.str (dg j)):=by
 have:=hp.hi;have:=Ds.mp h;exact LI (by omega) (by omega)
section
variable{Z:Gam}{p:Ah}
def UP(Z:Gam):Prop:=∀(p:Ah)(w:Ag),P4 p->Z.F 33 [.int p,.str w]=.ok (oD (rsF p w))
theorem sF(Z:Gam)(p:Ah)(w:Ag)(hp:P4 p):Mf.run Z [.int p,.str w]=.ok (oD (rsF p w)):=by
 have rg:=rg8 hp;have key:=UB (body:=Dz Z 2 Md) (λU=>∃ s,U=[si p,sh (.str w),s]) (λn=>dg n==w) (Ba p.toNat) (by
  rintro j hj U ⟨s,rfl⟩;have st:=U_6 hp hj;generalize dg j=dj at *;refine⟨λe=>?_,λe=>⟨[si p,sh (.str w),si (j:Ah)],?_,_,rfl⟩⟩
  .have e:=eq_of_beq e;subst e;simp[Dz,Md,st,Dq]
  .have ne:¬ w=dj:=λz=>by rw[z]at e;simp at e
   simp[Dz,Md,st,ne]) [si p,sh (.str w),Ae] ⟨_,rfl⟩
 have er:(Ba p.toNat).find? (λn=>dg n==w)=rsF p w:=rfl
 rw[er]at key;cases e:rsF p w with
 |some n=>
  have k1:=key.1 n e;simp[Mf,Df.run,Bz,rg,k1,oD]
 |none=>
  obtain⟨U',k1,s,rfl⟩:=key.2 e;simp[Mf,Df.run,Bz,rg,k1,oD]
theorem RJ{g:D->R Am}{f:D->R D}{ψ:Af->D}:∀ l:Ac Af,(∀ j∈l,g (.int (j:Ah))=.ok Ab/\f (.int (j:Ah))=.ok (ψ j))->Bv g f (l.map fun(k:Af)=>D.int (k:Ah))=.ok (l.map ψ)
 |[],_=>rfl
 |j::l,h=>by
  obtain⟨h1,h2⟩:=h j (AF ..);show (g (.int (j:Ah))).bind _=_;rw[h1,R.bind_ok,At rfl,h2,R.bind_ok];show (Bv g f (l.map fun(k:Af)=>D.int (k:Ah))).bind _=_
  rw[RJ l λy hy=>h y (Aw _ hy)]
  rfl
theorem MB{g:D->R Am}{f:D->R D}{ψ:Ag->D}:∀ l:Ac Ag,(∀ w∈l,g (.str w)=.ok Ab/\f (.str w)=.ok (ψ w))->Bv g f (l.map D.str)=.ok (l.map ψ)
 |[],_=>rfl
 |w::l,h=>by
  obtain⟨h1,h2⟩:=h w (AF ..);show (g (.str w)).bind _=_;rw[h1,R.bind_ok,At rfl,h2,R.bind_ok];show (Bv g f (l.map D.str)).bind _=_;rw[MB l λy hy=>h y (Aw _ hy)]
  rfl
theorem Rn(q:Af->Am):∀ n,(Ba n).findIdx? q=(Ba n).find? q
 |0=>rfl
 |n+1=>by
  rw[List.range_succ,V2,List.find?_append,Rn q n];cases e:(Ba n).find? q with
  |some j=>rfl
  |none=>
   simp only[Option.none_or,List.length_range,GP,V1,List.findIdx?_nil,List.find?_nil];cases q n<;>simp
theorem kP(p:Ah)(w:Ag):Bp .In (.str w) (.lst ((Ba p.toNat).map λn=>D.str (dg n)))=.ok (.bl (rsF p w).isSome)/\∀ n,rsF p w=Aa n->biD .index [.lst ((Ba p.toNat).map λn=>D.str (dg n)),.str w]=.ok (.int (n:Ah)):=by
 have fl:((Ba p.toNat).map λn=>D.str (dg n)).all (flD 5)=Ab:=by
  rw[D3];exact Br.mpr λ_ _=>rfl
 constructor
 .show (if (Ab&&((Ba p.toNat).map λn=>D.str (dg n)).all (flD 5))=Ab then R.ok (D.bl (((Ba p.toNat).map λn=>D.str (dg n)).any λy=>eqD y (.str w))) else .bad)=_
  rw[fl,At (show (Ab&&Ab)=Ab from rfl),Gd]
  congr 2
  unfold rsF;rw[List.isSome_find?];rfl
 .intro n h;show (if (Ab&&((Ba p.toNat).map λn=>D.str (dg n)).all (flD 5))=Ab then (match ((Ba p.toNat).map λn=>D.str (dg n)).findIdx? (λy=>eqD y (.str w)) with|some j=>R.ok (D.int (j:Af))|none=>.bad) else .bad)=_
  rw[fl,At (show (Ab&&Ab)=Ab from rfl),V4]
  have e:(Ba p.toNat).findIdx? ((λy=>eqD y (.str w)) ∘ λn=>D.str (dg n))=Aa n:=(Rn _ _).trans h
  rw[e]
def UO(Z:Gam):Prop:=∀(p:Ah)(w:Ag),P4 p->Z.F 47 [.str w,.int p]=.ok (oD (rsF p w))
theorem sE(Z:Gam)(p:Ah)(w:Ag)(hp:P4 p):Ms.run Z [.str w,.int p]=.ok (oD (rsF p w)):=by
 have rg:=rg8 hp;have cp:Bv (cG Z [sh (.str w),si p,Ae,Ae] 3 DS) (cF Z [sh (.str w),si p,Ae,Ae] 3 NJ) ((Ba p.toNat).map fun(k:Af)=>D.int (k:Ah))=.ok ((Ba p.toNat).map λn=>D.str (dg n)):=RJ _ λj hj=>by
  have st:=U_6 hp hj;generalize dg j=dj at *;exact⟨rfl,by simp[cF,NJ,st]⟩
 obtain⟨h1,h2⟩:=kP p w;generalize (Ba p.toNat).map (λn=>D.str (dg n))=L at *
 generalize (Ba p.toNat).map (fun(k:Af)=>D.int (k:Ah))=RG at *
 cases e:rsF p w with
 |some n=>
  have h2:=h2 n e;rw[e]at h1;have h1:Bp .In (.str w) (.lst L)=.ok (.bl Ab):=h1;simp[Ms,Df.run,Bz,rg,cp,h1,h2,oD,-Ie]
 |none=>
  rw[e]at h1;have h1:Bp .In (.str w) (.lst L)=.ok (.bl Ad):=h1;simp[Ms,Df.run,Bz,rg,cp,h1,oD,-Ie]
end
noncomputable def rsD(p:Ah)(ws:Ac Ag):D:=if (ws.all λw=>(rsF p w).isSome)=Ab then .lst (ws.map λw=>oD (rsF p w)) else .non
theorem tP(o:Ao Af):flD 5 (oD o)=Ab:=by cases o<;>rfl
theorem UK(p:Ah)(ws:Ac Ag):Bp .In .non (.lst (ws.map λw=>oD (rsF p w)))=.ok (.bl (!(ws.all λw=>(rsF p w).isSome))):=by
 have fl:(ws.map λw=>oD (rsF p w)).all (flD 5)=Ab:=by
  rw[D3];exact Br.mpr λw _=>tP _
 show (if (Ab&&(ws.map λw=>oD (rsF p w)).all (flD 5))=Ab then R.ok (D.bl ((ws.map λw=>oD (rsF p w)).any λy=>eqD y .non)) else .bad)=_
 rw[fl,At (show (Ab&&Ab)=Ab from rfl),Gd]
 congr 2
 induction ws with
 |nil=>rfl
 |cons w ws ih=>
  rw[GX,Dm,ih (by rw[A4,Dm,Al]at fl;exact fl.2)]
  show (eqD (oD (rsF p w)) .non||_)=_;cases rsF p w<;>simp[oD,eqD]
section
variable{Z:Gam}{p:Ah}
def T8(Z:Gam):Prop:=∀(p:Ah)(ws:Ac Ag),P4 p->Z.F 34 [.int p,.lst (ws.map D.str)]=.ok (rsD p ws)
theorem mJ(hr:UP Z)(p:Ah)(ws:Ac Ag)(hp:P4 p):Mg.run Z [.int p,.lst (ws.map D.str)]=.ok (rsD p ws):=by
 have cp:∀ X:D,Bv (cG Z [si p,sh X,Ae,Ae] 3 DS) (cF Z [si p,sh X,Ae,Ae] 3 NS) (ws.map D.str)=.ok (ws.map λw=>oD (rsF p w)):=λX=>MB ws λw _=>by
  have e:=hr p w hp;generalize oD (rsF p w)=o at *;exact⟨rfl,by simp[cF,NS,e]⟩
 have ci:=UK p ws;unfold rsD;generalize (ws.map λw=>oD (rsF p w))=L at *
 generalize ws.map D.str=M at *;generalize (ws.all λw=>(rsF p w).isSome)=B at *
 cases B with
 |true=>
  have ci:Bp .In .non (.lst L)=.ok (.bl Ad):=ci;simp[Mg,Df.run,Bz,cp,ci,-Ie]
 |false=>
  have ci:Bp .In .non (.lst L)=.ok (.bl Ab):=ci;simp[Mg,Df.run,Bz,cp,ci,-Ie]
noncomputable def q8:Ac (Ao Af)->Ao R3
 |[Aa a,Aa b,Aa c]=>if a=0/\b=0/\c=0 then Ae else Aa (a,b,c)
 |_=>Ae
noncomputable def brF(c d:Af):Ao Am:=if c=40/\d=41 then Aa Ad else if c=91/\d=93 then Aa Ab else Ae
noncomputable def b8(x:Ag):Ao Am:=match x.cps[0]?,x.cps[x.length-1]? with
  |some c,Aa d=>brF c d
  |_,_=>Ae
open Classical in
noncomputable def aF(p:Ah)(q:R3):R3:=if h:∃ a,Fm p q a then Hf h else (0,0,0)
theorem UX(h:∃ a,Fm p q a):Fm p q (aF p q):=by
 unfold aF;rw[dif_pos h];exact Dd h
noncomputable def Dc(p:Ah)(x:Ag):Ao (Am×R3):=match b8 x,q8 ((wsF x).map (rsF p)) with
  |some s,Aa q=>Aa (s,aF p q)
  |_,_=>Ae
theorem Pq(h:rsF p w=Aa n):n<p.toNat:=Ds.mp (List.mem_of_find?_eq_some h)
theorem Ul(hp:P4 p)(h:q8 (ws.map (rsF p))=Aa q):In3 p q/\(∃ a,Fm p q a)/\rsD p ws=Ck Ad q:=by
  have p0:=hp.pos
  match ws,h with
  |[w1,w2,w3],h=>
    rw[A4,A4,A4,D5]at h;cases e1:rsF p w1 with
    |none=>rw[e1]at h;cases h
    |some n1=>
      cases e2:rsF p w2 with
      |none=>rw[e1,e2]at h;cases h
      |some n2=>
        cases e3:rsF p w3 with
        |none=>rw[e1,e2,e3]at h;cases h
        |some n3=>
          rw[e1,e2,e3]at h;have h':(if n1=0/\n2=0/\n3=0 then Ae else Aa ((n1:Ah),(n2:Ah),(n3:Ah)))=Aa q:=h
          by_cases z:n1=0/\n2=0/\n3=0
          · rw[At z]at h';cases h'
          · rw[AC z]at h';cases h';have l1:=Pq e1;have l2:=Pq e2;have l3:=Pq e3;have hin:In3 p ((n1:Ah),(n2:Ah),(n3:Ah)):=by
              refine⟨⟨?_,?_⟩,⟨?_,?_⟩,?_,?_⟩
              · show (0:Ah)<=n1;omega
              · show (n1:Ah)<p;omega
              · show (0:Ah)<=n2;omega
              · show (n2:Ah)<p;omega
              · show (0:Ah)<=n3;omega
              · show (n3:Ah)<p;omega
            refine⟨hin,?_,?_⟩
            · cases el:CO p (tri ((n1:Ah),(n2:Ah),(n3:Ah))) with
              |none=>
                exfalso
                have h0:=Ml.mp el;have m1:=h0 (n1:Ah) (by simp[tri])
                have m2:=h0 (n2:Ah) (by simp[tri])
                have m3:=h0 (n3:Ah) (by simp[tri])
                rw[BO (by omega) (by omega)]at m1 m2 m3
                exact z ⟨by omega,by omega,by omega⟩
              |some l=>
                obtain⟨hl,_,_⟩:=Mj p0 el;obtain⟨t,t1,t2,t3⟩:=LK hp hl;exact⟨((fmI p t (tri ((n1:Ah),(n2:Ah),(n3:Ah)))).getD 0 0,(fmI p t (tri ((n1:Ah),(n2:Ah),(n3:Ah)))).getD 1 0,(fmI p t (tri ((n1:Ah),(n2:Ah),(n3:Ah)))).getD 2 0),l,t,el,⟨t1,t2,t3⟩,rfl⟩
            · unfold rsD;rw[At (by simp[e1,e2,e3])]
              simp[e1,e2,e3,oD];rfl
  |[],h=>cases h
  |[w1],h=>rw[A4,D5]at h;cases e1:rsF p w1<;>rw[e1]at h<;>cases h
  |[w1,w2],h=>rw[A4,A4,D5]at h;cases e1:rsF p w1<;>cases e2:rsF p w2<;>rw[e1,e2]at h<;>cases h
  |w1::w2::w3::w4::ws,h=>rw[A4,A4,A4,A4]at h;cases e1:rsF p w1<;>cases e2:rsF p w2<;>cases e3:rsF p w3<;>rw[e1,e2,e3]at h<;>cases h
theorem Uk(h:q8 (ws.map (rsF p))=Ae):rsD p ws=.non\/(∃ rs,rsD p ws=.lst rs/\rs.length≠3)\/rsD p ws=Ck Ad (0,0,0):=by
  unfold rsD;by_cases ha:(ws.all λw=>(rsF p w).isSome)=Ab
  · rw[At ha];by_cases hl:ws.length=3
    · match ws,hl,ha,h with
      |[w1,w2,w3],_,ha,h=>
        simp only[Dm,List.all_nil,FX,Al,Option.isSome_iff_exists]at ha;obtain⟨⟨n1,e1⟩,⟨n2,e2⟩,n3,e3⟩:=ha;rw[A4,A4,A4,D5,e1,e2,e3]at h;have h':(if n1=0/\n2=0/\n3=0 then Ae else Aa ((n1:Ah),(n2:Ah),(n3:Ah)))=Ae:=h
        by_cases z:n1=0/\n2=0/\n3=0
        · obtain⟨rfl,rfl,rfl⟩:=z;refine .inr (.inr ?_);simp[e1,e2,e3,oD];rfl
        · rw[AC z]at h';cases h'
    · exact .inr (.inl ⟨_,rfl,by rw[Bo];exact hl⟩)
  · rw[AC ha];exact .inl rfl
theorem kO:(wsF ⟨#[]⟩).length=1:=by kernel_rfl
theorem sN(h:q8 ((wsF x).map (rsF p))=Aa q):x.cps.size≠0:=λz=>by
  have e:x=⟨#[]⟩:=by
    obtain⟨a⟩:=x
    congr 1
    exact Array.eq_empty_of_size_eq_zero z
  rw[e]at h;have l:=kO
  match hw:wsF ⟨#[]⟩,l with
  |[w],_=>
    rw[hw,A4,D5]at h;cases e1:rsF p w<;>rw[e1]at h<;>cases h
theorem at0{c:Af}(hl:x.length<=1000)(h:x.cps[0]?=Aa c):FS (.str x) (.int 0)=.ok (.str ⟨#[c]⟩):=by
 show (if Cd x.length=Ab then CP (FU x) 0 else .bad)=_
 rw[At (sz7 hl)];exact getL_at (k:=0) (by unfold FU;rw[Cn,Ga,h];rfl)
theorem at1{d:Af}(hl:x.length<=1000)(h:x.cps[x.length-1]?=Aa d):FS (.str x) (.int (-1))=.ok (.str ⟨#[d]⟩):=by
 have hz:x.length-1<x.length:=by
  have:=(EY.mp h).1;exact this
 have lc:(FU x).length=x.length:=by unfold FU;rw[Bo,E6];rfl
 show (if Cd x.length=Ab then CP (FU x) (-1) else .bad)=_
 rw[At (sz7 hl)];have e:plD (FU x).length (-1)=Aa (x.length-1):=by
  rw[lc];unfold plD;simp;omega
 unfold CP;rw[e];dsimp only;have:(FU x)[x.length-1]?=Aa (.str ⟨#[d]⟩):=by unfold FU;rw[Cn,Ga,h];rfl
 rw[this]
end
noncomputable def exR(r:Ah):Ex:=⟨106,[("row",.int r)]⟩
def UM(Z:Gam):Prop:=∀ r:Ah,0<=r->r<100->Z.xn 106 [.int r]=.ok (exR r)
noncomputable def IQ(p r:Ah)(x:Ag):R D:=match Dc p x with
  |some (s,a)=>.ok (obD p s a)
  |none=>.exn (exR r)
theorem P5(h:q8 ((wsF x).map (rsF p))=Ae):Dc p x=Ae:=by
 unfold Dc;rw[h];cases b8 x<;>rfl
theorem P6(h:b8 x=Ae):Dc p x=Ae:=by
 unfold Dc;rw[h]
theorem P3(h:b8 x=Aa s)(h2:q8 ((wsF x).map (rsF p))=Aa q):Dc p x=Aa (s,aF p q):=by
 unfold Dc;rw[h,h2]
theorem KJ{r:Ah}(h:Dc p x=Ae):IQ p r x=.exn (exR r):=by
 unfold IQ;rw[h]
theorem LR{r:Ah}(h:Dc p x=Aa (s,a)):IQ p r x=.ok (obD p s a):=by
 unfold IQ;rw[h]
theorem tB(c d:Af):((⟨#[c]⟩:Ag)++⟨#[d]⟩=Ai "()"↔brF c d=Aa Ad)/\((⟨#[c]⟩:Ag)++⟨#[d]⟩=Ai "[]"↔brF c d=Aa Ab):=by
 have e1:Ai "()" = ⟨#[40,41]⟩:=by kernel_rfl
 have e2:Ai "[]" = ⟨#[91,93]⟩:=by kernel_rfl
 have e0:(⟨#[c]⟩:Ag)++⟨#[d]⟩=⟨#[c,d]⟩:=rfl;have key:∀ a b:Af,((⟨#[c,d]⟩:Ag)=⟨#[a,b]⟩)↔(c=a/\d=b):=λa b=>by simp
 rw[e0,e1,e2,key,key];unfold brF;constructor
 .constructor
  .intro h;rw[At h]
  .intro h;by_cases z:c=40/\d=41
   .exact z
   .rw[AC z]at h;split at h<;>cases h
 .constructor
  .rintro⟨rfl,rfl⟩;rfl
  .intro h;by_cases z:c=40/\d=41
   .rw[At z]at h;cases h
   .rw[AC z]at h;by_cases z2:c=91/\d=93
    .exact z2
    .rw[AC z2]at h;cases h
section
variable{Z:Gam}{p:Ah}
def Pj(Z:Gam):Prop:=∀(p r:Ah)(x:Ag),P4 p->0<=r->r<100->x.length<=1000->Z.F 35 [.int p,.str x,.int r]=IQ p r x
theorem mL(hr:T8 Z)(hm:UR Z)(hx:UM Z)(p r:Ah)(x:Ag)(hp:P4 p)(r0:0<=r)(r1:r<100)(hl:x.length<=1000):Jo.run Z [.int p,.str x,.int r]=IQ p r x:=by
 have sl:=sl8 hl (Aa 1) (Aa (-1));have sp:=sp8 hl;have e1:=hr p (wsF x) hp;have ex:=hx r r0 r1;generalize DK x (Aa 1) (Aa (-1))=J at *;cases eq:q8 ((wsF x).map (rsF p)) with
 |none=>
  rw[KJ (P5 eq)];generalize (wsF x).map D.str=WS at *;rcases Uk eq with h|⟨rs,h,hn⟩|h
  .rw[h]at e1;simp[Jo,Df.run,Bz,sl,sp,e1,ex,slE,-Fb]
  .rw[h]at e1;have ln:biD .len [.lst rs]=.ok (.int rs.length):=rfl;have hn':¬ ((rs.length:Ah)=3):=by omega
   simp[Jo,Df.run,Bz,sl,sp,e1,ex,slE,hn',-Fb]
  .rw[h]at e1;have an:biD .any [Ck Ad (0,0,0)]=.ok (.bl Ad):=rfl;have ln:biD .len [Ck Ad (0,0,0)]=.ok (.int 3):=rfl;have is:Bp .Is (Ck Ad (0,0,0)) .non=.ok (.bl Ad):=rfl;generalize Ck Ad (0,0,0)=Q at *;simp[Jo,Df.run,Bz,sl,sp,e1,ex,slE,an,ln,is,-Fb]
 |some q=>
  obtain⟨hin,hfm,hq⟩:=Ul hp eq;have hne:=sN eq;rw[hq]at e1;have hf:=UX hfm;have an:=Yp hin hf;have ln:biD .len [Ck Ad q]=.ok (.int 3):=rfl;have is:Bp .Is (Ck Ad q) .non=.ok (.bl Ad):=rfl;have h0:∃ c,x.cps[0]?=Aa c:=⟨_,Cm (by omega)⟩
  have h1:∃ d,x.cps[x.length-1]?=Aa d:=⟨_,Cm (by show x.cps.size-1<x.cps.size;omega)⟩
  obtain⟨c,h0⟩:=h0;obtain⟨d,h1⟩:=h1;have i0:=at0 hl h0;have i1:=at1 hl h1;have eb:b8 x=brF c d:=by unfold b8;rw[h0,h1]
  obtain⟨b1,b2⟩:=tB c d;have ad:CF .Add (.str (⟨#[c]⟩:Ag)) (.str (⟨#[d]⟩:Ag))=.ok (.str ((⟨#[c]⟩:Ag)++⟨#[d]⟩)):=by
   rw[Fb,At];rfl
  have mk:=λs=>hm p s Ad q (aF p q) hp hf
  have m1:Z.F 901 [.int p,Ck Ad q]=.ok (obD p Ad (aF p q)):=mk Ad;have m2:Z.F 902 [.int p,Ck Ad q]=.ok (obD p Ab (aF p q)):=mk Ab;generalize (⟨#[c]⟩:Ag)++⟨#[d]⟩=BB at *;generalize (wsF x).map D.str=WS at *;generalize Ck Ad q=Q at *;generalize (⟨#[c]⟩:Ag)=B0 at *;generalize (⟨#[d]⟩:Ag)=B1 at *;have ne:¬ Ai "[]" = Ai "()" := by decide+kernel
  cases ef:brF c d with
  |none=>
   rw[KJ (P6 (eb.trans ef))];rw[ef]at b1 b2;have n1:¬ BB=Ai "()" := λz=>nomatch b1.mp z
   have n2:¬ BB=Ai "[]" := λz=>nomatch b2.mp z
   simp[Jo,Df.run,Bz,sl,sp,e1,ex,slE,an,ln,is,i0,i1,ad,n1,n2,-Fb]
  |some s=>
   cases s with
   |false=>
    have n1:=b1.mpr ef;rw[LR (P3 (eb.trans ef) eq)];generalize obD p Ad (aF p q)=o at *;simp[Jo,Df.run,Bz,sl,sp,e1,slE,an,ln,is,i0,i1,ad,n1,m1,Dq,-Fb]
   |true=>
    have n2:=b2.mpr ef;rw[LR (P3 (eb.trans ef) eq)];generalize obD p Ab (aF p q)=o at *;simp[Jo,Df.run,Bz,sl,sp,e1,slE,an,ln,is,i0,i1,ad,n2,ne,m2,Dq,-Fb]
def oJ(Z:Gam):Prop:=∀(p:Ah)(x:Ag),P4 p->x.length<=1000->Z.F 36 [.int p,.str x]=IQ p 0 x
theorem mM(h:Pj Z)(p:Ah)(x:Ag)(hp:P4 p)(hl:x.length<=1000):Mq.run Z [.int p,.str x]=IQ p 0 x:=by
 have e:=h p 0 x hp (by decide) (by decide) hl
 cases eo:Dc p x with
 |none=>
  rw[KJ eo]at e ⊢;simp[Mq,Df.run,Bz,e]
 |some sa=>
  obtain⟨s,a⟩:=sa;rw[LR eo]at e ⊢;generalize obD p s a=o at *;simp[Mq,Df.run,Bz,e]
def US(Z:Gam):Prop:=∀(p:Ah)(xs:Ac Ah),P4 p->(CO p xs=Ae->Z.F 44 [.lst (ds xs),.int p]=.ok .non)/\(∀ l t,CO p xs=Aa l->IW p l t->Z.F 44 [.lst (ds xs),.int p]=.ok (.tup (ds (fmI p t xs))))
noncomputable def dD(p:Ah)(x:Ag):D:=match Dc p x with
  |some (_,a)=>Ck Ab a
  |none=>.non
def T9(Z:Gam):Prop:=∀(p:Ah)(x:Ag),P4 p->x.length<=1000->Z.F 48 [.str x,.int p]=.ok (dD p x)
theorem cV(h:x.length<2):b8 x=Ae:=by
 unfold b8;have h':x.cps.size<2:=h;cases e0:x.cps[0]? with
 |none=>rfl
 |some c=>
  have z:0<x.cps.size:=(EY.mp e0).1;have e1:x.length-1=0:=by show x.cps.size-1=0;omega
  rw[e1,e0];dsimp only;unfold brF;rw[AC (by omega),AC (by omega)]
theorem ME(a b:Af):((⟨#[a]⟩:Ag)==⟨#[b]⟩)=decide (a=b):=by
 rw[Eh];simp
theorem Yz(c d:Af):Bp .NotIn (.tup [.str ⟨#[c]⟩,.str ⟨#[d]⟩]) (.lst [.tup [.str (Ai "("),.str (Ai ")")],.tup [.str (Ai "["),.str (Ai "]")]])=.ok (.bl (brF c d).isNone):=by
 have e1:Ai "(" = ⟨#[40]⟩:=by kernel_rfl
 have e2:Ai ")" = ⟨#[41]⟩:=by kernel_rfl
 have e3:Ai "[" = ⟨#[91]⟩:=by kernel_rfl
 have e4:Ai "]" = ⟨#[93]⟩:=by kernel_rfl
 rw[e1,e2,e3,e4];show R.ok (D.bl (!(((⟨#[40]⟩:Ag)==⟨#[c]⟩&&((⟨#[41]⟩:Ag)==⟨#[d]⟩&&Ab))||(((⟨#[91]⟩:Ag)==⟨#[c]⟩&&((⟨#[93]⟩:Ag)==⟨#[d]⟩&&Ab))||false))))=_;rw[ME,ME,ME,ME];unfold brF;by_cases z1:c=40/\d=41
 .obtain⟨rfl,rfl⟩:=z1;rfl
 .rw[AC z1];by_cases z2:c=91/\d=93
  .obtain⟨rfl,rfl⟩:=z2;rfl
  .rw[AC z2];have n1:(decide (40=c)&&(decide (41=d)&&Ab))=Ad:=by
    rw[FX,<-VN,Al,AE,AE];exact λz=>z1 ⟨z.1.symm,z.2.symm⟩
   have n2:(decide (91=c)&&(decide (93=d)&&Ab))=Ad:=by
    rw[FX,<-VN,Al,AE,AE];exact λz=>z2 ⟨z.1.symm,z.2.symm⟩
   rw[n1,n2];rfl
theorem Nm(h:Dc p x=Ae):dD p x=.non:=by
 unfold dD;rw[h]
theorem Qq(h:Dc p x=Aa (s,a)):dD p x=Ck Ab a:=by
 unfold dD;rw[h]
theorem mO(hr:UO Z)(hf:US Z)(p:Ah)(x:Ag)(hp:P4 p)(hl:x.length<=1000):ID.run Z [.str x,.int p]=.ok (dD p x):=by
 have lx:biD .len [.str x]=.ok (.int x.length):=by
  show (if Cd x.length=Ab then R.ok (D.int x.length) else .bad)=_
  rw[At (sz7 hl)]
 by_cases h2:x.length<2
 .rw[Nm (P6 (cV h2))];have h2':(x.length:Ah)<2:=by omega
  simp[ID,Df.run,Bz,lx,h2']
 .have h2':¬ (x.length:Ah)<2:=by omega
  have h0:∃ c,x.cps[0]?=Aa c:=⟨_,Cm (by show 0<x.length;omega)⟩
  have h1:∃ d,x.cps[x.length-1]?=Aa d:=⟨_,Cm (by show x.length-1<x.length;omega)⟩
  obtain⟨c,h0⟩:=h0;obtain⟨d,h1⟩:=h1;have i0:=at0 hl h0;have i1:=at1 hl h1;have eb:b8 x=brF c d:=by unfold b8;rw[h0,h1]
  have ni:=Yz c d;generalize (⟨#[c]⟩:Ag)=B0 at *;generalize (⟨#[d]⟩:Ag)=B1 at *;cases ef:brF c d with
  |none=>
   rw[Nm (P6 (eb.trans ef))];rw[ef]at ni;have ni:Bp .NotIn (.tup [.str B0,.str B1]) (.lst [.tup [.str (Ai "("),.str (Ai ")")],.tup [.str (Ai "["),.str (Ai "]")]])=.ok (.bl Ab):=ni;simp[ID,Df.run,Bz,lx,h2',i0,i1,ni,-LP]
  |some s=>
   rw[ef]at ni;have ni:Bp .NotIn (.tup [.str B0,.str B1]) (.lst [.tup [.str (Ai "("),.str (Ai ")")],.tup [.str (Ai "["),.str (Ai "]")]])=.ok (.bl Ad):=ni;have sl:=sl8 hl (Aa 1) (Aa (-1));have sp:=sp8 hl;have cp:∀ y:Sl,Bv (cG Z [sh (.str x),si p,Ae,y] 3 DS) (cF Z [sh (.str x),si p,Ae,y] 3 NT) ((wsF x).map D.str)=.ok ((wsF x).map λw=>oD (rsF p w)):=λy=>MB _ λw _=>by
    have e:=hr p w hp;generalize oD (rsF p w)=o at *;exact⟨rfl,by simp[cF,NT,e]⟩
   have hin:=UK p (wsF x);generalize DK x (Aa 1) (Aa (-1))=J at *;have fin:∀ L:Ac D,((wsF x).map λw=>oD (rsF p w))=L->(∀ b,Bp .In .non (.lst L)=.ok (.bl b)->(b=Ab\/L.length≠3)->ID.run Z [.str x,.int p]=.ok .non)/\(∀ v,Bp .In .non (.lst L)=.ok (.bl Ad)->L.length=3->Z.F 44 [.lst L,.int p]=.ok v->ID.run Z [.str x,.int p]=.ok v):=by
    intro L eL;rw[eL]at cp;generalize (wsF x).map D.str=WS at *;refine⟨λb hb hc=>?_,λv hb h3 e44=>?_⟩
    .by_cases h3:(L.length:Ah)=3
     .have:b=Ab:=hc.resolve_right (λz=>z (by omega))
      subst this;simp[ID,Df.run,Bz,lx,h2',i0,i1,ni,sl,sp,slE,cp,h3,hb,-LP,-Ie]
     .simp[ID,Df.run,Bz,lx,h2',i0,i1,ni,sl,sp,slE,cp,h3,-LP,-Ie]
    .have h3:(L.length:Ah)=3:=by omega
     simp[ID,Df.run,Bz,lx,h2',i0,i1,ni,sl,sp,slE,cp,h3,hb,e44,-LP,-Ie]
   obtain⟨f1,f2⟩:=fin _ rfl;cases eq:q8 ((wsF x).map (rsF p)) with
   |none=>
    rw[Nm (P5 eq)];have h:=Uk eq;unfold rsD at h;by_cases hA:((wsF x).all λw=>(rsF p w).isSome)=Ab
    .rw[At hA]at h;rcases h with h|⟨rs,h,hn⟩|h
     .cases h
     .have hn':((wsF x).map λw=>oD (rsF p w)).length≠3:=by
       have e:((wsF x).map λw=>oD (rsF p w))=rs:=by injection h
       rw[e];exact hn
      exact f1 _ hin (.inr hn')
     .have e:((wsF x).map λw=>oD (rsF p w))=[.int 0,.int 0,.int 0]:=by injection h
      rw[hA]at hin;refine f2 _ hin (by rw[e];rfl) ?_
      rw[e];exact(hf p [0,0,0] hp).1 (Ml.mpr λy hy=>by
       have:y=0:=by simpa using hy
       rw[this];exact EZ p)
    .have hA:((wsF x).all λw=>(rsF p w).isSome)=Ad:=by simpa using hA
     rw[hA]at hin;exact f1 _ hin (.inl rfl)
   |some q=>
    obtain⟨hin3,hfm,hq⟩:=Ul hp eq;rw[Qq (P3 (eb.trans ef) eq)];unfold rsD at hq;by_cases hA:((wsF x).all λw=>(rsF p w).isSome)=Ab
    .rw[At hA]at hq;have e:((wsF x).map λw=>oD (rsF p w))=[.int q.1,.int q.2.1,.int q.2.2]:=by injection hq
     rw[hA]at hin;refine f2 _ hin (by rw[e];rfl) ?_
     rw[e];obtain⟨l,u,g1,g2,g3⟩:=UX hfm;have:=(hf p (tri q) hp).2 l u g1 g2;rw[g3]at this;exact this
    .rw[AC hA]at hq;cases hq
noncomputable def oT8(p:Ah)(x:Ag):D:=match Dc p x with
  |some (s,a)=>obD p s a
  |none=>.non
noncomputable def fb(p:Ah)(xs:Ac Ag):Ao Af:=xs.findIdx? λx=>(Dc p x).isNone
theorem Q1{g:D->R Am}{f:D->R D}{p:Ah}:∀(xs:Ac Ag)(j:Ah),(∀ x∈xs,∀ i:Ah,0<=i->i<100->g (.tup [.int i,.str x])=.ok Ab/\f (.tup [.int i,.str x])=IQ p i x)->0<=j->j+xs.length<=100->(fb p xs=Ae->Bv g f (CM j (xs.map D.str))=.ok (xs.map (oT8 p)))/\(∀ k,fb p xs=Aa k->Bv g f (CM j (xs.map D.str))=.exn (exR (j+k)))
 |[],_,_,_,_=>⟨λ_=>rfl,λk z=>(nomatch z)⟩
 |x::xs,j,h,j0,hj=>by
  rw[A7]at hj;obtain⟨h1,h2⟩:=h x (AF ..) j j0 (by omega)
  obtain⟨i1,i2⟩:=Q1 xs (j+1) (λy hy=>h y (Aw _ hy)) (by omega) (by omega)
  have st:Bv g f (CM j ((x::xs).map D.str))=(g (.tup [.int j,.str x])).bind λb=>if b=Ab then (f (.tup [.int j,.str x])).bind λy=>(Bv g f (CM (j+1) (xs.map D.str))).bind λys=>.ok (y::ys) else Bv g f (CM (j+1) (xs.map D.str)):=rfl
  rw[st,h1,R.bind_ok,At rfl,h2];unfold fb at *;rw[GP];cases e:Dc p x with
  |none=>
   rw[KJ e];refine⟨λz=>by simp at z,λk z=>?_⟩
   simp at z;subst z;show R.exn (exR j)=_
   congr 2
   simp
  |some sa=>
   obtain⟨s,a⟩:=sa;rw[LR e,R.bind_ok];have eo:oT8 p x=obD p s a:=by unfold oT8;rw[e]
   refine⟨λz=>?_,λk z=>?_⟩
   .have z':(xs.findIdx? λx=>(Dc p x).isNone)=Ae:=by simpa using z
    rw[i1 z',R.bind_ok,A4,eo]
   .have:∃ k',(xs.findIdx? λx=>(Dc p x).isNone)=Aa k'/\k=k'+1:=by
     cases ek:(xs.findIdx? λx=>(Dc p x).isNone) with
     |none=>rw[ek]at z;simp at z
     |some k'=>rw[ek]at z;simp at z;exact⟨k',rfl,z.symm⟩
    obtain⟨k',e1,rfl⟩:=this;rw[i2 k' e1];show R.exn (exR (j+1+k'))=_
    congr 2
    push_cast
    omega
def Ub(Z:Gam):Prop:=∀(p:Ah)(xs:Ac Ag),P4 p->(∀ x∈xs,x.length<=1000)->xs.length<=99->(fb p xs=Ae->Z.F 37 [.int p,.lst (xs.map D.str)]=.ok (.lst (xs.map (oT8 p))))/\(∀ k,fb p xs=Aa k->Z.F 37 [.int p,.lst (xs.map D.str)]=.exn (exR k))
theorem mQ(hr:Pj Z)(p:Ah)(xs:Ac Ag)(hp:P4 p)(hx:∀ x∈xs,x.length<=1000)(hl:xs.length<=99):(fb p xs=Ae->Ll.run Z [.int p,.lst (xs.map D.str)]=.ok (.lst (xs.map (oT8 p))))/\(∀ k,fb p xs=Aa k->Ll.run Z [.int p,.lst (xs.map D.str)]=.exn (exR k)):=by
 have key:∀ X:D,(fb p xs=Ae->Bv (cTT [si p,sh X,Ae,Ae] [2,3]) (cFT Z [si p,sh X,Ae,Ae] [2,3] (.call 35 (.cons (.var 0) (.cons (.var 3) (.cons (.var 2) .nil))))) (CM 0 (xs.map D.str))=.ok (xs.map (oT8 p)))/\(∀ k,fb p xs=Aa k->Bv (cTT [si p,sh X,Ae,Ae] [2,3]) (cFT Z [si p,sh X,Ae,Ae] [2,3] (.call 35 (.cons (.var 0) (.cons (.var 3) (.cons (.var 2) .nil))))) (CM 0 (xs.map D.str))=.exn (exR (0+k))):=λX=>Q1 xs 0 (λx hx' i i0 i1=>by
  have e:=hr p i x hp i0 i1 (hx x hx');refine⟨rfl,?_⟩;cases eo:Dc p x with
  |none=>rw[KJ eo]at e ⊢;simp[cFT,ES,EI,e]
  |some sa=>
   obtain⟨s,a⟩:=sa;rw[LR eo]at e ⊢;generalize obD p s a=o at *;simp[cFT,ES,EI,e]) (by decide) (by omega)
 refine⟨λz=>?_,λk z=>?_⟩
 .have e:=λX=>(key X).1 z
  generalize xs.map (oT8 p)=M at *;generalize xs.map D.str=L at *;simp[Ll,Df.run,Bz,RH,e]
 .have e:=λX=>(key X).2 k z
  rw[Jc]at e;generalize xs.map D.str=L at *;simp[Ll,Df.run,Bz,RH,e]
end
section
variable{Z:Gam}{p:Ah}
theorem fZ(hu:Z.up 106=[106,0])(p:Ah)(x:Ag)(h:Z.F 36 [.int p,.str x]=.exn (exR 0)):Lh.run Z [.int p,.lst [.str x],.bl Ab]=.ok (.int 0):=by
 have g:CP [D.str x] 0=.ok (.str x):=rfl;have f:KY (.exc 106 [("row",.int 0)]) (Ai "row")=.ok (.int 0):=rfl;simp[Lh,Df.run,Bz,g,h,exR,hu,f,kiD,Eb]
theorem fY(hu:Z.up 106=[106,0])(p k:Ah)(L:D)(h:Z.F 37 [.int p,L]=.exn (exR k)):Lh.run Z [.int p,L,.bl Ad]=.ok (.int k):=by
 have f:KY (.exc 106 [("row",.int k)]) (Ai "row")=.ok (.int k):=rfl;simp[Lh,Df.run,Bz,h,exR,hu,f,kiD,Eb]
theorem oZ{i:Ah}(hl:x.length<=1000)(h0:0<=i)(h1:i<x.length):∃ c,FS (.str x) (.int i)=.ok (.str ⟨#[c]⟩):=by
 obtain⟨k,rfl⟩:=Ec h0;have hk0:k<x.length:=by omega
 have hk:k<x.cps.size:=hk0;refine⟨x.cps[k],?_⟩;show (if Cd x.length=Ab then CP (FU x) (k:Ah) else .bad)=_
 rw[At (sz7 hl)];exact getL_at (by unfold FU;rw[Cn,Ga,Cm hk];rfl)
theorem UF(hl:x.length<=1000):biD .len [.str x]=.ok (.int x.length):=by
 show (if Cd x.length=Ab then R.ok (D.int x.length) else .bad)=_
 rw[At (sz7 hl)]
theorem Gm(x y:Ag):(x++y).length=x.length+y.length:=VM
theorem HB{y:Ag}(h:x.length+y.length<=1000):CF .Add (.str x) (.str y)=.ok (.str (x++y)):=by
 rw[Fb,At (sz7 h)]
def UN(Z:Gam):Prop:=∀ n:Ah,∃ c,Z.F 46 [.int n]=.ok (.str ⟨#[c]⟩)
theorem sD(Z:Gam)(n:Ah):∃ c,NY.run Z [.int n]=.ok (.str ⟨#[c]⟩):=by
 have ha:(Ai " !\"#$&'()*+,-./0123456789:;<=>?@ABCDEFGHIJKLMNOPQRSTUVWXYZ[\\]^_`").length=64:=by kernel_rfl
 have hb:(Ai "abcdefghijklmnopqrstuvwxyz{|}~").length=30:=by kernel_rfl
 generalize eA:Ai " !\"#$&'()*+,-./0123456789:;<=>?@ABCDEFGHIJKLMNOPQRSTUVWXYZ[\\]^_`" = A at *
 generalize eB:Ai "abcdefghijklmnopqrstuvwxyz{|}~" = B at *;have ad:=HB (x:=A) (y:=B) (by omega)
 have lc:(A++B).length=94:=by rw[Gm,ha,hb]
 have ln:=UF (x:=A++B) (by omega)
 rw[lc]at ln;have r0:=B9 n (b:=94) (by decide)
 have r1:=BR n (b:=94) (by decide)
 obtain⟨c,hc⟩:=oZ (x:=A++B) (i:=n%94) (by omega) r0 (by rw[lc];exact r1)
 refine⟨c,?_⟩;generalize (⟨#[c]⟩:Ag)=C at *;generalize A++B=AB at *;simp[NY,Df.run,Bz,eA,eB,ad,ln,hc,-Fb]
theorem bQ{L:Ac D}(n:Ah)(h:L≠[]):∃ d∈L,CP L (n%(L.length:Ah))=.ok d:=by
 have hl:0<L.length:=Gx.mpr h;have r0:=B9 n (b:=(L.length:Ah)) (by omega)
 have r1:=BR n (b:=(L.length:Ah)) (by omega)
 obtain⟨k,hk⟩:=Ec r0;rw[hk]at r1 ⊢;have hk':k<L.length:=by omega
 exact⟨L[k],Dr _,getL_at (Bc hk')⟩
def UQ(Z:Gam):Prop:=∀(p n:Ah),P4 p->∃ x:Ag,x.length<=100/\Z.F 50 [.int p,.int n]=.ok (.str x)
theorem sG(Z:Gam)(p n:Ah)(hp:P4 p):∃ x:Ag,x.length<=100/\Mn.run Z [.int p,.int n]=.ok (.str x):=by
 have lo:=hp.lo;have hi:=hp.hi;have s1:∃ P1:Ag,biD .str [.int p]=.ok (.str P1)/\P1.length<=10:=by
  refine⟨Ai (toString p),?_,?_⟩
  .rcases hp with rfl|rfl|rfl|rfl<;>rfl
  .rcases hp with rfl|rfl|rfl|rfl<;>decide+kernel
 obtain⟨P1,s1,l1⟩:=s1;have s2:biD .str [.int (p-1)]=.ok (.str (dg (p-1).toNat)):=LI (by omega) (by omega)
 have l2:(dg (p-1).toNat).length<=10:=by
  rcases M1 (p-1).toNat with ⟨x,e⟩|⟨x,y,e⟩<;>rw[e]<;>exact BD rfl
 generalize dg (p-1).toNat=P2 at *;have k1:(Ai "(1 0 ").length<=10:=by decide+kernel
 have k2:(Ai ")").length<=10:=by decide+kernel
 have k3:(Ai "(").length<=10:=by decide+kernel
 have k4:(Ai " 1 0)").length<=10:=by decide+kernel
 have a1:=HB (x:=Ai "(1 0 ") (y:=P1) (by omega)
 have a2:=HB (x:=Ai "(1 0 " ++ P1) (y:=Ai ")") (by rw[Gm];omega)
 have a3:=HB (x:=Ai "(") (y:=P1) (by omega)
 have a4:=HB (x:=Ai "(" ++ P1) (y:=Ai " 1 0)") (by rw[Gm];omega)
 have a5:=HB (x:=Ai "(1 0 ") (y:=P2) (by omega)
 have a6:=HB (x:=Ai "(1 0 " ++ P2) (y:=Ai ")") (by rw[Gm];omega)
 have t1:(Ai "(1 0 " ++ P1++Ai ")").length<=100:=by rw[Gm,Gm];omega
 have t2:(Ai "(" ++ P1++Ai " 1 0)").length<=100:=by rw[Gm,Gm];omega
 have t3:(Ai "(1 0 " ++ P2++Ai ")").length<=100:=by rw[Gm,Gm];omega
 generalize Ai "(1 0 " ++ P1++Ai ")" = T1 at *;generalize Ai "(" ++ P1++Ai " 1 0)" = T2 at *;generalize Ai "(1 0 " ++ P2++Ai ")" = T3 at *;generalize Ai "(1 0 " ++ P1=U_1 at *
 generalize Ai "(" ++ P1=U_2 at *
 generalize Ai "(1 0 " ++ P2=U_3 at *
 have run:∀ d,CP [.str (Ai ""),.str (Ai "("),.str (Ai "()"),.str (Ai "(0 0 0)"),.str (Ai "[0 0 0]"),.str (Ai "(1 0 0]"),.str (Ai "[1 0 0)"),.str (Ai "1 0 0"),.str (Ai "(1 0)"),.str (Ai "(1 0 0 0)"),.str (Ai "(1  0 0)"),.str (Ai "( 1 0 0)"),.str (Ai "(1 0 0 )"),.str (Ai "(01 0 0)"),.str (Ai "(+1 0 0)"),.str (Ai "(-1 0 0)"),.str (Ai "(1,0,0)"),.str (Ai "(1 0 0) "),.str (Ai " (1 0 0)"),.str (Ai "((1 0 0))"),.str (Ai "(1 0 00)"),.str T1,.str T2,.str (Ai "(0 0 1)"),.str (Ai "{1 0 0}"),.str T3,.str (Ai "(1 0 a)")] (n%27)=.ok d->Mn.run Z [.int p,.int n]=.ok d:=λd hd=>by
  simp[Mn,Df.run,Bz,s1,s2,a1,a2,a3,a4,a5,a6,Cd,hd,-Fb]
 obtain⟨d,hm,hg⟩:=bQ (L:=[.str (Ai ""),.str (Ai "("),.str (Ai "()"),.str (Ai "(0 0 0)"),.str (Ai "[0 0 0]"),.str (Ai "(1 0 0]"),.str (Ai "[1 0 0)"),.str (Ai "1 0 0"),.str (Ai "(1 0)"),.str (Ai "(1 0 0 0)"),.str (Ai "(1  0 0)"),.str (Ai "( 1 0 0)"),.str (Ai "(1 0 0 )"),.str (Ai "(01 0 0)"),.str (Ai "(+1 0 0)"),.str (Ai "(-1 0 0)"),.str (Ai "(1,0,0)"),.str (Ai "(1 0 0) "),.str (Ai " (1 0 0)"),.str (Ai "((1 0 0))"),.str (Ai "(1 0 00)"),.str T1,.str T2,.str (Ai "(0 0 1)"),.str (Ai "{1 0 0}"),.str T3,.str (Ai "(1 0 a)")]) n (by simp)
 have key:∃ x:Ag,d=.str x/\x.length<=100:=by
  simp only[AI,Ch,EB]at hm;rcases hm with h|h|h|h|h|h|h|h|h|h|h|h|h|h|h|h|h|h|h|h|h|h|h|h|h|h|h
  all_goals first
   |exact⟨_,h,t1⟩
   |exact⟨_,h,t2⟩
   |exact⟨_,h,t3⟩
   |exact⟨_,h,by decide+kernel⟩
 obtain⟨x,rfl,hx⟩:=key;exact⟨x,hx,run _ hg⟩
theorem S4(xs:Ac Ag)(l u:Ao Ah):∃ ys:Ac Ag,(∀ y∈ys,y∈xs)/\ys.length<=xs.length/\EL (xs.map D.str) l u=ys.map D.str:=by
 unfold EL;rw[<-List.map_drop,<-List.map_take];exact⟨_,λy hy=>List.mem_of_mem_drop (List.mem_of_mem_take hy),by rw[FZ,Hh];omega,rfl⟩
def UU(Z:Gam):Prop:=∀(p m:Ah)(xs:Ac Ag)(B:Af),P4 p->0<=m->100<=B->B<=450->(∀ x∈xs,x.length<=B)->xs.length<=45->∃ ys:Ac Ag,(∀ y∈ys,y.length<=2*B+1)/\ys.length<=2*xs.length+1/\Z.F 51 [.int p,.lst (xs.map D.str),.int m]=.ok (.lst (ys.map D.str))
theorem sJ(ho:UQ Z)(hs:UN Z)(p m:Ah)(xs:Ac Ag)(B:Af)(hp:P4 p)(m0:0<=m)(b0:100<=B)(b1:B<=450)(hx:∀ x∈xs,x.length<=B)(hl:xs.length<=45):∃ ys:Ac Ag,(∀ y∈ys,y.length<=2*B+1)/\ys.length<=2*xs.length+1/\JO.run Z [.int p,.lst (xs.map D.str),.int m]=.ok (.lst (ys.map D.str)):=by
 have ln:(xs.map D.str).length=xs.length:=Bo ..;have r0:=B9 (m/4) (b:=(xs.length:Ah)+1) (by omega)
 have r1:=BR (m/4) (b:=(xs.length:Ah)+1) (by omega)
 have q1:(0:Ah)<(xs.length:Ah)+1:=by omega
 have mid:∀(l1 u1 l2 u2:Ao Ah)(z:Ag),z.length<=2*B+1->∃ ys:Ac Ag,(∀ y∈ys,y.length<=2*B+1)/\ys.length<=2*xs.length+1/\EL (xs.map D.str) l1 u1++[D.str z]++EL (xs.map D.str) l2 u2=ys.map D.str/\(EL (xs.map D.str) l1 u1).length<=45/\(EL (xs.map D.str) l2 u2).length<=45:=λl1 u1 l2 u2 z hz=>by
  obtain⟨ys,y1,y2,y3⟩:=S4 xs l1 u1;obtain⟨zs,z1,z2,z3⟩:=S4 xs l2 u2;refine⟨ys++[z]++zs,λy hy=>?_,by simp only[BS,De];omega,by rw[y3,z3];simp,by rw[y3,Bo];omega,by rw[z3,Bo];omega⟩
  rcases DC.mp hy with hy|hy
  .rcases DC.mp hy with hy|hy
   .have:=hx y (y1 y hy);omega
   .rw[Bf.mp hy];exact hz
  .have:=hx y (z1 y hy);omega
 have sz:∀{n:Af},n<=1000->Cd n=Ab:=λh=>sz7 h
 generalize ht:m/4%((xs.length:Ah)+1)=t at *;by_cases c1:m%4=0\/t=xs.length
 .obtain⟨x,hxl,e50⟩:=ho p (m/40) hp;obtain⟨ys,y1,y2,y3,y4,y5⟩:=mid Ae (Aa t) (Aa t) Ae x (by omega)
  refine⟨ys,y1,y2,?_⟩;have a1:CF .Add (.lst (EL (xs.map D.str) Ae (Aa t))) (.lst [.str x])=.ok (.lst (EL (xs.map D.str) Ae (Aa t)++[.str x])):=by
   rw[Gq,At (sz (by simp;omega))]
  have a2:CF .Add (.lst (EL (xs.map D.str) Ae (Aa t)++[.str x])) (.lst (EL (xs.map D.str) (Aa t) Ae))=.ok (.lst (ys.map D.str)):=by
   rw[Gq,At (sz (by simp;omega)),y3]
  generalize ys.map D.str=Y_ at *;generalize xs.map D.str=L at *;have c1':m%4=0\/(¬ m%4=0/\t=xs.length):=by omega
  rcases c1' with c1|⟨c0,c1⟩
  .simp[JO,Df.run,Bz,ln,ht,q1,c1,slE,e50,a1,a2,Dq,-Gq]
  .simp[JO,Df.run,Bz,ln,ht,q1,c0,c1,slE,e50,Dq,-Gq];rw[c1]at a1 a2;simp[a1,a2,-Gq]
 .have c0:¬ m%4=0:=λz=>c1 (.inl z)
  have c2:¬ t=xs.length:=λz=>c1 (.inr z)
  obtain⟨k,hk⟩:=Ec r0;have hkl:k<xs.length:=by omega
  have hx0:=hx xs[k] (Dr _);have ix:CP (xs.map D.str) t=.ok (.str xs[k]):=by
   rw[hk];exact getL_at (by rw[Cn,Bc hkl];rfl)
  generalize xs[k]=x0 at *;have lx:=UF (x:=x0) (by omega)
  have q2:(0:Ah)<(x0.length:Ah)+1:=by omega
  obtain⟨cc,e46⟩:=hs (m/400);have lC:(⟨#[cc]⟩:Ag).length=1:=rfl;generalize (⟨#[cc]⟩:Ag)=C at *;generalize hu:m/40%((x0.length:Ah)+1)=u at *;have s1:=sl8 (x:=x0) (by omega) Ae (Aa u)
  have s2:=sl8 (x:=x0) (by omega) (Aa (u+1)) Ae
  have s3:=sl8 (x:=x0) (by omega) (Aa u) Ae
  have n1:=LA x0 Ae (Aa u);have n2:=LA x0 (Aa (u+1)) Ae;have n3:=LA x0 (Aa u) Ae;generalize DK x0 Ae (Aa u)=K1 at *;generalize DK x0 (Aa (u+1)) Ae=K2 at *;generalize DK x0 (Aa u) Ae=K3 at *;have d1:=HB (x:=K1) (y:=K2) (by omega)
  have d2:=HB (x:=K1) (y:=C) (by omega)
  have l12:=Gm K1 K2;have l1c:=Gm K1 C;have d3:=HB (x:=K1++C) (y:=K3) (by omega)
  have d4:=HB (x:=K1++C) (y:=K2) (by omega)
  have l13:=Gm (K1++C) K3;have l14:=Gm (K1++C) K2;have fin:∀ z:Ag,z.length<=2*B+1->∃ ys:Ac Ag,(∀ y∈ys,y.length<=2*B+1)/\ys.length<=2*xs.length+1/\CF .Add (.lst (EL (xs.map D.str) Ae (Aa t))) (.lst [.str z])=.ok (.lst (EL (xs.map D.str) Ae (Aa t)++[.str z]))/\CF .Add (.lst (EL (xs.map D.str) Ae (Aa t)++[.str z])) (.lst (EL (xs.map D.str) (Aa (t+1)) Ae))=.ok (.lst (ys.map D.str)):=λz hz=>by
   obtain⟨ys,y1,y2,y3,y4,y5⟩:=mid Ae (Aa t) (Aa (t+1)) Ae z hz;refine⟨ys,y1,y2,?_,?_⟩
   .rw[Gq,At (sz (by simp;omega))]
   .rw[Gq,At (sz (by simp;omega)),y3]
  have hw:m%4=1\/m%4=2\/m%4=3:=by omega
  rcases hw with w|w|w
  .obtain⟨ys,y1,y2,a1,a2⟩:=fin (K1++K2) (by omega)
   refine⟨ys,y1,y2,?_⟩;generalize K1++K2=Z_ at *;generalize ys.map D.str=Y_ at *;generalize xs.map D.str=L at *;simp[JO,Df.run,Bz,ln,ht,q1,w,c2,slE,ix,lx,hu,q2,s1,s2,d1,a1,a2,Dq,-Gq,-Fb]
  .obtain⟨ys,y1,y2,a1,a2⟩:=fin (K1++C++K3) (by omega)
   refine⟨ys,y1,y2,?_⟩;generalize K1++C++K3=Z_ at *;generalize K1++C=Z_1 at *;generalize ys.map D.str=Y_ at *;generalize xs.map D.str=L at *;simp[JO,Df.run,Bz,ln,ht,q1,w,c2,slE,ix,lx,hu,q2,s1,s3,e46,d2,d3,a1,a2,Dq,-Gq,-Fb]
  .obtain⟨ys,y1,y2,a1,a2⟩:=fin (K1++C++K2) (by omega)
   refine⟨ys,y1,y2,?_⟩;generalize K1++C++K2=Z_ at *;generalize K1++C=Z_1 at *;generalize ys.map D.str=Y_ at *;generalize xs.map D.str=L at *;simp[JO,Df.run,Bz,ln,ht,q1,w,c2,slE,ix,lx,hu,q2,s1,s2,e46,d2,d4,a1,a2,Dq,-Gq,-Fb]
end
theorem UE(p:Ah)(x:Ag):(Dc p x=Ae/\dD p x=.non)\/∃ s a,Dc p x=Aa (s,a)/\dD p x=Ck Ab a:=by
 cases e:Dc p x with
 |none=>exact .inl ⟨rfl,Nm e⟩
 |some sa=>exact .inr ⟨sa.1,sa.2,rfl,Qq e⟩
theorem UA(p:Ah)(x:Ag):flD 5 (dD p x)=Ab/\flD 4 (dD p x)=Ab:=by
 rcases UE p x with ⟨_,e⟩|⟨s,a,_,e⟩<;>rw[e]
 .exact⟨rfl,rfl⟩
 .exact⟨rfl,rfl⟩
theorem UC(p:Ah)(x:Ag):eqD (dD p x) (dD p x)=Ab/\eqD (dD p x) .non=(Dc p x).isNone:=by
 rcases UE p x with ⟨e0,e⟩|⟨s,a,e0,e⟩<;>rw[e,e0]
 .exact⟨rfl,rfl⟩
 .refine⟨(nJ a a).trans (D2 rfl),rfl⟩
theorem Te(p:Ah):∀ xs:Ac Ag,eqDs (xs.map (dD p)) (xs.map (dD p))=Ab
 |[]=>rfl
 |x::xs=>by
  show (eqD (dD p x) (dD p x)&&eqDs (xs.map (dD p)) (xs.map (dD p)))=Ab;rw[(UC p x).1,Te p xs];rfl
theorem TM(p:Ah)(xs:Ac Ag):(xs.map (dD p)).all (flD 5)=Ab/\flD 5 (.lst (xs.map (dD p)))=Ab:=by
 constructor
 .rw[D3];exact Br.mpr λx _=>(UA p x).1
 .show (xs.map (dD p)).all (flD 4)=Ab;rw[D3];exact Br.mpr λx _=>(UA p x).2
theorem oC(p:Ah)(xs:Ac Ag):Bp .In .non (.lst (xs.map (dD p)))=.ok (.bl (fb p xs).isSome)/\∀ k,fb p xs=Aa k->biD .index [.lst (xs.map (dD p)),.non]=.ok (.int (k:Ah)):=by
 have fl:=(TM p xs).1;have ef:((λy=>eqD y .non) ∘ dD p)=λx=>(Dc p x).isNone:=funext λx=>(UC p x).2
 constructor
 .show (if (Ab&&(xs.map (dD p)).all (flD 5))=Ab then R.ok (D.bl ((xs.map (dD p)).any λy=>eqD y .non)) else .bad)=_
  rw[fl,At (show (Ab&&Ab)=Ab from rfl),Gd,ef]
  congr 2
  unfold fb;rw[List.findIdx?_isSome]
 .intro k h;show (if (Ab&&(xs.map (dD p)).all (flD 5))=Ab then (match (xs.map (dD p)).findIdx? (λy=>eqD y .non) with|some j=>R.ok (D.int (j:Af))|none=>.bad) else .bad)=_
  rw[fl,At (show (Ab&&Ab)=Ab from rfl),V4,ef]
  unfold fb at h;rw[h]
theorem S1:∀ xs:Ac Ag,eqDs (xs.map D.str) (xs.map D.str)=Ab
 |[]=>rfl
 |x::xs=>by
  show ((x==x)&&eqDs (xs.map D.str) (xs.map D.str))=Ab;rw[S1 xs];simp
theorem iY(xs:Ac Ag):flD 5 (.lst (xs.map D.str))=Ab:=by
 show (xs.map D.str).all (flD 4)=Ab;rw[D3];exact Br.mpr λ_ _=>rfl
noncomputable def KU:Ag:=Ai "(0 0 0)"
theorem uA(hp:P4 p):Dc p KU=Ae:=by
 refine P5 ?_;have e:(wsF KU).map (rsF p)=[Aa 0,Aa 0,Aa 0]:=by
  rcases hp with rfl|rfl|rfl|rfl<;>decide+kernel
 rw[e];rfl
noncomputable def bB:Af->Af
 |0=>100
 |n+1=>2*bB n+1
noncomputable def cC:Af->Af
 |0=>8
 |n+1=>2*cC n+1
structure H08 (Z:Gam):Prop where
 mi:OZ Z
 pr:SX Z
 tr:oH Z
 ch:UU Z
 fr:Z.fr 51=Ab
 du:T9 Z
 al:Ub Z
 ma:∀(p:Ah)(x:Ag),P4 p->x.length<=1000->Dc p x=Ae->Z.F 49 [.int p,.lst [.str x],.bl Ab]=.ok (.int 0)
 mb:∀(p:Ah)(xs:Ac Ag)(k:Af),P4 p->(∀ x∈xs,x.length<=1000)->xs.length<=99->fb p xs=Aa k->Z.F 49 [.int p,.lst (xs.map D.str),.bl Ad]=.ok (.int (k:Ah))
 wh:iQ Z
 to:SV Z
section
variable{Z:Gam}{ns:Ac Ah}{p:Ah}
theorem nG(h:H08 Z)(hp:P4 p)(j:Af)(xs:Ac Ag)(hl:xs.length<=20)(s3 s4 s5:Sl):∃ x:Ag,x.length<=100/\∃ s5',Dz Z 3 Mi (.int (0+(j:Ah))) [sh (scr ns),si p,Aa (.lst (xs.map D.str),Ab),s3,s4,s5,Ae,Ae,Ae,Ae,Ae,Ae,Ae,Ae]=.next [sh (scr ns),si p,Aa (.lst ((xs++[x]).map D.str),Ab),si j,si (Ib ns j),s5',Ae,Ae,Ae,Ae,Ae,Ae,Ae,Ae]:=by
 have em:=h.mi ns j;have m0:=TC ns j;generalize Ib ns j=m at *;obtain⟨q,nq,e40⟩:=h.tr p (m/2) hp;have hin:=nq.1;obtain⟨s0,s1,s2⟩:=iR hp hin;have jo:=rX hp hin;have t:=O6 hp hin;have es:sI (decide (m%2=1))=m%2:=by
  unfold sI b2i;by_cases z:m%2=1
  .simp[z]
  .have:m%2=0:=by omega
   simp[this]
 obtain⟨a1,a2⟩:=Yq hp hin (decide (m%2=1));have i0:CP [D.str (Ai "("),D.str (Ai "[")] (sI (decide (m%2=1)))=.ok (.str (br0 (decide (m%2=1)))):=nY _
 have i1:CP [D.str (Ai ")"),D.str (Ai "]")] (sI (decide (m%2=1)))=.ok (.str (br1 (decide (m%2=1)))):=nX _
 rw[es]at i0 i1;have lt:(tq (decide (m%2=1)) q).length<=20:=t.tl _;refine⟨tq (decide (m%2=1)) q,by omega,sh (.str (jq q)),?_⟩
 have sz:Cd ((xs.map D.str).length+1)=Ab:=sz7 (by rw[Bo];omega)
 rw[Wa,A4,D5];have cp:∀(L:D)(y:Sl),Bv (cG Z [sh (scr ns),si p,Aa (L,Ab),si j,si m,y,Ae,Ae,Ae,Ae,Ae,Ae,Ae,Ae] 11 DS) (cF Z [sh (scr ns),si p,Aa (L,Ab),si j,si m,y,Ae,Ae,Ae,Ae,Ae,Ae,Ae,Ae] 11 NE) [.int q.1,.int q.2.1,.int q.2.2]=.ok [.str (dg q.1.toNat),.str (dg q.2.1.toNat),.str (dg q.2.2.toNat)]:=λL y=>by
  simp[Bv,cG,cF,DS,NE,s0,s1,s2]
 have sq:=kD Ab q;generalize tq (decide (m%2=1)) q=X at *;generalize jq q=J at *;generalize br0 (decide (m%2=1))++J=BJ at *;generalize br0 (decide (m%2=1))=B0 at *;generalize br1 (decide (m%2=1))=B1 at *;generalize Ck Ab q=Q at *;generalize dg q.1.toNat=d1 at *;generalize dg q.2.1.toNat=d2 at *;generalize dg q.2.2.toNat=d3 at *;generalize xs.map D.str=L at *;generalize scr ns=S at *;simp[Dz,Mi,em,e40,sq,cp,jo,i0,i1,a1,a2,Ea,sz,-Fb]
theorem nF(h:H08 Z)(hp:P4 p)(j n:Af)(hn:n<=2)(xs:Ac Ag)(hx:∀ x∈xs,x.length<=bB n)(hl:xs.length<=cC n)(s3 s4 s5:Sl):∃ ys:Ac Ag,(∀ y∈ys,y.length<=bB (n+1))/\ys.length<=cC (n+1)/\Dz Z 3 Mh (.int (0+(j:Ah))) [sh (scr ns),si p,Aa (.lst (xs.map D.str),Ab),s3,s4,s5,Ae,Ae,Ae,Ae,Ae,Ae,Ae,Ae]=.next [sh (scr ns),si p,Aa (.lst (ys.map D.str),Ab),si j,s4,s5,Ae,Ae,Ae,Ae,Ae,Ae,Ae,Ae]:=by
  have em:=h.mi ns (62+j);have m0:=TC ns (62+j);generalize Ib ns (62+j)=m at *;have bb:100<=bB n/\bB n<=450/\cC n<=45:=by
    match n,hn with
    |0,_=>decide
    |1,_=>decide
    |2,_=>decide
    |k+3,h=>omega
  obtain⟨ys,y1,y2,e⟩:=h.ch p m xs (bB n) hp m0 bb.1 bb.2.1 hx (by omega)
  refine⟨ys,y1,by show ys.length<=2*cC n+1;omega,?_⟩
  have fr:=h.fr;have nl:(ys.map D.str).all (nlD 5)=Ab:=by
    rw[D3];exact Br.mpr λ_ _=>rfl
  have cl:FT Ab (.lst (ys.map D.str))=Ab:=by
    show (Ab&&(ys.map D.str).all (nlD 5))=Ab;rw[nl];rfl
  generalize ys.map D.str=Y_ at *;generalize xs.map D.str=L at *;generalize scr ns=S at *;simp[Dz,Mh,em,e,Dq,fr,cl]
theorem nI(h:H08 Z):Mo.run Z [scr ns]=.ok (.bl Ab):=by
  obtain⟨p,hp,ep⟩:∃ p,P4 p/\Z.F 4 [scr ns,.int 60]=.ok (.int p):=⟨_,bT ns 60,h.pr ns 60⟩;have em:=h.mi ns 61;generalize Ib ns 61=m at *;have ln:biD .len [scr ns]=.ok (.int ns.length):=by show R.ok (D.int ((ns.map D.int).length:Af))=_;rw[Bo]
  have h8:0<=(if (ns.length:Ah)<8 then (ns.length:Ah) else 8)/\(if (ns.length:Ah)<8 then (ns.length:Ah) else 8)<=8:=by split<;>omega
  generalize hq:(if (ns.length:Ah)<8 then (ns.length:Ah) else 8)=q at *
  have rg:Ee 0 q=.ok (EW 0 q.toNat):=Ol h8.1 (by omega)
  obtain⟨U1,e1,xs,hl,hx,s3,s4,s5,rfl⟩:=NU (body:=Dz Z 3 Mi) (λn U=>∃ xs:Ac Ag,xs.length=n/\(∀ x∈xs,x.length<=100)/\∃ s3 s4 s5:Sl,U=[sh (scr ns),si p,Aa (.lst (xs.map D.str),Ab),s3,s4,s5,Ae,Ae,Ae,Ae,Ae,Ae,Ae,Ae]) (EW 0 q.toNat) 0 [sh (scr ns),si p,Aa (.lst [],Ab),Ae,Ae,Ae,Ae,Ae,Ae,Ae,Ae,Ae,Ae,Ae] ⟨[],rfl,λ_ z=>absurd z (by simp),Ae,Ae,Ae,rfl⟩ (by
    rintro i x hx U ⟨xs,hl,hv,s3,s4,s5,rfl⟩;obtain⟨hi,rfl⟩:=OF hx;obtain⟨x,hx1,s5',e⟩:=nG (ns:=ns) h hp i xs (by omega) s3 s4 s5
    refine⟨_,e,xs++[x],by rw[BS,De];omega,λu hu=>?_,_,_,_,rfl⟩
    rcases DC.mp hu with z|z
    · exact hv u z
    · rw[Bf.mp z];exact hx1)
  have hl8:xs.length<=8:=by rw[hl,Lk];omega
  have r0:=B9 m (b:=4) (by decide)
  have r1:=BR m (b:=4) (by decide)
  have rg2:Ee 0 (m%4)=.ok (EW 0 (m%4).toNat):=Ol r0 (by omega)
  obtain⟨U2,e2,ys,hy,hyl,u3,rfl⟩:=NU (body:=Dz Z 3 Mh) (λn U=>∃ ys:Ac Ag,(∀ y∈ys,y.length<=bB n)/\ys.length<=cC n/\∃ u3:Sl,U=[sh (scr ns),si p,Aa (.lst (ys.map D.str),Ab),u3,s4,s5,Ae,Ae,Ae,Ae,Ae,Ae,Ae,Ae]) (EW 0 (m%4).toNat) 0 [sh (scr ns),si p,Aa (.lst (xs.map D.str),Ab),s3,s4,s5,Ae,Ae,Ae,Ae,Ae,Ae,Ae,Ae] ⟨xs,hx,hl8,s3,rfl⟩ (by
    rintro i x hx U ⟨ys,y1,y2,u3,rfl⟩;obtain⟨hi,rfl⟩:=OF hx;rw[Hk]at y1 y2;obtain⟨zs,z1,z2,e⟩:=nF (ns:=ns) h hp i i (by omega) ys y1 y2 u3 s4 s5
    exact⟨_,e,zs,by rw[Hk];exact z1,by rw[Hk];exact z2,_,rfl⟩)
  rw[Hk,Lk]at hy hyl;have bb:bB (m%4).toNat<=1000/\cC (m%4).toNat<=90:=by
    have:(m%4).toNat<=3:=by omega
    generalize (m%4).toNat=k at *
    match k,this with
    |0,_=>decide
    |1,_=>decide
    |2,_=>decide
    |3,_=>decide
    |k+4,h=>omega
  have hy:∀ y∈ys,y.length<=1000:=λy hy'=>By (hy y hy') bb.1
  have hyl:ys.length<=90:=By hyl bb.2
  clear hx hl
  have cp:∀ a b:Sl,Bv (cG Z [sh (scr ns),si p,sh (.lst (ys.map D.str)),u3,s4,s5,a,b,Ae,Ae,Ae,Ae,Ae,Ae] 12 DS) (cF Z [sh (scr ns),si p,sh (.lst (ys.map D.str)),u3,s4,s5,a,b,Ae,Ae,Ae,Ae,Ae,Ae] 12 ND) (ys.map D.str)=.ok (ys.map (dD p)):=λa b=>MB ys λy hy'=>by
    have e:=h.du p y hp (hy y hy');generalize dD p y=d at *;generalize D.lst (ys.map D.str)=L at *;generalize scr ns=S at *;exact⟨rfl,by simp[cF,ND,e]⟩
  obtain⟨hin,hix⟩:=oC p ys;have fl:=iY ys;have eq:eqD (.lst (ys.map D.str)) (.lst (ys.map D.str))=Ab:=S1 ys;have lL:(ys.map D.str).length=ys.length:=Bo ..;cases eb:fb p ys with
  |some k=>
    have e49:=h.mb p ys k hp hy (by omega) eb
    have hk:k<ys.length/\∀ hk:k<ys.length,Dc p ys[k]=Ae:=by
      unfold fb at eb;obtain⟨g1,g2,_⟩:=V3.mp eb;exact⟨g1,λ_=>by simpa using g2⟩
    have hd:=hk.2 hk.1;have e49b:=h.ma p ys[k] hp (hy _ (Dr _)) hd;have ix:CP (ys.map D.str) (k:Ah)=.ok (.str ys[k]):=getL_at (by rw[Cn,Bc hk.1];rfl)
    have hi:=hix k eb;rw[eb]at hin;have hin:Bp .In .non (.lst (ys.map (dD p)))=.ok (.bl Ab):=hin;have wh:=h.wh k 0 ys.length;have w1:decide ((0:Ah)<=(k:Ah))=Ab:=D2 (by omega)
    have w2:decide ((k:Ah)<=(ys.length:Ah))=Ab:=D2 (by have:=hk.1;omega)
    rw[w1,w2]at wh;generalize ys[k]=x at *;generalize ys.map (dD p)=DU at *;generalize ys.map D.str=L at *;generalize EW 0 q.toNat=R1 at *;generalize EW 0 (m%4).toNat=R2 at *;generalize scr ns=S at *;simp[Mo,Df.run,Bz,ep,ln,hq,rg,e1,Dq,em,rg2,e2,SZ,cp,hin,hi,e49,ix,e49b,lL,wh,fl,eq,-Ie]
  |none=>
    have e37:=(h.al p ys hp hy (by omega)).1 eb
    rw[eb]at hin;have hin:Bp .In .non (.lst (ys.map (dD p)))=.ok (.bl Ad):=hin;have good:∀ y∈ys,∃ s a,Dc p y=Aa (s,a):=λy hy'=>by
      unfold fb at eb;have:=List.findIdx?_eq_none_iff.mp eb y hy';cases e:Dc p y with
      |none=>rw[e]at this;simp at this
      |some sa=>exact⟨sa.1,sa.2,rfl⟩
    have eb2:fb p (ys++[KU])=Aa ys.length:=by
      unfold fb;rw[V2];unfold fb at eb;rw[eb];simp[uA hp]
    have z7:KU.length<=1000:=by decide+kernel
    have e49:=h.mb p (ys++[KU]) _ hp (λy hy'=>by
      rcases DC.mp hy' with z|z
      · exact hy y z
      · rw[Bf.mp z];exact z7) (by rw[BS,De];omega) eb2
    rw[Wa,A4,D5]at e49;have ad:CF .Add (.lst (ys.map D.str)) (.lst [.str (Ai "(0 0 0)")])=.ok (.lst (ys.map D.str++[.str KU])):=by
      rw[Gq,At (sz7 (by simp;omega))]
      rfl
    have cp2:∀(a b:Sl)(O:D),Bv (cG Z [sh (scr ns),si p,sh (.lst (ys.map D.str)),u3,s4,s5,a,b,Ae,Ae,sh O,Ae,Ae,Ae] 13 DS) (cF Z [sh (scr ns),si p,sh (.lst (ys.map D.str)),u3,s4,s5,a,b,Ae,Ae,sh O,Ae,Ae,Ae] 13 Lg) (ys.map (oT8 p))=.ok (ys.map (dD p)):=λa b O=>by
      have key:∀ zs:Ac Ag,(∀ y∈zs,∃ s a,Dc p y=Aa (s,a))->Bv (cG Z [sh (scr ns),si p,sh (.lst (ys.map D.str)),u3,s4,s5,a,b,Ae,Ae,sh O,Ae,Ae,Ae] 13 DS) (cF Z [sh (scr ns),si p,sh (.lst (ys.map D.str)),u3,s4,s5,a,b,Ae,Ae,sh O,Ae,Ae,Ae] 13 Lg) (zs.map (oT8 p))=.ok (zs.map (dD p)):=by
        intro zs
        induction zs with
        |nil=>intro _;rfl
        |cons y zs ih=>
          intro hz;obtain⟨s,c,e⟩:=hz y (AF ..);have eo:oT8 p y=obD p s c:=by unfold oT8;rw[e]
          have ed:=Qq e;have t:=h.to p s c;have me:LQ Z.F (Ai "told") [(1,920),(2,920)] (obD p s c)=.ok (Ck Ab c):=by cases s<;>exact t
          rw[A4,A4,eo,ed];have f1:cF Z [sh (scr ns),si p,sh (.lst (ys.map D.str)),u3,s4,s5,a,b,Ae,Ae,sh O,Ae,Ae,Ae] 13 Lg (obD p s c)=.ok (Ck Ab c):=by
            generalize obD p s c=o at *;generalize Ck Ab c=Q at *;generalize D.lst (ys.map D.str)=L at *;generalize scr ns=S at *;simp[cF,Lg,me]
          show (cG Z _ 13 DS (obD p s c)).bind _=_;have g1:cG Z [sh (scr ns),si p,sh (.lst (ys.map D.str)),u3,s4,s5,a,b,Ae,Ae,sh O,Ae,Ae,Ae] 13 DS (obD p s c)=.ok Ab:=rfl;rw[g1,R.bind_ok,At rfl,f1,R.bind_ok];show (Bv _ _ (zs.map (oT8 p))).bind _=_;rw[ih λy hy'=>hz y (Aw _ hy')]
          rfl
      exact key ys good
    have fd:=(TM p ys).2;have qd:eqD (.lst (ys.map (dD p))) (.lst (ys.map (dD p)))=Ab:=Te p ys;generalize ys.map (oT8 p)=OT at *;generalize ys.map (dD p)=DU at *;generalize ys.map D.str=L at *;generalize EW 0 q.toNat=R1 at *;generalize EW 0 (m%4).toNat=R2 at *;generalize scr ns=S at *;simp[Mo,Df.run,Bz,ep,ln,hq,rg,e1,Dq,em,rg2,e2,SZ,cp,hin,e37,fl,eq,ad,e49,lL,cp2,fd,qd,-Ie,-Gq]
end
noncomputable def Zu:E:=(.bl Ab)
noncomputable def Zt:Ss:=(.cons .pass .nil)
noncomputable def iJ:Df:=⟨1,Ad,(.cons (.whl Zu Zt) .nil)⟩
noncomputable def YU:Df:=⟨1,Ad,(.cons (.expr (.call 32 (.cons (.int 1) .nil))) .nil)⟩
noncomputable def YS:Df:=⟨1,Ad,(.cons (.expr (.call 32 (.cons (.int 4) .nil))) .nil)⟩
noncomputable def uB:Af->Ac Af
 |2=>[2,0]
 |3=>[3,0]
 |106=>[106,0]
 |_=>[]
noncomputable def Qc:Af->Ac D->R Ex
 |2,_=>.ok ⟨2,[]⟩
 |3,_=>.ok ⟨3,[]⟩
 |106,ds=>mkI 106 "row" ds
 |_,_=>.bad
noncomputable def Q08:Prg:=⟨Ab,fun
 |32=>iJ
 |1=>Po
 |9=>Mc
 |17=>Mr
 |33=>Mf
 |34=>Mg
 |35=>Jo
 |36=>Mq
 |37=>Ll
 |2=>NQ
 |3=>N8
 |4=>N7
 |40=>Lo
 |44=>Ln
 |6=>N6
 |46=>NY
 |47=>Ms
 |48=>ID
 |49=>Lh
 |50=>Mn
 |51=>JO
 |52=>Mo
 |900=>mkC 0
 |901=>mkC 1
 |902=>mkC 2
 |910=>inC
 |920=>NG
 |931=>YU
 |932=>YS
 | _=>⟨0,Ad,.nil⟩,λ_=>.non,uB,Qc⟩
theorem rW(ns:Ac Ah):(gam Q08 9).F 52 [scr ns]=.ok (.bl Ab):=by
 have rs:∀ n,MR (gam Q08 (n+1)):=λn p m hp=>mK (gam Q08 n) p m hp
 have tu:∀ n,N9 (gam Q08 (n+2)):=λn p m hp z=>ZM (rs n) p m hp z
 have fo:∀ n,O0 (gam Q08 (n+3)):=λn p b xs l t hp e it=>gB (rs (n+1)) (tu n) hp e it
 have ii:∀ n,UT (gam Q08 (n+4)):=λn p b q a hp h=>sH (fo n) p b q a hp h
 have mk:∀ n,UR (gam Q08 (n+5)):=λn p s b q a hp h=>by
  cases s with
  |false=>exact Uw (ii n) 1 p b q a hp h
  |true=>exact Uw (ii n) 2 p b q a hp h
 have xn:∀ n,UM (gam Q08 n):=λn r r0 r1=>by
  have e:xfD 0 (.int r)=Ab:=by
   show (decide (0<=r)&&decide (r<100))=Ab;rw[D2 r0,D2 r1];rfl
  have g:(gam Q08 n).xn 106 [.int r]=mkI 106 "row" [.int r]:=by cases n<;>rfl
  rw[g];show (if xfD 0 (.int r)=Ab then R.ok _ else .bad)=_
  rw[At e];rfl
 have ce:∀ n,Ua (gam Q08 (n+1)):=λn ns k=>mP (gam Q08 n) ns k
 have mi:∀ n,OZ (gam Q08 (n+2)):=λn ns k=>dE (ce n) ns k
 have pr:∀ n,SX (gam Q08 (n+3)):=λn ns k=>dC (mi n) ns k
 have sg:∀ n,UN (gam Q08 (n+1)):=λn m=>sD (gam Q08 n) m
 have od:∀ n,UQ (gam Q08 (n+1)):=λn p m hp=>sG (gam Q08 n) p m hp
 have ch:∀ n,UU (gam Q08 (n+2)):=λn p m xs B hp m0 b0 b1 hx hl=>sJ (od n) (sg n) p m xs B hp m0 b0 b1 hx hl
 have rr:∀ n,UP (gam Q08 (n+1)):=λn p w hp=>sF (gam Q08 n) p w hp
 have rt:∀ n,T8 (gam Q08 (n+2)):=λn p ws hp=>mJ (rr n) p ws hp
 have rl:∀ n,UO (gam Q08 (n+1)):=λn p w hp=>sE (gam Q08 n) p w hp
 have lf:∀ n,US (gam Q08 (n+1)):=λn p xs hp=>gA (gam Q08 n) hp
 have du:∀ n,T9 (gam Q08 (n+2)):=λn p x hp hl=>mO (rl n) (lf n) p x hp hl
 have ra:∀ n,Pj (gam Q08 (n+6)):=λn p r x hp r0 r1 hl=>mL (rt (n+3)) (mk n) (xn _) p r x hp r0 r1 hl
 have on:∀ n,oJ (gam Q08 (n+7)):=λn p x hp hl=>mM (ra n) p x hp hl
 have al:∀ n,Ub (gam Q08 (n+7)):=λn p xs hp hx hl=>mQ (ra n) p xs hp hx hl
 have to':∀ n,SV (gam Q08 (n+1)):=λn p s q=>dB (gam Q08 n) p s q
 refine nI (Z:=gam Q08 8) ⟨mi 6,pr 5,λp n hp=>mI (gam Q08 7) p n hp,ch 6,rfl,du 6,al 1,λp x hp hl hd=>?_,λp xs k hp hx hl hb=>?_,λx a b=>dA (gam Q08 7) x a b,to' 7⟩
 .have e:=on 0 p x hp hl;rw[KJ hd]at e;exact fZ (Z:=gam Q08 7) rfl p x e
 .exact fY (Z:=gam Q08 7) rfl p k _ ((al 0 p xs hp hx hl).2 k hb)
end OvC
namespace OvC
open PySem PySem.Spec PyProof.Rows Ov L2
variable{l:FV}
noncomputable def KS:Ac (Ag×Af×Af):=([("_wall",32,1),("rest",1,2),("turned_over",9,2),("one_form",17,2),("rest_read",33,2),("rests_read",34,2),("read_at",35,3),("read_one",36,2),("read_all",37,2),("_law_cell_at",2,2),("_law_mixed",3,2),("_law_prime",4,2),("_law_triple",40,2),("_law_form",44,2),("_law_whole",6,3),("_law_sign",46,1),("_law_rest",47,2),("_law_due",48,2),("_law_met",49,3),("_law_odd",50,2),("_law_changed",51,3),("law",52,1),("1.told",920,1),("2.told",920,1),("1.shown",931,1),("2.shown",932,1)]:Ac (Ag×Af×Af))
noncomputable def KZ:Ac Ag:=["ValueError", "any", "bool", "enumerate", "int", "isinstance", "len", "list", "min", "range", "str", "tuple"]
noncomputable def J5:Ac (Ag×Af):=[("NoOver",2),("NoTriple",3),("BadRow",106)]
noncomputable def JZ:Ac (Ag×Af):=[("BadRow",106),("OvalError",0),("NoRow",12),("NoTriple",3),("Alike",107)]
noncomputable def KR:Ac (Ag×Af):=[]
noncomputable abbrev C08(h:Am)(n:Af)(N:Ac Ag)(i d:Af):Am:=Gu 80 h KS KZ J5 JZ KR (N.take n) N (tp08 i) (Q08.defs d)
theorem oQ:C08 Ad 1 ["k"] 0 32=Ab:=by decide+kernel
theorem oP:C08 Ad 2 ["p", "n"] 9 1=Ab:=by decide+kernel
theorem oO:C08 Ad 2 ["p", "n", "turned"] 10 9=Ab:=by decide+kernel
theorem oM:C08 Ad 2 ["p", "numbers", "rests", "first", "factor", "#5", "#6"] 12 17=Ab:=by decide+kernel
theorem mZ:C08 Ad 2 ["p", "word", "number"] 17 33=Ab:=by decide+kernel
theorem mY:C08 Ad 2 ["p", "words", "rests", "#3"] 18 34=Ab:=by decide+kernel
theorem mX:C08 Ad 3 ["p", "text", "row", "rests", "brackets"] 19 35=Ab:=by decide+kernel
theorem mW:C08 Ad 2 ["p", "text"] 20 36=Ab:=by decide+kernel
theorem mV:C08 Ad 2 ["p", "texts", "#2", "#3"] 21 37=Ab:=by decide+kernel
theorem mU:C08 Ad 2 ["_law_script", "_law_k"] 23 2=Ab:=by decide+kernel
theorem iH:C08 Ad 2 ["_law_script", "_law_k"] 24 3=Ab:=by decide+kernel
theorem iG:C08 Ad 2 ["_law_script", "_law_k"] 25 4=Ab:=by decide+kernel
theorem iF:C08 Ad 2 ["_law_n", "_law_p"] 26 40=Ab:=by decide+kernel
theorem iE:C08 Ad 2 ["_law_numbers", "_law_p", "_law_rests", "_law_lead", "_law_over", "#5", "#6", "#7", "#8"] 27 44=Ab:=by decide+kernel
theorem iD:C08 Ad 3 ["_law_found", "_law_low", "_law_high"] 28 6=Ab:=by decide+kernel
theorem iC:C08 Ad 1 ["_law_cell", "_law_some"] 30 46=Ab:=by decide+kernel
theorem iB:C08 Ad 2 ["_law_word", "_law_p", "_law_some", "#3"] 31 47=Ab:=by decide+kernel
theorem iA:C08 Ad 2 ["_law_text", "_law_p", "_law_rests", "#3"] 32 48=Ab:=by decide+kernel
theorem hZ:C08 Ad 3 ["_law_p", "_law_texts", "_law_alone", "_law_row", "_law_plain", "e"] 33 49=Ab:=by decide+kernel
theorem jH:C08 Ad 2 ["_law_p", "_law_cell", "_law_some"] 34 50=Ab:=by decide+kernel
theorem jG:C08 Ad 3 ["_law_p", "_law_texts", "_law_mix", "_law_way", "_law_at", "_law_text", "_law_place"] 35 51=Ab:=by decide+kernel
theorem S7:C08 Ad 1 ["_law_script", "_law_p", "_law_texts", "_law_k", "_law_mix", "_law_words", "_law_due_here", "_law_handed", "_law_row", "_law_alone", "_law_found", "#11", "#12", "#13"] 36 52=Ab:=by decide+kernel
theorem RM:Gu 80 Ad KS KZ J5 JZ KR ["self"] ["self"] (Jx (tp08 13) 1) (Q08.defs 920)=Ab:=by decide+kernel
theorem cR:Gu 80 Ad KS KZ J5 JZ KR ["self"] ["self"] (Jx (tp08 14) 0) (Q08.defs 931)=Ab:=by decide+kernel
theorem cQ:Gu 80 Ad KS KZ J5 JZ KR ["self"] ["self"] (Jx (tp08 15) 0) (Q08.defs 932)=Ab:=by decide+kernel
theorem YK:LX 80 KS KZ J5 JZ KR (Jx (tp08 13) 0)=Ab:=by decide+kernel
theorem iS:L7 "OvalError" "row" "row" (UJ (tp08 6))=Ab:=by decide+kernel
set_option maxHeartbeats 0 in
theorem all08{w:AA}{K:Fg}{h:AG}{mg:Ag->Ao Aj}{fa f0 f1 f2 f3 f4 f5 f6 f7 f8 f9 f10 f11 f12 f13 f14 f15 f16 f17 f18 f19 f20 f21 x0 x1 x2 x3 x4 x5 ix2:Ak}(X:K.In h)(G:h.Ns AR mg)(hfa:mg "law" = Aa (.ref fa)){o0 o1 o2 mt ms0 ms1 ms2 fi:Ak}(a0:FnI K f0 "_wall" (tp08 0))(a1:FnI K f1 "rest" (tp08 9))(a2:FnI K f2 "turned_over" (tp08 10))(a3:FnI K f3 "one_form" (tp08 12))(a4:FnI K f4 "rest_read" (tp08 17))(a5:FnI K f5 "rests_read" (tp08 18))(a6:FnI K f6 "read_at" (tp08 19))(a7:FnI K f7 "read_one" (tp08 20))(a8:FnI K f8 "read_all" (tp08 21))(a9:FnI K f9 "_law_cell_at" (tp08 23))(a10:FnI K f10 "_law_mixed" (tp08 24))(a11:FnI K f11 "_law_prime" (tp08 25))(a12:FnI K f12 "_law_triple" (tp08 26))(a13:FnI K f13 "_law_form" (tp08 27))(a14:FnI K f14 "_law_whole" (tp08 28))(a15:FnI K f15 "_law_sign" (tp08 30))(a16:FnI K f16 "_law_rest" (tp08 31))(a17:FnI K f17 "_law_due" (tp08 32))(a18:FnI K f18 "_law_met" (tp08 33))(a19:FnI K f19 "_law_odd" (tp08 34))(a20:FnI K f20 "_law_changed" (tp08 35))(a21:FnI K f21 "law" (tp08 36))(oa0:OA K "Triple" o0 mt ms0 fi)(oa1:OA K "Point" o1 mt ms1 fi)(oa2:OA K "Line" o2 mt ms2 fi)(kt0:KtC K o0 [(o0,Ab),(o1,Ad),(o2,Ad)])(kt1:KtC K o1 [(o0,Ab),(o1,Ab),(o2,Ad)])(kt2:KtC K o2 [(o0,Ab),(o1,Ad),(o2,Ab)])(ii:InI K fi "Triple.__init__" (Jx (tp08 13) 0))(me920:MeI K mt "told" "Triple.told" (Jx (tp08 13) 1))(me931:MeI K ms1 "shown" "Point.shown" (Jx (tp08 14) 0))(me932:MeI K ms2 "shown" "Line.shown" (Jx (tp08 15) 0))(cx0:XA K "NoOver" x0 Ae)(cx1:XA K "NoTriple" x1 Ae)(cx2:XB K "BadRow" x2 ix2 "BadRow.__init__" (UJ (tp08 6)))(cx3:XE K "OvalError" x3)(ox3:XO K x3)(cx4:XE K "NoRow" x4)(cx5:XE K "Alike" x5)(sx2:SuC K x2 [(x0,Ad),(x1,Ad),(x2,Ab)])(sx3:SuC K x3 [(x0,Ab),(x1,Ab),(x2,Ab)])(sx4:SuC K x4 [(x0,Ad),(x1,Ad),(x2,Ad)])(sx1:SuC K x1 [(x0,Ad),(x1,Ab),(x2,Ad)])(sx5:SuC K x5 [(x0,Ad),(x1,Ad),(x2,Ad)])(z0:Be K AR "ValueError" = Aa Ae)(z1:Be K AR "any" = Aa Ae)(z2:Be K AR "bool" = Aa Ae)(z3:Be K AR "enumerate" = Aa Ae)(z4:Be K AR "int" = Aa Ae)(z5:Be K AR "isinstance" = Aa Ae)(z6:Be K AR "len" = Aa Ae)(z7:Be K AR "list" = Aa Ae)(z8:Be K AR "min" = Aa Ae)(z9:Be K AR "range" = Aa Ae)(z10:Be K AR "str" = Aa Ae)(z11:Be K AR "tuple" = Aa Ae):
  ∃ fd:BE,(∀(s:Ap)(v:Aj),GB s fd ⟨[v],[]⟩ [("_law_script",v)])/\∀ base:AG,K.In base->base.Ns AR mg->FnOk l.prog w K mg base (CXR l.prog w) 9 fa fd ["_law_script"] (M4 K):=by
 obtain⟨_,F,e⟩:=a21;obtain⟨_,_,_,_,_,_,_,_,_,rfl,_,_⟩:=F.ex;cases hfa.symm.trans (BM X G e);have XT08:XT Q08.up Q08.xn (clL [(2,x0),(3,x1),(106,x2)]) J5 JZ K mg:=by
  refine pW (all_cons (cx0.row λ_=>by first|exact .inr rfl|exact .inl rfl) (all_cons (cx1.row λ_=>by first|exact .inr rfl|exact .inl rfl) (all_cons (XB.rowI X G cx2 ox3 cx3.n iS (λ_ _ _ _ _ _ _ _=>rfl) λ_=>rfl) (all_nil)))) (all_cons ⟨_,rfl,BM X G cx0.n⟩ (all_cons ⟨_,rfl,BM X G cx1.n⟩ (all_cons ⟨_,rfl,BM X G cx2.a.n⟩ (all_nil)))) (all_cons ⟨_,BM X G cx2.a.n,cx2.a.kc,sx2⟩ (all_cons ⟨_,BM X G cx3.n,cx3.kc,sx3⟩ (all_cons ⟨_,BM X G cx4.n,cx4.kc,sx4⟩ (all_cons ⟨_,BM X G cx1.n,cx1.kc,sx1⟩ (all_cons ⟨_,BM X G cx5.n,cx5.kc,sx5⟩ (all_nil)))))) ?_
  intro c q ds;show Qc c ds=.bad;unfold Qc;split<;>first|rfl|exact absurd rfl (q ("NoOver",2) (by decide))|exact absurd rfl (q ("NoTriple",3) (by decide))|exact absurd rfl (q ("BadRow",106) (by decide))
 have T:Tab K mg (clL [(2,x0),(3,x1),(106,x2)]) KS KZ J5 JZ KR Q08 80:=⟨sX X G oa0 oa1 oa2 kt0 kt1 kt2,tH oa0 oa1 oa2 ii YK rfl rfl rfl rfl λ_ _ _ _ _ _ _ _ _=>rfl,XT08,all_cons (BH X G z0) (all_cons (BH X G z1) (all_cons (BH X G z2) (all_cons (BH X G z3) (all_cons (BH X G z4) (all_cons (BH X G z5) (all_cons (BH X G z6) (all_cons (BH X G z7) (all_cons (BH X G z8) (all_cons (BH X G z9) (all_cons (BH X G z10) (all_cons (BH X G z11) (all_nil)))))))))))),all_nil,all_cons (Qo 1 32 (by decide+kernel) X G a0 rfl oQ λ_ _ _ _ _ _ _=>rfl) (all_cons (F8 2 1 (by decide+kernel) X G a1 rfl oP λ_ _ _ _ _ _ _ _=>rfl) (all_cons (F8 2 9 (by decide+kernel) X G a2 rfl oO λ_ _ _ _ _ _ _ _=>rfl) (all_cons (F8 2 17 (by decide+kernel) X G a3 rfl oM λ_ _ _ _ _ _ _ _=>rfl) (all_cons (F8 2 33 (by decide+kernel) X G a4 rfl mZ λ_ _ _ _ _ _ _ _=>rfl) (all_cons (F8 2 34 (by decide+kernel) X G a5 rfl mY λ_ _ _ _ _ _ _ _=>rfl) (all_cons (No 3 35 (by decide+kernel) X G a6 rfl mX λ_ _ _ _ _ _ _ _ _=>rfl) (all_cons (F8 2 36 (by decide+kernel) X G a7 rfl mW λ_ _ _ _ _ _ _ _=>rfl) (all_cons (F8 2 37 (by decide+kernel) X G a8 rfl mV λ_ _ _ _ _ _ _ _=>rfl) (all_cons (F8 2 2 (by decide+kernel) X G a9 rfl mU λ_ _ _ _ _ _ _ _=>rfl) (all_cons (F8 2 3 (by decide+kernel) X G a10 rfl iH λ_ _ _ _ _ _ _ _=>rfl) (all_cons (F8 2 4 (by decide+kernel) X G a11 rfl iG λ_ _ _ _ _ _ _ _=>rfl) (all_cons (F8 2 40 (by decide+kernel) X G a12 rfl iF λ_ _ _ _ _ _ _ _=>rfl) (all_cons (F8 2 44 (by decide+kernel) X G a13 rfl iE λ_ _ _ _ _ _ _ _=>rfl) (all_cons (No 3 6 (by decide+kernel) X G a14 rfl iD λ_ _ _ _ _ _ _ _ _=>rfl) (all_cons (Qo 1 46 (by decide+kernel) X G a15 rfl iC λ_ _ _ _ _ _ _=>rfl) (all_cons (F8 2 47 (by decide+kernel) X G a16 rfl iB λ_ _ _ _ _ _ _ _=>rfl) (all_cons (F8 2 48 (by decide+kernel) X G a17 rfl iA λ_ _ _ _ _ _ _ _=>rfl) (all_cons (No 3 49 (by decide+kernel) X G a18 rfl hZ λ_ _ _ _ _ _ _ _ _=>rfl) (all_cons (F8 2 50 (by decide+kernel) X G a19 rfl jH λ_ _ _ _ _ _ _ _=>rfl) (all_cons (No 3 51 (by decide+kernel) X G a20 rfl jG λ_ _ _ _ _ _ _ _ _=>rfl) (all_cons (Qo 1 52 (by decide+kernel) X G ⟨_,F,e⟩ rfl S7 λ_ _ _ _ _ _ _=>rfl) (all_cons (Nn 920 (by decide+kernel) (HZ (by decide:1<3) oa1.n) oa1.ft me920 RM λ_ _ _ _ _ _ _=>rfl) (all_cons (Nn 920 (by decide+kernel) (HZ (by decide:2<3) oa2.n) oa2.ft me920 RM λ_ _ _ _ _ _ _=>rfl) (all_cons (Nn 931 (by decide+kernel) (HZ (by decide:1<3) oa1.n) oa1.fs me931 cR λ_ _ _ _ _ _ _=>rfl) (all_cons (Nn 932 (by decide+kernel) (HZ (by decide:2<3) oa2.n) oa2.fs me932 cQ λ_ _ _ _ _ _ _=>rfl) (all_nil))))))))))))))))))))))))))⟩
 exact⟨_,λs v=>.of_eq rfl,λbase _ _=>law_fn (Tg T (jQ T 8) (jR T 8) (M0 F) rfl S7) rW⟩
theorem walk08{q:AM}{loose:Ac Ag}{XP:(Ag->Ao Aj)->AG->Prop}{YP:AA->AG->Prop}{d:DefRec}{K:Ld->Fg}(hn:l.most=Aa 63)(hdf:d.params.defaults=[])(hY:∀(w:AA)(h:AG),YP w h->(K w.params).In h)(F:∀(w:AA)(mg:Ag->Ao Aj)(fa:Ak)(h:AG),(K w.params).In h->h.Ns AR mg->mg d.name=Aa (.ref fa) ->
   ∃ fd:BE,(∀(s:Ap)(u:Aj),GB s fd ⟨[u],[]⟩ [("_law_script",u)])/\∀ base:AG,(K w.params).In base->base.Ns AR mg->FnOk l.prog w (K w.params) mg base (CXR l.prog w) 9 fa fd ["_law_script"] (M4 (K w.params))):XS q loose XP YP l.row.toRowW d [] (λf vs=>Kg f vs):=
 L2.walk_of (n:=63) (k:=9) (x := "_law_script") (CX:=λw=>CXR l.prog w) (sp:=λw=>M4 (K w.params)) hn (by decide) hdf ⟨rfl,by decide,by decide,rfl⟩ hY F (λ_ H a ns hl _ hS=>⟨a,ns,rfl,hl,hS,λ_ _ z=>z⟩) λ_ _ _ _ _ z=>nL z
end OvC
open PySem PySem.W PyProof.Rows
set_option hygiene false
set_option maxRecDepth 100000 in
set_option maxHeartbeats 0 in
theorem PySem.Challenge.cw_ovalfield_k08_rows_refused_holds : PySem.Challenge.rw_ovalfield_k08_rows_refused.Holds := by
 refine OvC.hold08.go OvC.reck08_1 OvC.reck08_2 OvC.reck08_3 OvC.reck08_4 OvC.reck08_5 OvC.reck08_6 OvC.reck08_7 OvC.reck08_8 OvC.reck08_9 OvC.reck08_10 OvC.reck08_11 ?_;intro said;refine OvC.walk08 (l:=PySem.Challenge.rw_ovalfield_k08_rows_refused) rfl rfl (λw h Y_=>XZ Y_) ?F
 case F=>
  intro w mg fa h KX G hmg
  refine' OvC.all08 KX G hmg ?a0 ?a1 ?a2 ?a3 ?a4 ?a5 ?a6 ?a7 ?a8 ?a9 ?a10 ?a11 ?a12 ?a13 ?a14 ?a15 ?a16 ?a17 ?a18 ?a19 ?a20 ?a21 ?oa0 ?oa1 ?oa2 ?kt0 ?kt1 ?kt2 ?ii ?me920 ?me931 ?me932 ?cx0 ?cx1 ?cx2 ?cx3 ?ox3 ?cx4 ?cx5 ?sx2 ?sx3 ?sx4 ?sx1 ?sx5 ?z0 ?z1 ?z2 ?z3 ?z4 ?z5 ?z6 ?z7 ?z8 ?z9 ?z10 ?z11
  case a0|a1|a2|a3|a4|a5|a6|a7|a8|a9|a10|a11|a12|a13|a14|a15|a16|a17|a18|a19|a20|a21=>(refine' Ov.fni ?a ?l ?c ?k;(case a=>k_is);(case l=>k_is);(case c=>k_is);(case k=>k_is))
  case oa0|oa1|oa2=>(refine' Ov.oa_mk ?n ?i ?ft ?fs ?q1 ?q2 ?q3 ?q4 ?q5 ?q6 ?q7 ?q8 ?q9 ?r1 ?r2 ?r3 ?r4 ?r5 ?r6;(case n=>k_is);(case i=>k_is);(case ft=>k_is);(case fs=>k_is);(case q1|q2|q3|q4|q5|q6|q7|q8|q9|r1|r2|r3|r4|r5|r6=>k_is))
  case kt0|kt1|kt2=>(refine' Ov.all_cons ?q0 (Ov.all_cons ?q1 (Ov.all_cons ?q2 Ov.all_nil));(case q0|q1|q2=>dsimp only;kit_is))
  case ii=>(refine' Ov.ini_mk ?l ?m ?k;(case l=>k_is);(case m=>k_is);(case k=>k_is))
  case me920|me931|me932=>(refine' Ov.mei ?l ?m ?k;(case l=>k_is);(case m=>k_is);(case k=>k_is))
  case cx0|cx1=>(refine' Ov.xa_mk ?n (Ov.xcls_l ?e) ?d ?f ?g ?r ?a ?b ?c ?o ?h ?v;(case n=>k_is);(case e=>k_exc);(case d=>kernel_rfl);(case f|g|r|a|b|c|o|h|v=>k_is))
  case cx2=>(refine' Ov.XB.mk ?i (Ov.xa_mk ?n ?e ?d ?f ?g ?r ?a ?b ?c ?o ?h ?v) (Ov.ini_mk ?l ?m ?k) ?t ?s;(case n=>k_is);(case i=>k_is);(case l=>k_is);(case e|d=>kernel_rfl);(case m|k|t|s|f|g|r|a|b|c|o|h|v=>k_is))
  case cx3|cx4|cx5=>(refine' Ov.XE.mk ?a ?b ?c;(case a=>k_is);(case b|c=>k_is))
  case ox3=>(refine' Ov.XO.mk ?a ?b ?c;(case a|b|c=>k_is))
  case sx2|sx3|sx4|sx1|sx5=>(refine' Ov.all_cons ?q0 (Ov.all_cons ?q1 (Ov.all_cons ?q2 (Ov.all_nil)));(case q0|q1|q2=>dsimp only;k_is))
  case z0|z1|z2|z3|z4|z5|z6|z7|z8|z9|z10|z11=>k_is
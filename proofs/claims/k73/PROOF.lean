import PyProof.Rows.All
import Wide.All
import OpenK.AllK
import Wide.FinOn
import PyProof.EqAt
import KE.KSortTup
import PyProof.EqKinds
import PyProof.TupleCall
import Lean
import PySem.Challenge.RW_ovalfield_k73_more_or_ends
set_option Elab.async false
set_option linter.all false
set_option maxRecDepth 100000
set_option maxHeartbeats 4000000
open Bool renaming true→Aa,false→Ae,and_eq_true→Ap,false_ne_true→AA,not_eq_true'→Bu,or_eq_true→Ca,eq_iff_iff→Cp,or_false→EI,and_false→E8,and_true→U_0,false_and→U_1,false_eq_true→U_2,true_and→U_3
open Option renaming some→Ab,none→Af,bind_eq_some_iff→AN,isSome_iff_exists→E4,map→FO,map_some→Hg,bind_some→VI,getD_none→VJ,isSome_map→VL
open _root_ renaming List→Ac,Int→Ad,Nat→Ag,Bool→Ai,Option→Ao,if_pos→Ax,if_neg→AF,decide_eq_true_eq→AW,beq_iff_eq→A7,Array→Bb,False→Bk,of_decide_eq_true→Bq,decide_eq_false→BK,dif_neg→B7,beq_eq_false_iff_ne→Co,beq_self_eq_true→Cw,String→CG,or_false→CQ,decide_eq_true→DX,decide_eq_false_iff_not→Ed,not_or→EL,Decidable→FF,True→GW,Unit→Hr,if_true→HN,bne_iff_ne→Ih,if_false→Ii
open PySem renaming Addr→Ah,Value→Aj,Str→Ak,Expr→Al,wpAny_bind→Am,Shared→Aq,starEach→Av,World→Ay,wpAny→AC,wpAny_pure→AD,Heap→AJ,Pos→AK,Program→AM,Stmt→AO,Around→A2,mainGlobals→A5,cLine→Bz,wpAny_field→BL,FuncData→BW,backTo→BX,Scope→B0,binaryOp→B1,assignEach→B5,compareOp→B9,wpAny_mono→Cd,Env→Cf,wpAny_truthy_bool→Cj,mem_of_lookup→Ck,wpAny_holding→Cz,Keyword→CB,wpAny_callSpecial?_slot→CF,foldedSetIterable→CI,wpAny_newObj_type→CJ,swapsWith→CT,bootBuiltins→C0,cellsFrom→Da,CmpOp→Db,Obj→Dp,Tok→Ds,wpAny_seqItems→Du,tupleKind_room_in1→Dy,wpAny_setField_rec→Dz,attributeBase→DI,sysModules→DS,NameKind→D3,rawInt→D4,keywordEach→Ek,wpAny_pyIter_list→En,IsPair→Eu,GenState→EB,wpAny_call_entry→EC,sizeLine_eq→EO,sliceBounds→EQ,wpAny_passesOwn→E1,wpAny_setField→Fc,swappedStores→Fs,wpAny_onRaise→Ft,Operator→Fu,backToKw→Fv,PassesOwn→FH,IsZip→FR,letOwnedTupleGo→FV,wpAny_updateSeq_pair→FW,codeAny→F9,atKey→Go,pushCells→Gq,wpAny_Call_Name_kw→Gr,wpAny_pyIter_tuple→Gs,behindInMarks→Gw,swapsWithSole→Gx,wpAny_standAt→Gy,wpAny_rule→GN,BindsTo→GO,callerA→GP,IsPart→GU,Paired→GV,pushCells_keeps→Hk,wpAny_execs_nil→Hl,wpAny_letGo→Hq,OsState→HF,dictSetDefault→HH,isTrue→HI,newFunctionEnv→HJ,notedBy→HK,pyNext→HL,standAt→HM,Drawn→HP,bindArgs→HQ,bindC→HR,bindL→HS,builtinsNs→HU,entryOfKey→HV,Comprehension→Il,Result→Io,callSpecial?→Iq,call_meetsIn→Ir,codeAny_mono→Iu,concat_meets→Iw,lastMarks→Ix,noteFrame→Iy,preSum→Iz,seqIndex_neg→IA,Model→IQ,getItem→IR,setItem→IS,seqIndex_of→IV,call→JJ,call_meets→JK,wpAny_Name→JL,UnaryOp→JM,IntMulOk→KJ,Params→KM,pyIter→KN,call_sum_walkG→W4,firstArgMember→W5,noFill_tuple_add→W6,recursionLimit→W7,slot_list_getitem→W8,wpAny_Call_method_late→W9,wpAny_assign_Name→Xa,wpAny_comprehension_free→Xb,wpAny_dictEntries→Xc,wpAny_execs_cons→Xd,wpAny_pyIter_enum→Xe,wpAny_pyIter_zip→Xf,wpAny_pyNext_list_end→Xg,wpAny_pyNext_list_item→Xh
open PySem.Heap renaming get?_push_of_some→Ar,get?_push_size→AH,lt_size→AI,size_push→BR,get?_update_other→CY,get?_update_self→C8,SameBut→D0,get?_none_of_le→FQ,ExtBut→Ho,get?_push_cases→WD
open List renaming mem_cons_of_mem→Au,mem_cons_self→Aw,size_toArray→Az,mem_cons→AE,range→AS,getElem?_eq_some_iff→AU,mem_range→A4,length_set→A6,map_cons→Ba,length_append→Be,length_cons→Bj,length_map→Bl,mem_singleton→Bm,mem_append_right→Bo,not_mem_nil→Bp,mem_map→Br,length_singleton→BD,append_nil→BE,getElem?_set_self→BP,getElem?_eq_getElem→BV,lookup_cons→B6,any_eq_true→Cs,filter_cons→C3,getElem_mem→C4,mem_filter→Dd,getElem?_map→Dm,all_eq_true→Dr,find?_cons→DB,getD_eq_getElem?_getD→DE,isEmpty_eq_false_iff→DO,mem_of_getElem?→DP,exists_of_findSome?_eq_some→DY,map_append→Eh,take_of_length_le→Ei,map_map→Eo,findSome?_eq_none_iff→EJ,drop_eq_getElem_cons→EW,getElem?_append_left→EX,mem_append→EY,nodup_cons→EZ,getElem?_set_self'→Fd,range_succ_eq_map→Fm,take_append_drop→FG,foldl_cons→FJ,getElem?_set_ne→FK,toArray→FM,filterMap_cons→F3,findSome?_cons→F4,getElem_of_mem→F5,map_congr_left→F6,forIn_nil→F7,replicate→F8,all_cons→Gu,getElem?_set→GK,length_take→GS,forIn_cons→He,of_mem_zip→Hf,nodup_nil→HC,any_cons→Ik,map_nil→Im,map→IX,any_eq_false→Vd,append_assoc→Ve,contains_eq_mem→Vg,drop_eq_nil_of_le→Vh,drop_zero→Vi,ext_getElem?→Vj,find?_append→Vk,getElem?_append_right→Vl,getElem?_cons_succ→Vm,getElem?_cons_zero→Vn,getElem?_replicate→Vo,getElem_inj→Vp,length_drop→Vr,length_replicate→Vs,lookup→Vt,mem_append_left→Vu,nodup_append→Vv,reverse_cons→Vw,set_set→Vx,take_left'→Vy,take_sublist→Vz,zipIdx_cons→VA,zipIdx_nil→VB
open Nat renaming lt_of_lt_of_le→AG,le_refl→AR,ne_of_lt→Bi,lt_irrefl→Bt,ble_eq_true_of_le→Cr,le_trans→Ct,ble→C7,lt_succ_of_lt→Do,le_of_ble_eq_true→Ep,ne_of_gt→Er,lt_succ_self→Ez,pow_le_pow_right→EA,zero_add→E3,le_of_lt→FN,lt_of_le_of_lt→Gp,zero_le→Hn,le_of_eq→VC,min_eq_left→VD,min_self→VE,mod_eq_of_lt→VF,not_lt→VG,not_lt_zero→VH
open Int renaming emod_eq_of_lt→AT,emod_lt_of_pos→Bc,emod_nonneg→Bg,emod_emod_of_dvd→BG,mul_comm→BS,mul_emod→BU,dvd_refl→CU,one_mul→CV,zero_add→CW,zero_emod→C2,toNat_natCast→Dl,mul_one→EM,sub_zero→E2,mul_assoc→Fp,mul_zero→FI,le_refl→Hm,mul_pos→IT,add_emod→U_5,mul_nonneg→U_6,mul_sub→U_7,ne_of_gt→U_8,sub_add_cancel→U_9,sub_emod→Va,toNat_of_nonneg→Vb,zero_mul→Vc
open PySem.Str renaming ofString→AV
open PySem.W.Fast renaming te10274390034422433532→AX,te14082659384304107361→AY,te14289696077712309145→AZ,te14364793385576792824→A1,te1435165496053646825→A3
open Option.some renaming inj→Bh,injEq→Ci
open PySem.W renaming findIn→Bx,nsIn→BO,mg_none_of→BQ,fencedOpening→Cy,keepIn→CC,emptyDict→CH,fnOf→CZ,typeIn→Dt,instObj→DD,mroIn→DH,kitOne→DW,clsIn→Ee,subIn→Ef,openEnds→Ej,topFrom→EN,codeIn→Fa,OpenLaw→Fo,mg_of→Gv,methodObj→GL,specialIn→GM,findCls→Hi,readsIn→Hj,lookIn→HG,WalkO→WY,cellsFrom_some→WZ,kIn_of→W1,plainGet→W2
open PySem.Builtin.SmallTypes renaming nextOf→BF,ownedTupleIsFree→CA,ownedTupleHandOut→VT
open PySem.NameKind renaming cell→BM,free→DG
open PyProof.Rows renaming callWith_type1→CS,envOfC→EK,AllBare→E9,subscriptTail_builtinR→Fn,IntsAre→HE,IsTup→JH,boot_list→VM,boot_tuple→VN,slicePart_none→VO,slot_tuple_getitem→VP
open PySem.Obj renaming data_mapFields→C9,isFreed_of_fields→Ev,mapFields→Fq,mapSeq→FS,cls_mapFields→WE,data_mapDictKeys→WF
open Prod renaming ext→De
open PySem.Builtin.List renaming listTooLong→Dg
open Classical renaming choose_spec→DA,choose→U_4
open PySem.F renaming slot_tuple_iterator_next→DF,plainAttrs_list→D7,slot_list_extend→Et,slot_zip_next→FP,args_list_extend_2→Wp,args_tuple_add_2→Wq,args_tuple_iterator_next_1→Wr,args_zip_next_1→Ws,entry_list_extend→Wt,entry_tuple_add→Wu,entry_tuple_iterator_next→Wv,entry_zip_next→Ww,slot_dict_len→Wx,slot_list_append→Wy,slot_tuple_add→Wz,type_list_append→WA,type_list_extend→WB
open False renaming elim→DN
open PySem.Builtin.Slice renaming slicePlaces→DQ,sliceAdjust→E0,sliceApplied→VS
open PySem.Value renaming none→DR,ref→Hh,bool→WR,int→WS,str→WU,type→WV
open Ne renaming symm→DV
open PySem.Builtin.Tuple renaming tupleExact→DZ
open PySem.Heap.SameBut renaming update→D6,refl→WC
open ForInStep renaming yield→Eg
open Array renaming length_toList→ER,toList→UZ
open PySem.SeqAt renaming EqAt→FU,RcNeAt→Ip,RcAt→JI
open Function renaming comp_def→GJ
open Sum renaming inl→GQ,inr→GR
open PySem.Shared renaming heap→IU
open Eq renaming trans→IW,symm→Lp
open NeZero renaming ne→KF
open PyProof.Rows.IsTup renaming new→KG
open PySem.Data renaming cell→KH,seq→KI
open List.cons renaming injEq→Vf
open PySem.AutoSeq1 renaming wpAny_loadPart'→VQ
open PySem.Builtin.Int renaming intBits→VR
open PySem.Calls renaming Name_function_global→VU,callWith_builtin→VV,evalArgs_plain→VW
open PySem.EntryCells renaming newEntry→VY
open PySem.Expr renaming Attribute→VZ,BinOp→V1,BoolOp→V3,Call→V5,Compare→V7,Constant→V9,List→Wb,ListComp→Wd,Name→Wf,Slice→Wh,Subscript→Wj,Tuple→Wl,UnaryOp→Wn
open PySem.Expr.Attribute renaming elim→V0
open PySem.Expr.BinOp renaming elim→V2
open PySem.Expr.BoolOp renaming elim→V4
open PySem.Expr.Call renaming elim→V6
open PySem.Expr.Compare renaming elim→V8
open PySem.Expr.Constant renaming elim→Wa
open PySem.Expr.List renaming elim→Wc
open PySem.Expr.ListComp renaming elim→We
open PySem.Expr.Name renaming elim→Wg
open PySem.Expr.Slice renaming elim→Wi
open PySem.Expr.Subscript renaming elim→Wk
open PySem.Expr.Tuple renaming elim→Wm
open PySem.Expr.UnaryOp renaming elim→Wo
open PySem.Paired renaming length→WG
open PySem.SeqAt.EqAt renaming of_refs→WH,same→WI
open PySem.Stmt renaming Assign→WJ,Expr→WL,Return→WP
open PySem.Stmt.Assign renaming elim→WK
open PySem.Stmt.Expr renaming elim→WM
open PySem.Stmt.For renaming elim→WN
open PySem.Stmt.If renaming elim→WO
open PySem.Stmt.Return renaming elim→WQ
open PySem.Value.ref renaming inj→WT
open PySem.W.WData renaming int→WW
open PySem.W.WShape renaming has→WX
open PySem.Walks renaming list→W3
abbrev Fg:=PySem.W.Frag
abbrev Pn:=Ac (PySem.Addr×PySem.Obj)
abbrev Vq:=PySem.Value->PySem.Shared->Prop
set_option genSizeOfSpec false
section
open PySem PySem.W PyProof.Rows
namespace OvC
set_option genInjectivity false in
structure Eleven (P:Prop) where
 (α1 α2 α3 α4 α5 α6 α7 α8 α9 α10 α11:Type)
 (l1 r1:Ay->α1)
 (l2 r2:Ay->α2)
 (l3 r3:Ay->α3)
 (l4 r4:Ay->α4)
 (l5 r5:Ay->α5)
 (l6 r6:Ay->α6)
 (l7 r7:Ay->α7)
 (l8 r8:Ay->α8)
 (l9 r9:Ay->α9)
 (l10 r10:Ay->α10)
 (l11 r11:Ay->α11)
 X:Prop
 go:(∀ w,l1 w=r1 w)->(∀ w,l2 w=r2 w)->(∀ w,l3 w=r3 w)->(∀ w,l4 w=r4 w)->(∀ w,l5 w=r5 w)->(∀ w,l6 w=r6 w)->(∀ w,l7 w=r7 w)->(∀ w,l8 w=r8 w)->(∀ w,l9 w=r9 w)->(∀ w,l10 w=r10 w)->(∀ w,l11 w=r11 w)->X->P
theorem map_pair{Y α β:Type}{A:Y->α}{B:Y->β}{r:Ao Y}{a:α}{b:β}(h1:FO A r=Ab a)(h2:FO B r=Ab b):FO (λs=>(A s,B s)) r=Ab (a,b):=by
 cases r with
 |none=>cases h1
 |some s=>cases h1;cases h2;rfl
theorem map_take{Y α:Type}{B:Y->Ac α}{r:Ao Y}{v:Ac α}(n:Ag)(h1:FO (λs=>(B s).take n) r=Ab (v.take n))(h2:FO (λs=>(B s).drop n) r=Ab (v.drop n)):FO B r=Ab v:=by
 cases r with
 |none=>cases h1
 |some s=>
  have e1:(B s).take n=v.take n:=by injection h1
  have e2:(B s).drop n=v.drop n:=by injection h2
  show Ab (B s)=Ab v;rw[<-FG n (B s),<-FG n v,e1,e2]
end OvC
namespace OvC
noncomputable def tp73(i:Ag):AO:=PySem.Challenge.pw_ovalfield_k73_more_or_ends.main.body.getD i (.Pass ⟨0,0,0,0⟩)
end OvC
noncomputable def OvC.view73:PySem.Program:={ PySem.Challenge.pw_ovalfield_k73_more_or_ends with main:={PySem.Challenge.pw_ovalfield_k73_more_or_ends.main with body:=[OvC.tp73 1,OvC.tp73 2,OvC.tp73 3,OvC.tp73 4,OvC.tp73 5,OvC.tp73 6,OvC.tp73 7,OvC.tp73 8,OvC.tp73 10,OvC.tp73 11,OvC.tp73 13,OvC.tp73 14,OvC.tp73 15,OvC.tp73 17,OvC.tp73 18,OvC.tp73 19,OvC.tp73 20,OvC.tp73 21,OvC.tp73 22,OvC.tp73 23,OvC.tp73 25,OvC.tp73 26,OvC.tp73 27,OvC.tp73 28,OvC.tp73 29,OvC.tp73 30,OvC.tp73 32,OvC.tp73 33,OvC.tp73 34,OvC.tp73 35,OvC.tp73 36,OvC.tp73 37,OvC.tp73 38,OvC.tp73 40,OvC.tp73 41,OvC.tp73 42,OvC.tp73 44,OvC.tp73 45,OvC.tp73 46,OvC.tp73 47,OvC.tp73 49,OvC.tp73 50,OvC.tp73 51,OvC.tp73 52,OvC.tp73 53,OvC.tp73 54,OvC.tp73 55,OvC.tp73 57,OvC.tp73 58,OvC.tp73 59,OvC.tp73 60,OvC.tp73 61,OvC.tp73 62,OvC.tp73 63,OvC.tp73 64,OvC.tp73 65,OvC.tp73 66,OvC.tp73 67,OvC.tp73 68,OvC.tp73 69,OvC.tp73 70,OvC.tp73 71,OvC.tp73 72]} }
set_option hygiene false
local macro_rules | `(tactic| o_head $H)=>`(tactic| refine holds_open (q:=OvC.view73) (loose:=[]) (Xt:=fun s=>xlAt OvC.view73 [] s&&recOk (RowW.records (OpenRow.toRowW (PySem.Challenge.rw_ovalfield_k73_more_or_ends.row))) s) (XP:=XL OvC.view73 []) (Yf:=Hook.obs $H) (Ya:=Hook.val $H) (YP:=Hook.says $H) (N:=7050) ?hl (Hook.of $H) (Hook.keeps $H) (fun s e=>xl_of s (Bool.and_eq_true_iff.mp e).1) XL.keeps (by rfl) (by rfl) (by rfl) (fun s e=>recFacts_of (Bool.and_eq_true_iff.mp e).2) (by rfl) (by first|assumption|decide +kernel) (by decide +kernel) ⟨rfl,rfl,rfl,rfl,rfl,by decide +kernel⟩ ?hw ?hc)
set_option maxRecDepth 100000 in
set_option maxHeartbeats 0 in
noncomputable def OvC.hold73:OvC.Eleven PySem.Challenge.rw_ovalfield_k73_more_or_ends.Holds:=by
 refine' ⟨_,_,_,_,_,_,_,_,_,_,_,_,_,_,_,_,_,_,_,_,_,_,_,_,_,_,_,_,_,_,_,_,_,_,λg1 g2 g3 g4 g5 g6 g7 g8 g9 g10 g11 x=>_⟩
 rotate_right
 w_on;refine holds_law (by decide+kernel) λsaid=>?_;k_head
 (case hl=>intro w;refine OvC.map_pair ?p1 (OvC.map_take 100 ?p2 ?p3);(case p1=>rw[PySem.W.Fast.te4187177175401517315];unfold PySem.W.Fast.tw4187177175401517315 openGood;refine OvC.map_pair ?q1 (OvC.map_pair ?q2 (OvC.map_pair ?q3 (OvC.map_pair ?q4 (OvC.map_pair ?q5 (OvC.map_pair ?q6 (OvC.map_pair ?q7 (OvC.map_pair ?q8 ?q9)))))));(case q1=>unfold Ej Cy EN;rw[AX,A1,A3,AZ,AY];exact g1 w);(case q2=>unfold Ej Cy EN;rw[AX,A1,A3,AZ,AY];exact g2 w);(case q3=>unfold Ej Cy EN;rw[AX,A1,A3,AZ,AY];exact g3 w);(case q4=>unfold Ej Cy EN;rw[AX,A1,A3,AZ,AY];exact g4 w);(case q5=>unfold Ej Cy EN;rw[AX,A1,A3,AZ,AY];exact g5 w);(case q6=>unfold Ej Cy EN;rw[AX,A1,A3,AZ,AY];exact g6 w);(case q7=>unfold Ej Cy EN;rw[AX,A1,A3,AZ,AY];exact g7 w);(case q8=>unfold Ej Cy EN;rw[AX,A1,A3,AZ,AY];exact g8 w);(case q9=>unfold Ej Cy EN;rw[AX,A1,A3,AZ,AY];exact g9 w);skip);(case p2=>unfold Ej Cy EN;rw[AX,A1,A3,AZ,AY];exact g10 w);(case p3=>unfold Ej Cy EN;rw[AX,A1,A3,AZ,AY];exact g11 w))
 (case hw=>w_witness2)
 k_fill
 revert said
 exact x
theorem OvC.reck73_1(w:Ay):OvC.hold73.l1 w=OvC.hold73.r1 w:=by kernel_rfl
theorem OvC.reck73_2(w:Ay):OvC.hold73.l2 w=OvC.hold73.r2 w:=by kernel_rfl
theorem OvC.reck73_3(w:Ay):OvC.hold73.l3 w=OvC.hold73.r3 w:=by kernel_rfl
theorem OvC.reck73_4(w:Ay):OvC.hold73.l4 w=OvC.hold73.r4 w:=by kernel_rfl
theorem OvC.reck73_5(w:Ay):OvC.hold73.l5 w=OvC.hold73.r5 w:=by kernel_rfl
theorem OvC.reck73_6(w:Ay):OvC.hold73.l6 w=OvC.hold73.r6 w:=by kernel_rfl
theorem OvC.reck73_7(w:Ay):OvC.hold73.l7 w=OvC.hold73.r7 w:=by kernel_rfl
theorem OvC.reck73_8(w:Ay):OvC.hold73.l8 w=OvC.hold73.r8 w:=by kernel_rfl
theorem OvC.reck73_9(w:Ay):OvC.hold73.l9 w=OvC.hold73.r9 w:=by kernel_rfl
theorem OvC.reck73_10(w:Ay):OvC.hold73.l10 w=OvC.hold73.r10 w:=by kernel_rfl
theorem OvC.reck73_11(w:Ay):OvC.hold73.l11 w=OvC.hold73.r11 w:=by kernel_rfl
end
-- CHANGE: your row's module here,as the last of these rows
namespace L2
open PySem PySem.Spec PyProof.Rows
abbrev Key:=Sum Ad Ak
noncomputable def TR:Key->Aj->Ai
 |.inl k,v=>Value.isInt k v
 |.inr x,v=>Value.isStrOf x v
noncomputable def X3(w:Ay):Key->Ad
 |.inl k=>hashInt k
 |.inr x=>hashStr w x
theorem HW:∀{k:Key}{v:Aj},TR k v=Aa->(∃ i t,k=GQ i/\v=WS i t)\/(∃ x t,k=GR x/\v=WU x t)
 |.inl i,v,h=>by
  obtain⟨t,e⟩:=Value.isInt_shape (k:=i) (v:=v) h;exact .inl ⟨i,t,rfl,e⟩
 |.inr x,v,h=>by
  obtain⟨t,e⟩:=Value.isStrOf_shape (x:=x) (v:=v) h;exact .inr ⟨x,t,rfl,e⟩
theorem lH(a b:Ad):decide ((GQ a:Key)=GQ b)=(a==b):=by
 by_cases e:a=b
 .subst e;simp
 .have h:¬ (GQ a:Key)=GQ b:=λq=>e (Sum.inl.inj q)
  rw[BK h];exact(Co.mpr e).symm
theorem lE(a b:Ak):decide ((GR a:Key)=GR b)=decide (a=b):=by
 by_cases e:a=b
 .subst e;simp
 .have h:¬ (GR a:Key)=GR b:=λq=>e (Sum.inr.inj q)
  rw[BK h,BK e]
theorem lG(a:Ad)(b:Ak):decide ((GQ a:Key)=GR b)=Ae:=BK (λq=>nomatch q)
theorem lF(a:Ak)(b:Ad):decide ((GR a:Key)=GQ b)=Ae:=BK (λq=>nomatch q)
noncomputable def Oe(prog:AM)(w:Ay):PySem.KeyKind prog w Key where
 is:=TR
 hash:=X3 w
 inj:=λv a b ha hb=>by
  rcases HW ha with ⟨i,t,rfl,rfl⟩|⟨x,t,rfl,rfl⟩
  .rcases HW hb with ⟨j,u,rfl,e⟩|⟨y,u,rfl,e⟩
   .injection e with e1 _;rw[e1]
   .exact nomatch e
  .rcases HW hb with ⟨j,u,rfl,e⟩|⟨y,u,rfl,e⟩
   .exact nomatch e
   .injection e with e1 _;rw[e1]
 byValue:=λk v h=>by
  rcases HW h with ⟨i,t,rfl,rfl⟩|⟨x,t,rfl,rfl⟩<;>rfl
 pyHash:=λhv h=>by
  rcases HW hv with ⟨i,t,rfl,rfl⟩|⟨x,t,rfl,rfl⟩
  .exact wpAny_pyHash_int h
  .exact wpAny_pyHash_str h
 eqBool:=λhu hv h=>by
  rcases HW hu with ⟨i,t,rfl,rfl⟩|⟨x,t,rfl,rfl⟩
  .rcases HW hv with ⟨j,u,rfl,rfl⟩|⟨y,u,rfl,rfl⟩
   .rw[lH]at h;exact wpAny_eqBool_int h
   .rw[lG]at h;exact SeqAt.EqAt.int_str i t y u _ _ _ _ h
  .rcases HW hv with ⟨j,u,rfl,rfl⟩|⟨y,u,rfl,rfl⟩
   .rw[lF]at h;exact SeqAt.EqAt.str_int x t j u _ _ _ _ h
   .rw[lE]at h;exact wpAny_eqBool_str h
 «strs»:=λk x t v h=>by
  rcases HW h with ⟨i,u,rfl,e⟩|⟨y,u,rfl,e⟩
  .exact nomatch e
  .injection e with e1 _
   subst e1;cases v<;>rfl
end L2
namespace L2
open PySem PySem.Spec PyProof.Rows
variable{us:Ac Aj}{a b it dx:Ah}{P:AM}{h:AJ}{o:Dp}{g':Bb EB}{t' i k n:Ag}{d':HP}{ch fp:Ac Ah}{x qual:Ak}{M:IQ}{u:Aj}{Q:Hr->Aq->Prop}{e tg:Al}{s:Aq}{pos p:AK}{pI:Pn}{es:Ac Al}{body:Ac AO}{f:Aj->Aj->Sem Aj}{g:Ad->Ad->Ad}{op:Db}{mA:Ak->Ao Aj}{fd:BW}{ps:Ac Ak}{scope:B0}
inductive V where
 |non|bl (b:Ai)|int (i:Ad)|str (x:Ak)|byt (b:Bb UInt8)|flt (b:UInt64)|ref (a:Ah)|ty (n:CG)
 deriving DecidableEq
variable{xs vs:Ac V}{v:V}
def Bv:V->Aj->Prop
 |.non,u=>u=DR
 |.bl b,u=>u=WR b
 |.int i,u=>∃ t,u=WS i t
 |.str x,u=>∃ t,u=WU x t
 |.byt b,u=>∃ t,u=Value.bytes b t
 |.flt b,u=>∃ t,u=Value.float b t
 |.ref a,u=>u=Hh a
 |.ty n,u=>u=WV n
noncomputable abbrev A9:Ac V->Ac Aj->Prop:=GV Bv
theorem A9.length(r:A9 xs us):xs.length=us.length:=WG r
theorem A9.get:∀{xs:Ac V}{us:Ac Aj}{i:Ag}{x:V},A9 xs us->xs[i]?=Ab x->∃ u,us[i]?=Ab u/\Bv x u
 |_,_,_,_,.nil,e=>by simp at e
 |_,_,0,_,.cons r _,e=>by simp at e;subst e;exact⟨_,rfl,r⟩
 |_,_,i+1,x,.cons _ t,e=>by
  obtain⟨u,h1,h2⟩:=A9.get (i:=i) (x:=x) t (by simpa using e)
  exact⟨u,by simpa using h1,h2⟩
theorem A9.set{x:V}{u:Aj}(r:Bv x u):∀{xs:Ac V}{us:Ac Aj}(i:Ag),A9 xs us->A9 (xs.set i x) (us.set i u)
 |_,_,_,.nil=>.nil
 |_,_,0,.cons _ t=>.cons r t
 |_,_,i+1,.cons q t=>.cons q (A9.set r i t)
theorem A9.append:∀{xs ys:Ac V}{us ws:Ac Aj},A9 xs us->A9 ys ws->A9 (xs++ys) (us++ws)
 |_,_,_,_,.nil,s=>s
 |_,_,_,_,.cons r t,s=>.cons r (A9.append t s)
theorem A9.take:∀{xs:Ac V}{us:Ac Aj}(n:Ag),A9 xs us->A9 (xs.take n) (us.take n)
 |_,_,0,_=>.nil
 |_,_,_+1,.nil=>.nil
 |_,_,n+1,.cons r t=>.cons r (A9.take n t)
theorem A9.drop:∀{xs:Ac V}{us:Ac Aj}(n:Ag),A9 xs us->A9 (xs.drop n) (us.drop n)
 |_,_,0,r=>r
 |_,_,_+1,.nil=>.nil
 |_,_,n+1,.cons _ t=>A9.drop n t
def UJ:Ao V->Ao Aj->Prop
 |some v,Ab u=>Bv v u
 |none,Af=>GW
 |_,_=>Bk
def KV{κ:Type}:Ac (κ×V)->Ac (κ×Aj)->Prop:=GV fun(p:κ×V)(q:κ×Aj)=>p.1=q.1/\Bv p.2 q.2
noncomputable def kV:Key->V
 |.inl i=>.int i
 |.inr x=>.str x
inductive HO where
 /-- a list -/
 |lst (xs:Ac V)
 /-- a tuple (never changes) -/
 |tup (xs:Ac V)
 /-- a dict whose keys are ints and texts;one whose keys are tuples of ints and texts (the empty one is both) -/
 |dK (kvs:Ac (Key×V))|dT (kvs:Ac (Ac Key×V))
 /-- a set of ints: its members,its size -/
 |set (S:Ad->Ai) (n:Ag)
 /-- an instance of the class at C,its dict at dx,its attributes -/
 |ins (C dx:Ah) (fs:Ac (Ak×V))
 /-- the dict of the instance at x -/
 |own (x:Ah)
 /-- the dict of an exception -/
 |xd (fs:Ac (Ak×V))
 /-- a bound method,f of x -/
 |met (f x:Ah)
 /-- a range object lo,lo+1,.. below hi -/
 |rng (lo hi:Ad)
 /-- a thing that is known to the object (the script;a dict while a loop walks it): read,never written while it is so -/
 |frz (o:Dp) (u:HO)
 /-- a code object's table -/
 |tbl (ps:Bb Aj)
 /-- any other thing,by what is Aa of its one object (a def of one's own: SetO a S n:=HO.ext fun h=>..) -/
 |ext (φ:AJ->Prop)
abbrev Hp:=Ah->Ao HO
variable{H:Hp}
noncomputable def upd(H:Hp)(a:Ah)(o:HO):Hp:=λb=>if b=a then Ab o else H b
theorem G0{o:HO}:upd H a o a=Ab o:=by unfold upd;rw[Ax rfl]
theorem CK{o:HO}(h:b≠a):upd H a o b=H b:=by unfold upd;rw[AF h]
theorem Fx{o:HO}(h:H a=Ab o)(h':H b=Af):a≠b:=by
 intro e;subst e;rw[h]at h';cases h'
section
variable(P:AM)(w:Ay)
def ObjOk(H:Hp)(h:AJ)(a:Ah):HO->Prop
  |.lst xs=>xs.length<=sizeLine/\∃(its:Ac Aj)(n:Ag),A9 xs its/\h.get? a=Ab { cls:=.type "list",data:=.seq its.toArray n }
  |.tup xs=>xs.length<=sizeLine/\∃ its:Ac Aj,A9 xs its/\JH h a its.toArray
  |.dK kvs=>kvs.length<=sizeLine/\(a==DS)=Ae/\∃ vs,KV kvs vs/\h.DictOf (Oe P w) a vs
  |.dT kvs=>kvs.length<=sizeLine/\(a==DS)=Ae/\∃ xs:Ac (Ac Key×Ah×Aj),
      GV (fun(p:Ac Key×V)(q:Ac Key×Ah×Aj)=>p.1=q.1/\H q.2.1=Ab (.tup (p.1.map kV))/\Bv p.2 q.2.2) kvs xs /\
      ∃ o es ep,h.get? a=Ab o/\o.ExactDict/\o.data=.dict es ep/\es.toList=xs.map (HV (tupleKind (Oe P w)))/\(xs.map (·.1)).Nodup
  |.set S n=>h.SetOf (intKind P w) a S n
  |.ins C dx fs=>H dx=Ab (.own a)/\fs.length<=1000/\dx≠a/\h.get? a=Ab (DD C dx) /\
      ∃ mA,h.Ns1 dx mA/\(∀ f,UJ (fs.lookup f) (mA f))/\PySem.Within mA (fs.map (·.1))
  |.own _=>∃ o,h.get? a=Ab o
  |.xd fs=>∃ mA,h.Ns1 a mA/\∀ f,UJ (fs.lookup f) (mA f)
  |.rng lo hi=>∃ t u v,h.get? a=Ab { cls:=.type "range",data:=.fields #[.int lo t,.int hi u,.int 1 v] }
  |.frz o u=>h.get? a=Ab o/\ObjOk H h a u
  |.tbl ps=>h.get? a=Ab {cls:=.none,data:=.fields ps}
  |.met f x=>h.get? a=Ab (GL (.ref f) (.ref x))
  |.ext φ=>φ h/\(∃ o,h.get? a=Ab o)/\∀ h1 h2:AJ,φ h1->(∀ o,h1.get? a=Ab o->h2.get? a=Ab o)->φ h2
def HOk(H:Hp)(h:AJ):Prop:=∀ a o,H a=Ab o->ObjOk P w H h a o
end
section
variable{P:AM}{w:Ay}{H H':Hp}{h h':AJ}{a:Ah}{o:HO}
theorem ObjOk.lt(x:ObjOk P w H h a o):a<h.objs.size:=by
 cases o with
 |lst xs=>obtain⟨_,_,_,_,e⟩:=x;exact AI e
 |tup xs=>obtain⟨_,_,_,p⟩:=x;exact p.lt
 |dK kvs=>obtain⟨_,_,_,_,o,_,_,e,_⟩:=x;exact AI e
 |dT kvs=>obtain⟨_,_,_,_,o,_,_,e,_⟩:=x;exact AI e
 |set S n=>obtain⟨o,_,_,_,e,_⟩:=x;exact AI e
 |ins C dx fs=>obtain⟨_,_,_,e,_⟩:=x;exact AI e
 |own y=>obtain⟨_,e⟩:=x;exact AI e
 |xd fs=>obtain⟨_,⟨_,_,_,e,_⟩,_⟩:=x;exact AI e
 |rng lo hi=>obtain⟨_,_,_,e⟩:=x;exact AI e
 |frz ob u=>obtain⟨e,_⟩:=x;exact AI e
 |tbl ps=>exact AI (show h.get? a=Ab _ from x)
 |met f y=>exact AI (show h.get? a=Ab _ from x)
 |ext φ=>obtain⟨_,⟨_,e⟩,_⟩:=x;exact AI e
theorem GV.mapP{α β:Type}{F G:α->β->Prop}:∀{l₁:Ac α}{l₂:Ac β},GV F l₁ l₂->(∀ a b,F a b->G a b)->GV G l₁ l₂
 |_,_,.nil,_=>.nil
 |_,_,.cons r t,f=>.cons (f _ _ r) (GV.mapP t f)
theorem ObjOk.stay(x:ObjOk P w H h a o)(k:∀ b u,(b=a\/H b=Ab (.own a))->h.get? b=Ab u->h'.get? b=Ab u)(ho:∀ b,H b=Ab (.own a)->H' b=Ab (.own a))(ht:∀ b xs,H b=Ab (.tup xs)->H' b=Ab (.tup xs)):ObjOk P w H' h' a o:=by
 induction o with
 |lst xs=>obtain⟨z,its,n,r,e⟩:=x;exact⟨z,its,n,r,k _ _ (.inl rfl) e⟩
 |tup xs=>obtain⟨z,its,r,ob,e,c⟩:=x;exact⟨z,its,r,ob,k _ _ (.inl rfl) e,c⟩
 |dK kvs=>obtain⟨z,y,vs,r,ob,es,ep,e,c⟩:=x;exact⟨z,y,vs,r,ob,es,ep,k _ _ (.inl rfl) e,c⟩
 |dT kvs=>
  obtain⟨z,y,xs,r,ob,es,ep,e,c⟩:=x;exact⟨z,y,xs,GV.mapP r λp q z=>⟨z.1,ht _ _ z.2.1,z.2.2⟩,ob,es,ep,k _ _ (.inl rfl) e,c⟩
 |set S n=>obtain⟨ob,es,ep,t,e,c⟩:=x;exact⟨ob,es,ep,t,k _ _ (.inl rfl) e,c⟩
 |ins C dx fs=>
  obtain⟨d,z,ne,e,mA,⟨od,es,ep,e2,c⟩,r⟩:=x;exact⟨ho _ d,z,ne,k _ _ (.inl rfl) e,mA,⟨od,es,ep,k _ _ (.inr d) e2,c⟩,r⟩
 |own y=>obtain⟨ob,e⟩:=x;exact⟨ob,k _ _ (.inl rfl) e⟩
 |xd fs=>obtain⟨mA,⟨od,es,ep,e,c⟩,r⟩:=x;exact⟨mA,⟨od,es,ep,k _ _ (.inl rfl) e,c⟩,r⟩
 |rng lo hi=>obtain⟨t,u,v,e⟩:=x;exact⟨t,u,v,k _ _ (.inl rfl) e⟩
 |frz ob u ih=>obtain⟨e,q⟩:=x;exact⟨k _ _ (.inl rfl) e,ih q⟩
 |tbl ps=>
  have e:h.get? a=Ab {cls:=.none,data:=.fields ps}:=x;show h'.get? a=Ab {cls:=.none,data:=.fields ps};exact k a _ (.inl rfl) e
 |met f y=>
  have e:h.get? a=Ab (GL (.ref f) (.ref y)):=x;show h'.get? a=Ab (GL (.ref f) (.ref y));exact k a _ (.inl rfl) e
 |ext φ=>obtain⟨p,⟨o,e⟩,st⟩:=x;exact⟨st _ _ p λo q=>k _ _ (.inl rfl) q,⟨o,k _ _ (.inl rfl) e⟩,st⟩
theorem HOk.lt(x:HOk P w H h)(e:H a=Ab o):a<h.objs.size:=(x a o e).lt
theorem HOk.fresh(x:HOk P w H h)(e:h.objs.size<=a):H a=Af:=by
 cases q:H a with
 |none=>rfl
 |some u=>exact absurd (AG (x.lt q) e) (Bt _)
theorem HOk.kept(x:HOk P w H h)(k:∀ b u,h.get? b=Ab u->h'.get? b=Ab u):HOk P w H h':=λa o e=>
 (x a o e).stay (λb u _ q=>k b u q) (λ_ q=>q) λ_ _ q=>q
theorem HOk.laid(x:HOk P w H h)(k:∀ b u,h.get? b=Ab u->h'.get? b=Ab u)(hp:h.objs.size<=a)(new:ObjOk P w (upd H a o) h' a o):HOk P w (upd H a o) h':=λb u e=>by
 have hn:=x.fresh hp;by_cases hb:b=a
 .subst hb;rw[G0]at e;cases e;exact new
 .rw[CK hb]at e;exact(x b u e).stay (λc v _ q=>k c v q) (λc q=>by rw[CK (Fx q hn)];exact q) λc xs q=>by rw[CK (Fx q hn)];exact q
end
def Rd(H:Hp)(a:Ah)(u:HO):Prop:=H a=Ab u\/∃ o,H a=Ab (.frz o u)
theorem Rd.ok{w:Ay}{u:HO}(r:Rd H a u)(x:HOk P w H h):ObjOk P w H h a u:=by
 rcases r with r|⟨o,r⟩
 .exact x a u r
 .obtain⟨_,q⟩:=x a _ r;exact q
def Mut:Ao HO->Prop
 |some (.lst _)=>GW
 |some (.dK _)=>GW
 |some (.dT _)=>GW
 |some (.set _ _)=>GW
 |some (.ins _ _ _)=>GW
 |some (.ext _)=>GW
 |_=>Bk
section
variable{P:AM}{w:Ay}{H:Hp}{h h':AJ}{x e:Ah}{o':HO}
theorem HOk.write(ok:HOk P w H h)(mu:Mut (H x))(he:e=x\/H e=Ab (.own x))(k:∀ b u,b≠e->h.get? b=Ab u->h'.get? b=Ab u)(heo:∃ u,h'.get? e=Ab u)(new:ObjOk P w (upd H x o') h' x o'):HOk P w (upd H x o') h':=λb u q=>by
 have nown:∀ c y,H c=Ab (.own y)->c≠x:=λc y r z=>by subst z;rw[r]at mu;exact mu
 have ntup:∀ c xs,H c=Ab (.tup xs)->c≠x:=λc xs r z=>by subst z;rw[r]at mu;exact mu
 by_cases hb:b=x
 .subst hb;rw[G0]at q;cases q;exact new
 .rw[CK hb]at q;by_cases hbe:b=e
  .have q':H b=Ab (.own x):=by
    rcases he with z|z
    .exact absurd (hbe.trans z) hb
    .rw[hbe];exact z
   rw[q]at q';cases q';obtain⟨v,hv⟩:=heo;exact⟨v,by rw[hbe];exact hv⟩
  .refine(ok b u q).stay (λc v hc r=>k c v ?_ r) (λc r=>by rw[CK (nown c b r)];exact r) λc xs r=>by rw[CK (ntup c xs r)];exact r
   rcases hc with rfl|hc
   .exact hbe
   .rintro rfl;rcases he with z|z
    .exact nown c b hc z
    .rw[hc]at z;cases z;exact hb rfl
end
structure Un (fs ex:Ac Ah) (H H':Hp) (h h':AJ):Prop where
 keep:∀ b o,h.get? b=Ab o->H b=Af->b∉fs->b∉ex->h'.get? b=Ab o
 slot:∀ b o,h.get? b=Ab o->H b=Af->b∈fs->b∉ex->∃ sl,h'.get? b=Ab {o with slots:=sl}
 free:∀ b o,h.get? b=Ab o->H b=Af->b∉ex->H' b=Af
 there:∀ b o,h.get? b=Ab o->b∉ex->∃ o',h'.get? b=Ab o'
 tups:∀ b xs,H b=Ab (.tup xs)->H' b=Ab (.tup xs)
 frzs:∀ b o u,H b=Ab (.frz o u)->H' b=Ab (.frz o u)
 tbls:∀ b ps,H b=Ab (.tbl ps)->∃ more,H' b=Ab (.tbl (ps++more))
section
variable{fs fs' ex ex':Ac Ah}{H H1 H2:Hp}{h h1 h2 h':AJ}{a x e:Ah}{o:HO}
theorem Un.any(u:Un fs ex H H1 h h1){ob:Dp}(q:h.get? b=Ab ob)(n:H b=Af)(hx:b∉ex):∃ sl,h1.get? b=Ab {ob with slots:=sl}:=by
 by_cases hb:b∈fs
 .exact u.slot b ob q n hb hx
 .exact⟨ob.slots,u.keep b ob q n hb hx⟩
theorem Un.kept(k:∀ b u,h.get? b=Ab u->h'.get? b=Ab u):Un fs ex H H h h':=
 ⟨λb ob q _ _ _=>k b ob q,λb ob q _ _ _=>⟨ob.slots,k b ob q⟩,λ_ _ _ n _=>n,λb ob q _=>⟨ob,k b ob q⟩,λ_ _ q=>q,λ_ _ _ q=>q,λ_ ps q=>⟨#[],by rw[q];simp⟩⟩
theorem Un.refl:Un fs ex H H h h:=Un.kept λ_ _ q=>q
theorem Un.laid(k:∀ b u,h.get? b=Ab u->h'.get? b=Ab u)(hp:h.objs.size<=a)(hn:H a=Af):Un fs ex H (upd H a o) h h' where
 keep:=λb u q _ _ _=>k b u q
 slot:=λb u q _ _ _=>⟨u.slots,k b u q⟩
 free:=λb u q n _=>by rw[CK (Bi (AG (AI q) hp))];exact n
 there:=λb u q _=>⟨u,k b u q⟩
 tups:=λb xs q=>by rw[CK (Fx q hn)];exact q
 frzs:=λb u xs q=>by rw[CK (Fx q hn)];exact q
 tbls:=λb ps q=>⟨#[],by rw[CK (Fx q hn),q];simp⟩
theorem Un.write(mu:Mut (H x))(he:e=x\/H e=Ab (.own x))(k:∀ b u,b≠e->h.get? b=Ab u->h'.get? b=Ab u)(heo:∃ u,h'.get? e=Ab u):Un fs ex H (upd H x o) h h':=by
 have hx:∀ b,H b=Af->b≠x:=λb n z=>by subst z;rw[n]at mu;exact mu
 have hb:∀ b,H b=Af->b≠e:=λb n z=>by
  subst z;rcases he with r|r
  .exact hx b n r
  .rw[n]at r;cases r
 have hm:∀ b u,H b=Ab u->¬ Mut (Ab u)->b≠x:=λb u q nm z=>by subst z;rw[q]at mu;exact nm mu
 refine⟨λb u q n _ _=>k b u (hb b n) q,λb u q n _ _=>⟨u.slots,k b u (hb b n) q⟩,λb u q n _=>by rw[CK (hx b n)];exact n,λb u q _=>?_,
  λb xs q=>by rw[CK (hm b _ q λz=>z)];exact q,λb u xs q=>by rw[CK (hm b _ q λz=>z)];exact q,λb ps q=>⟨#[],by rw[CK (hm b _ q λz=>z),q];simp⟩⟩
 by_cases hbe:b=e
 .subst hbe;exact heo
 .exact⟨u,k b u hbe q⟩
end
noncomputable def trk(h:AJ)(H:Hp):Ac Ah:=(AS h.objs.size).filter λa=>(H a).isSome
noncomputable def Ia(h:AJ)(H:Hp):AJ:=PySem.W.hideAll h (trk h H)
theorem Y_9(h:AJ)(H:Hp):(Ia h H).objs.size=h.objs.size:=PySem.W.hideAll_size _ _
theorem Zf(e:h.get? b=Ab o)(n:H b=Af):(Ia h H).get? b=Ab o:=
 PySem.W.hideAll_get _ e λhm=>by
  have q:(H b).isSome=Aa:=(Dd.mp hm).2;rw[n]at q;simp at q
theorem gC(e:(Ia h H).get? b=Ab o):h.get? b=Ab o/\H b=Af:=by
 have e':h.get? b=Ab o:=PySem.W.of_hideAll (trk h H) e;refine⟨e',?_⟩;cases q:H b with
 |none=>rfl
 |some x=>
  have hm:b∈trk h H:=Dd.mpr ⟨A4.mpr (AI e'),by simp[q]⟩
  have z:(Ia h H).get? b=Af:=PySem.W.hideAll_none (trk h H) hm;rw[z]at e;cases e
noncomputable def iO(g h:AJ)(L:Ah):Pn:=(AS h.objs.size).filterMap λa=>if a=L\/(g.get? a).isSome=Aa then Af else (h.get? a).map λo=>(a,o)
noncomputable def rest(g h:AJ)(L d:Ah):Pn:=(iO g h L).filter λp=>decide (p.1≠d)
structure Mod (K:Fg) (mg:Ak->Ao Aj) (base:AJ):Prop where
 kin:K.In base
 glob:base.Ns A5 mg
 blt:∃ mb,base.Ns HU mb/\∀ x:Ak,x≠"__name__"->mb x=C0 x
 nolimit:base.NoLimit
structure Cx where
 prog:AM
 w:Ay
 K:Fg
 mg:Ak->Ao Aj
 base:AJ
 A:A2
 N:Ac Ak
 s₀:Aq
 H₀:Hp
 env:Cf
 outer:Ac Cf
 stack:Ac Cf
 ex:Ac Ah
 fn:Ak->Ai
 calm:Ai
 pn:Pn
 xe:Aj->Aq->Prop
variable{X:Cx}
noncomputable def frs(l:Ac Cf):Ac Ah:=l.filterMap (·.frame)
noncomputable abbrev Cx.fs(X:Cx):Ac Ah:=frs X.outer
def Vis(sc:B0)(x:Ak):Prop:=sc.names.lookup x=Ab .local\/sc.names.lookup x=Ab .cell\/sc.names.lookup x=Ab .free
def Loc(sc:B0)(x:Ak):Prop:=sc.names.lookup x=Ab .local\/sc.names.lookup x=Ab .cell
noncomputable def XI(env:Cf)(h:AJ)(m:Ak->Ao Aj)(x:Ak)(u:Aj):Prop:=
 (env.kindOf x=Ab .local/\m x=Ab u)\/((env.kindOf x=Ab .cell\/env.kindOf x=Ab .free)/\∃ c,env.cells.lookup x=Ab c/\h.IsCell c (Ab u))
structure Cx.Ok (X:Cx):Prop where
 mod:Mod X.K X.mg X.base
 kind:X.env.scope.kind=.function
 glob:X.env.globals=A5
 blt:X.env.builtins=HU
 above:X.s₀.heap.objs.size<=X.env.locals
 inj:∀ x y c,X.env.cells.lookup x=Ab c->X.env.cells.lookup y=Ab c->x=y
 has:∀ x,(X.env.kindOf x=Ab .cell\/X.env.kindOf x=Ab .free)->∃ c,X.env.cells.lookup x=Ab c
 cab:∀ x c,X.fn x=Aa->X.env.cells.lookup x=Ab c->X.s₀.heap.objs.size<=c
 hd:X.calm=Aa->X.A.handled=Af
 frames:X.A.frames=Ab X.stack
 stk:X.stack=X.outer\/(X.stack=X.env::X.outer/\X.env.frame=Ab X.env.locals)
 exf:∀ b∈X.ex,b≠X.env.locals/\∀ x c,X.env.cells.lookup x=Ab c->c≠b
 bs:∀ b o,X.base.get? b=Ab o->X.s₀.heap.get? b=Ab o/\X.H₀ b=Af
 bsz:X.base.objs.size<=X.s₀.heap.objs.size
 noex:∀ b o,X.base.get? b=Ab o->b∉X.ex
 exfs:∀ b∈X.ex,b∉X.fs
 funs:X.s₀.heap.FunFrames X.base X.outer
 frf:∀ b∈X.fs,X.H₀ b=Af
structure Inv (X:Cx) (pI:Pn) (Y:Ac (Ao V)) (H:Hp) (s:Aq):Prop where
 ok:X.Ok
 os:s.os=X.s₀.os
 bare:E9 s.gens
 base:Un X.fs X.ex X.H₀ H X.s₀.heap s.heap
 loc:∃ m,s.heap.Ns X.env.locals m/\∀(i:Ag)(x:Ak)(v:V),X.N[i]?=Ab x->Y[i]?=Ab (Ab v)->Vis X.env.scope x->∃ u,Bv v u/\XI X.env s.heap m x u
 cell:∀ x c,X.env.cells.lookup x=Ab c->∃ v,s.heap.IsCell c v
 free:H X.env.locals=Af
 freeC:∀ x c,X.env.cells.lookup x=Ab c->H c=Af
 pin:∀ p∈X.pn++pI,s.heap.get? p.1=Ab p.2/\H p.1=Af/\p.1≠X.env.locals/\p.1∉X.fs/\∀ v,p.2.data≠.cell v
 hok:HOk X.prog X.w H s.heap
 len:Y.length=X.N.length
section
variable{X:Cx}{pI:Pn}{Y:Ac (Ao V)}{H H':Hp}{s:Aq}{h':AJ}
theorem Cx.Ok.nofr(ok:X.Ok)(e:X.base.get? b=Ab o):b∉X.fs:=λhb=>by
 have:=(ok.funs.mem hb).1;rw[e]at this;cases this
theorem Inv.bs(I:Inv X pI Y H s):∀ b o,X.base.get? b=Ab o->s.heap.get? b=Ab o/\H b=Af:=λb o e=>
 ⟨I.base.keep b o (I.ok.bs b o e).1 (I.ok.bs b o e).2 (I.ok.nofr e) (I.ok.noex b o e),I.base.free b o (I.ok.bs b o e).1 (I.ok.bs b o e).2 (I.ok.noex b o e)⟩
theorem Inv.bk(I:Inv X pI Y H s):∀ b o,X.base.get? b=Ab o->s.heap.get? b=Ab o:=λb o e=>(I.bs b o e).1
theorem Inv.mod(I:Inv X pI Y H s):Mod X.K X.mg X.base:=I.ok.mod
theorem Inv.kIn(I:Inv X pI Y H s):X.K.In s.heap:=I.ok.mod.kin.keeps I.bk
theorem Inv.lt(I:Inv X pI Y H s):X.env.locals<s.heap.objs.size:=let ⟨_,hn,_⟩:=I.loc;hn.lt
theorem Inv.sz(I:Inv X pI Y H s):X.s₀.heap.objs.size<=s.heap.objs.size:=Ct I.ok.above (FN I.lt)
theorem Inv.nofs(I:Inv X pI Y H s)(h:s.heap.objs.size<=a):a∉X.fs:=λhb=>by
 obtain⟨_,o,ho,_⟩:=I.ok.funs.mem hb;exact absurd (AG (AI ho) (Ct I.sz h)) (Bt _)
theorem Inv.cne(I:Inv X pI Y H s):∀ x c,X.env.cells.lookup x=Ab c->c≠X.env.locals:=λx c e z=>by
 obtain⟨v,o,ho,hd⟩:=I.cell x c e;obtain⟨m,⟨o',es,ep,ho',hd',_⟩,_⟩:=I.loc;rw[z,ho']at ho;cases ho;rw[hd']at hd;cases hd
theorem Inv.funs(I:Inv X pI Y H s):s.heap.FunFrames X.base X.outer:=by
 have all:∀(l:Ac Cf),(∀ b∈frs l,b∈X.fs)->X.s₀.heap.FunFrames X.base l->s.heap.FunFrames X.base l:=by
  intro l
  induction l with
  |nil=>intro _ _;trivial
  |cons env r ih=>
   intro hs hl;obtain⟨hk,⟨L,o,hf,hn,ho,hd⟩,hr⟩:=hl;have hL:L∈X.fs:=hs L (by unfold frs;rw[F3,hf];exact Aw)
   obtain⟨sl,e⟩:=I.base.slot L o ho (I.ok.frf L hL) hL λz=>I.ok.exfs L z hL
   exact⟨hk,⟨L,_,hf,hn,e,hd⟩,ih (λb hb=>hs b (by unfold frs;rw[F3,hf];exact Au _ hb)) hr⟩
 exact all X.outer (λ_ hb=>hb) I.ok.funs
theorem Inv.stack(I:Inv X pI Y H s):s.heap.FunFrames X.base X.stack:=by
 rcases I.ok.stk with e|⟨e,hf⟩
 .rw[e];exact I.funs
 .rw[e];obtain⟨m,hn,_⟩:=I.loc;refine .cons (by rw[I.ok.kind];decide) hf hn ?_ I.funs
  exact FQ (Ct I.ok.bsz I.ok.above)
theorem Inv.stkSub(I:Inv X pI Y H s):∀ b∈frs X.stack,b∈X.env.locals::X.fs:=λb hb=>by
 rcases I.ok.stk with e|⟨e,hf⟩
 .rw[e]at hb;exact Au _ hb
 .rw[e]at hb;unfold frs at hb;rw[F3,hf]at hb;exact hb
theorem Inv.stkFree(I:Inv X pI Y H s):∀ b∈frs X.stack,H b=Af:=λb hb=>by
 rcases AE.mp (I.stkSub b hb) with e|hb
 .rw[e];exact I.free
 .obtain⟨_,o,ho,_⟩:=I.ok.funs.mem hb;exact I.base.free b o ho (I.ok.frf b hb) λz=>I.ok.exfs b z hb
theorem Inv.step(I:Inv X pI Y H s)(hch:∀ b∈ch,(b∈X.ex\/X.s₀.heap.objs.size<=b)/\b≠X.env.locals/\(∀ x c,X.env.cells.lookup x=Ab c->c≠b)/\∀ p∈X.pn++pI,p.1≠b)(keep:∀ b o,b≠X.env.locals->b∉X.fs->b∉ch->s.heap.get? b=Ab o->H b=Af->h'.get? b=Ab o)(slot:∀ b o,b≠X.env.locals->b∈X.fs->b∉ch->s.heap.get? b=Ab o->H b=Af->∃ sl,h'.get? b=Ab {o with slots:=sl})(free:∀ b o,b∉ch->s.heap.get? b=Ab o->H b=Af->H' b=Af)(there:∀ b o,b∉ch->s.heap.get? b=Ab o->∃ o',h'.get? b=Ab o')(tups:∀ b xs,H b=Ab (.tup xs)->H' b=Ab (.tup xs))(frzs:∀ b o u,H b=Ab (.frz o u)->H' b=Ab (.frz o u))(tbls:∀ b ps,H b=Ab (.tbl ps)->∃ more,H' b=Ab (.tbl (ps++more)))(ns:∀ m,s.heap.Ns X.env.locals m->h'.Ns X.env.locals m)(hok:HOk X.prog X.w H' h')(hg:E9 g'):Inv X pI Y H' {s with heap:=h',gens:=g',drawn:=d',toks:=t'}:=by
 have neL:∀ b o,X.s₀.heap.get? b=Ab o->b≠X.env.locals:=λb o e=>Bi (AG (AI e) I.ok.above)
 have neC:∀ b o,X.s₀.heap.get? b=Ab o->b∉X.ex->b∉ch:=λb o e hx hb=>by
  rcases (hch b hb).1 with z|z
  .exact hx z
  .exact absurd (AG (AI e) z) (Bt _)
 have cellK:∀ x c,X.env.cells.lookup x=Ab c->∀ v,s.heap.IsCell c v->h'.IsCell c v:=λx c e v ⟨o,ho,hd⟩=>by
  have nch:c∉ch:=λz=>(hch c z).2.2.1 x c e rfl
  by_cases hc:c∈X.fs
  .obtain⟨sl,q⟩:=slot c o (I.cne x c e) hc nch ho (I.freeC x c e);exact⟨_,q,hd⟩
  .exact⟨o,keep c o (I.cne x c e) hc nch ho (I.freeC x c e),hd⟩
 refine⟨I.ok,I.os,hg,⟨λb o e n hb hx=>?_,λb o e n hb hx=>?_,λb o e n hx=>?_,λb o e hx=>?_,λb xs e=>tups b xs (I.base.tups b xs e),λb o xs e=>frzs b o xs (I.base.frzs b o xs e),λb ps e=>?_⟩,?_,λx c e=>?_,?_,λx c e=>?_,λp hp=>?_,hok,I.len⟩
 .exact keep b o (neL b o e) hb (neC b o e hx) (I.base.keep b o e n hb hx) (I.base.free b o e n hx)
 .obtain⟨sl,e1⟩:=I.base.slot b o e n hb hx;obtain⟨sl',e2⟩:=slot b _ (neL b o e) hb (neC b o e hx) e1 (I.base.free b o e n hx);exact⟨sl',e2⟩
 .obtain⟨o',e1⟩:=I.base.there b o e hx;exact free b o' (neC b o e hx) e1 (I.base.free b o e n hx)
 .obtain⟨o',e1⟩:=I.base.there b o e hx;exact there b o' (neC b o e hx) e1
 .obtain⟨m1,e1⟩:=I.base.tbls b ps e;obtain⟨m2,e2⟩:=tbls b _ e1;exact⟨m1++m2,by rw[e2,Array.append_assoc]⟩
 .obtain⟨m,hn,hl⟩:=I.loc;refine⟨m,ns m hn,λi x v e1 e2 e3=>?_⟩
  obtain⟨u,r,l⟩:=hl i x v e1 e2 e3;refine⟨u,r,?_⟩;rcases l with l|⟨k,c,e,z⟩
  .exact .inl l
  .exact .inr ⟨k,c,e,cellK x c e _ z⟩
 .obtain⟨v,z⟩:=I.cell x c e;exact⟨v,cellK x c e v z⟩
 .obtain⟨m,⟨o,_,_,ho,_⟩,_⟩:=I.loc;exact free _ o (λz=>(hch _ z).2.1 rfl) ho I.free
 .obtain⟨v,o,ho,hd⟩:=I.cell x c e;exact free c o (λz=>(hch c z).2.2.1 x c e rfl) ho (I.freeC x c e)
 .obtain⟨e,n,ne,nf,d⟩:=I.pin p hp;have nch:p.1∉ch:=λz=>(hch p.1 z).2.2.2 p hp rfl
  exact⟨keep p.1 p.2 ne nf nch e n,free p.1 p.2 nch e n,ne,nf,d⟩
theorem Inv.un(I:Inv X pI Y H s)(u:Un X.fs [] H H' s.heap h')(hok:HOk X.prog X.w H' h'):Inv X pI Y H' {s with heap:=h',toks:=t'}:=by
 obtain⟨m,⟨o,es,ep,ho,r⟩,_⟩:=id I.loc;obtain⟨sl,hL⟩:=u.any ho I.free (by simp)
 exact I.step (g':=s.gens) (d':=s.drawn) (ch:=[]) (λ_ z=>nomatch z) (λb o _ hb _ e n=>u.keep b o e n hb (by simp)) (λb o _ hb _ e n=>u.slot b o e n hb (by simp)) (λb o _ e n=>u.free b o e n (by simp)) (λb o _ e=>u.there b o e (by simp)) u.tups u.frzs u.tbls (λm' hm=>by
  obtain⟨o',es',ep',ho',r'⟩:=hm;rw[ho]at ho';cases ho';exact⟨_,es',ep',hL,r'⟩) hok I.bare
theorem Inv.call(I:Inv X pI Y H s)(u:Un (frs X.stack) ch H H' s.heap h')(hok:HOk X.prog X.w H' h')(hg:E9 g')(hch:∀ b∈ch,(b∈X.ex\/X.s₀.heap.objs.size<=b)/\b≠X.env.locals/\(∀ x c,X.env.cells.lookup x=Ab c->c≠b)/\∀ p∈X.pn++pI,p.1≠b):Inv X pI Y H' {s with heap:=h',gens:=g',drawn:=d',toks:=t'}:=by
 obtain⟨m,⟨o,es,ep,ho,r⟩,_⟩:=id I.loc;obtain⟨sl,hL⟩:=u.any ho I.free λz=>(hch _ z).2.1 rfl
 exact I.step (ch:=ch) hch (λb o hL hb hc e n=>u.keep b o e n (λz=>(AE.mp (I.stkSub b z)).elim hL hb) hc) (λb o _ _ hc e n=>u.any e n hc) (λb o hc e n=>u.free b o e n hc) (λb o hc e=>u.there b o e hc) u.tups u.frzs u.tbls (λm' hm=>by
  obtain⟨o',es',ep',ho',r'⟩:=hm;rw[ho]at ho';cases ho';exact⟨_,es',ep',hL,r'⟩) hok hg
theorem Inv.turned(I:Inv X pI Y H s)(k:∀ b o,b≠it->s.heap.get? b=Ab o->h'.get? b=Ab o)(hn:H it=Af)(hL:it≠X.env.locals)(h1:it∈X.ex\/X.s₀.heap.objs.size<=it)(h2:∀ x c,X.env.cells.lookup x=Ab c->c≠it)(h3:∀ p∈X.pn++pI,p.1≠it):Inv X pI Y H {s with heap:=h',toks:=t'}:=by
 have nit:∀ b u,H b=Ab u->b≠it:=λb u e z=>by rw[z,hn]at e;cases e
 refine I.step (g':=s.gens) (d':=s.drawn) (ch:=[it]) (λb hb=>?_) (λb o _ _ hc e _=>k b o (λz=>hc (by simp[z])) e) (λb o _ _ hc e _=>⟨o.slots,k b o (λz=>hc (by simp[z])) e⟩) (λ_ _ _ _ n=>n)
  (λb o hc e=>⟨o,k b o (λz=>hc (by simp[z])) e⟩) (λ_ _ e=>e) (λ_ _ _ e=>e) (λb ps e=>⟨#[],by rw[e];simp⟩) (λm hm=>?_) (λb u e=>?_) I.bare
 .have e:b=it:=by simpa using hb
  subst e;exact⟨h1,hL,h2,h3⟩
 .obtain⟨o,es,ep,ho,r⟩:=hm;exact⟨o,es,ep,k _ o (DV hL) ho,r⟩
 .refine(I.hok b u e).stay (λc v hc q=>k c v ?_ q) (λ_ q=>q) λ_ _ q=>q
  rcases hc with z|z
  .rw[z];exact nit b u e
  .exact nit c _ z
theorem Inv.tok(I:Inv X pI Y H s)(t:Ag):Inv X pI Y H {s with toks:=t}:=I.un (h':=s.heap) (t':=t) Un.refl I.hok
theorem Inv.kept{t':Ag}(I:Inv X pI Y H s)(k:∀ b u,s.heap.get? b=Ab u->h'.get? b=Ab u):Inv X pI Y H {s with heap:=h',toks:=t'}:=I.un (Un.kept k) (I.hok.kept k)
theorem Inv.laid{a:Ah}{o:HO}{t':Ag}(I:Inv X pI Y H s)(k:∀ b u,s.heap.get? b=Ab u->h'.get? b=Ab u)(hp:s.heap.objs.size<=a)(new:ObjOk X.prog X.w (upd H a o) h' a o):Inv X pI Y (upd H a o) {s with heap:=h',toks:=t'}:=I.un (Un.laid k hp (I.hok.fresh hp)) (I.hok.laid k hp new)
theorem Inv.write{x e:Ah}{o:HO}{t':Ag}(I:Inv X pI Y H s)(mu:Mut (H x))(he:e=x\/H e=Ab (.own x))(k:∀ b u,b≠e->s.heap.get? b=Ab u->h'.get? b=Ab u)(heo:∃ u,h'.get? e=Ab u)(new:ObjOk X.prog X.w (upd H x o) h' x o):Inv X pI Y (upd H x o) {s with heap:=h',toks:=t'}:=I.un (Un.write mu he k heo) (I.hok.write mu he k heo new)
theorem Inv.pins_of{pins':Pn}(I:Inv X pI Y H s)(h:∀ p∈pins',s.heap.get? p.1=Ab p.2/\H p.1=Af/\p.1≠X.env.locals/\p.1∉X.fs/\∀ v,p.2.data≠.cell v):Inv X pins' Y H s:=
 ⟨I.ok,I.os,I.bare,I.base,I.loc,I.cell,I.free,I.freeC,λp hp=>(EY.mp hp).elim (λz=>I.pin p (Vu _ z)) (h p),I.hok,I.len⟩
theorem QJ{N:Ac Ak}(hN:N.Nodup){j:Ag}(a:N[i]?=Ab x)(b:N[j]?=Ab x):i=j:=by
 obtain⟨h1,e1⟩:=AU.mp a;obtain⟨h2,e2⟩:=AU.mp b;exact(Vp hN).mp (e1.trans e2.symm)
theorem Qy{A:A2}{E:Vq}(I:Inv X pI Y H s)(hN:X.N.Nodup)(hi:X.N[i]?=Ab x)(hx:Loc X.env.scope x)(r:Bv v u)(h:∀ s',Inv X pI (Y.set i (Ab v)) H s'->(∃ a,D0 a s.heap s'.heap/\(a=X.env.locals\/X.env.cells.lookup x=Ab a))->Q () s')(hf:X.fn x=Aa\/X.env.scope.names.lookup x=Ab .local:=by first|exact .inl rfl|exact .inr rfl|assumption):AC M A (storeName X.env x u) Q E s:=by
 obtain⟨m,hn,hl⟩:=id I.loc;have hcls:(X.env.scope.kind==.class||(X.env.scope.kind==.module&&X.env.locals != X.env.globals))=Ae:=by rw[I.ok.kind];rfl
 have hiσ:i<Y.length:=by rw[I.len];exact(AU.mp hi).1
 have cne:=I.cne;have tracked:∀{a:Ah}{h':AJ},(∃ o,s.heap.get? a=Ab o/\H a=Af)->D0 a s.heap h'->HOk X.prog X.w H h':=λ{a h'} ha hs b ob e=>by
  obtain⟨_,_,hfree⟩:=ha;refine(I.hok b ob e).stay (λc w' hc q=>(hs.2 c ?_).trans q) (λ_ q=>q) λ_ _ q=>q
  rintro rfl;rcases hc with rfl|hc
  .rw[hfree]at e;cases e
  .rw[hfree]at hc;cases hc
 rcases hx with hk|hk
 .refine wpAny_storeName_local hk hn (λh' hn' hs=>?_) hcls
  obtain⟨oL,_,_,hoL,_⟩:=id hn;refine h _ ⟨I.ok,I.os,I.bare,⟨λb o e n hb hx=>?_,λb o e n hb hx=>?_,I.base.free,λb o e hx=>?_,I.base.tups,I.base.frzs,I.base.tbls⟩,⟨_,hn',λj y v' e1 e2 e3=>?_⟩,λy c e=>?_,I.free,I.freeC,λp hp=>?_,tracked ⟨oL,hoL,I.free⟩ hs,by simpa using I.len⟩ ⟨_,hs,.inl rfl⟩
  .exact(hs.2 b (Bi (AG (AI e) I.ok.above))).trans (I.base.keep b o e n hb hx)
  .obtain⟨sl,e1⟩:=I.base.slot b o e n hb hx;exact⟨sl,(hs.2 b (Bi (AG (AI e) I.ok.above))).trans e1⟩
  .obtain⟨o',e1⟩:=I.base.there b o e hx;exact⟨o',(hs.2 b (Bi (AG (AI e) I.ok.above))).trans e1⟩
  .by_cases hj:j=i
   .subst hj;rw[hi]at e1;cases e1;rw[BP hiσ]at e2;cases e2;exact⟨u,r,.inl ⟨hk,by simp⟩⟩
   .rw[FK (DV hj)]at e2;obtain⟨u',r',q⟩:=hl j y v' e1 e2 e3;refine⟨u',r',?_⟩;rcases q with ⟨k,e⟩|⟨k,c,e,z⟩
    .refine .inl ⟨k,?_⟩;have:y≠x:=λe=>hj (QJ hN e1 (e ▸ hi))
     simp[this,e]
    .exact .inr ⟨k,c,e,z.sameBut hs (cne y c e)⟩
  .obtain⟨w',z⟩:=I.cell y c e;exact⟨w',z.sameBut hs (cne y c e)⟩
  .obtain⟨e,n,ne,nf,d⟩:=I.pin p hp;exact⟨(hs.2 p.1 ne).trans e,n,ne,nf,d⟩
 .have hfn:X.fn x=Aa:=by
   rcases hf with z|z
   .exact z
   .rw[z]at hk;cases hk
  obtain⟨c,hc⟩:=I.ok.has x (.inl hk);obtain⟨w',z⟩:=I.cell x c hc;refine wpAny_storeName_cell I.ok.kind hk hc z (λh' hc' hs=>?_)
  obtain⟨oc,hoc,hocd⟩:=id z;refine h {s with heap:=h'} ⟨I.ok,I.os,I.bare,⟨λb o e n hb hx=>?_,λb o e n hb hx=>?_,I.base.free,λb o e hx=>?_,I.base.tups,I.base.frzs,I.base.tbls⟩,⟨m,hn.sameBut hs (DV (cne x c hc)),λj y v' e1 e2 e3=>?_⟩,λy c' e=>?_,I.free,I.freeC,λp hp=>?_,tracked ⟨oc,hoc,I.freeC x c hc⟩ hs,by simpa using I.len⟩ ⟨c,hs,.inr hc⟩
  .exact(hs.2 b (Bi (AG (AI e) (I.ok.cab x c hfn hc)))).trans (I.base.keep b o e n hb hx)
  .obtain⟨sl,e1⟩:=I.base.slot b o e n hb hx;exact⟨sl,(hs.2 b (Bi (AG (AI e) (I.ok.cab x c hfn hc)))).trans e1⟩
  .obtain⟨o',e1⟩:=I.base.there b o e hx;exact⟨o',(hs.2 b (Bi (AG (AI e) (I.ok.cab x c hfn hc)))).trans e1⟩
  .by_cases hj:j=i
   .subst hj;rw[hi]at e1;cases e1;rw[BP hiσ]at e2;cases e2;exact⟨u,r,.inr ⟨.inl hk,c,hc,hc'⟩⟩
   .rw[FK (DV hj)]at e2;obtain⟨u',r',q⟩:=hl j y v' e1 e2 e3;refine⟨u',r',?_⟩;rcases q with q|⟨k,c',e,z'⟩
    .exact .inl q
    .refine .inr ⟨k,c',e,z'.sameBut hs ?_⟩;rintro rfl;exact hj (QJ hN e1 (I.ok.inj _ _ _ e hc ▸ hi))
  .by_cases hcc:c'=c
   .subst hcc;exact⟨_,hc'⟩
   .obtain⟨w2,z2⟩:=I.cell y c' e;exact⟨w2,z2.sameBut hs hcc⟩
  .obtain⟨e,n,ne,nf,d⟩:=I.pin p hp;refine⟨(hs.2 p.1 ?_).trans e,n,ne,nf,d⟩;intro q;rw[q,hoc]at e;have q':oc=p.2:=Bh e;exact d w' (by rw[<-q'];exact hocd)
theorem QR{A:A2}{E:Vq}(I:Inv X pI Y H s)(hN:X.N.Nodup)(hi:X.N[i]?=Ab x)(hx:Loc X.env.scope x)(r:Bv v u)(h:∀ s',Inv X pI (Y.set i (Ab v)) H s'->Q () s')(hf:X.fn x=Aa\/X.env.scope.names.lookup x=Ab .local:=by first|exact .inl rfl|exact .inr rfl|assumption):AC M A (storeName X.env x u) Q E s:=
 Qy I hN hi hx r (λs' I' _=>h s' I') hf
theorem Inv.call'{s':Aq}(I:Inv X pI Y H s)(ho:s'.os=s.os)(u:Un (frs X.stack) ch H H' s.heap s'.heap)(hok:HOk X.prog X.w H' s'.heap)(hg:E9 s'.gens)(hch:∀ b∈ch,(b∈X.ex\/X.s₀.heap.objs.size<=b)/\b≠X.env.locals/\(∀ x c,X.env.cells.lookup x=Ab c->c≠b)/\∀ p∈X.pn++pI,p.1≠b):Inv X pI Y H' s':=by
 obtain⟨h',g',d',t',o'⟩:=s';have e:o'=s.os:=ho;subst e;exact I.call (g':=g') (t':=t') (d':=d') u hok hg hch
end
abbrev XK:=Aj->Ao Ah->Hp->Prop
abbrev St:=Ac (Ao V)
variable{Y:St}
abbrev VK:=V->Hp->Prop
abbrev TE:=St->Hp->VK->Prop
variable{te:TE}
abbrev TT:=St->Hp->(Ai->Hp->Prop)->Prop
abbrev TA:=St->Hp->(Ac V->Hp->Prop)->Prop
variable{ta:TA}
structure Ends where
 nx:St->Hp->Prop
 rt:VK
 bk:St->Hp->Prop:=λ_ _=>Bk
 ct:St->Hp->Prop:=λ_ _=>Bk
abbrev TS:=Ends->St->Hp->Prop
def EP(X:Cx)(pI:Pn)(Y:St)(Q:VK)(u:Aj)(s':Aq):Prop:=∃ v H',Inv X pI Y H' s'/\Bv v u/\Q v H'
def TP(X:Cx)(pI:Pn)(Y:St)(Q:Ai->Hp->Prop)(b:Ai)(s':Aq):Prop:=∃ H',Inv X pI Y H' s'/\Q b H'
def AP(X:Cx)(pI:Pn)(Y:St)(Q:Ac V->Hp->Prop)(us:Ac Aj)(s':Aq):Prop:=∃ vs H',Inv X pI Y H' s'/\A9 vs us/\Q vs H'
noncomputable def SP(X:Cx)(pI:Pn)(D:Ends)(f:Flow)(s':Aq):Prop:=
  match f with
  |.next=>∃ Y' H',Inv X pI Y' H' s'/\D.nx Y' H'
  |.brk=>∃ Y' H',Inv X pI Y' H' s'/\D.bk Y' H'
  |.cont=>∃ Y' H',Inv X pI Y' H' s'/\D.ct Y' H'
  |.ret u=>∃ v Y' H',Inv X pI Y' H' s'/\Bv v u/\D.rt v H'
noncomputable def PE(X:Cx)(e:Al)(t:TE):Prop:=
 ∀(pI:Pn)(s:Aq)(Y:St)(H:Hp)(Q:VK),Inv X pI Y H s->t Y H Q->AC (model X.prog X.w) X.A (eval e X.env) (EP X pI Y Q) X.xe s
noncomputable def PT(X:Cx)(e:Al)(t:TT):Prop:=
 ∀(pI:Pn)(s:Aq)(Y:St)(H:Hp)(Q:Ai->Hp->Prop),Inv X pI Y H s->t Y H Q->AC (model X.prog X.w) X.A (HI e X.env (eval e X.env)) (TP X pI Y Q) X.xe s
noncomputable def PW(X:Cx)(e:Al)(t:TT):Prop:=
 ∀(whole:Sem Aj)(pI:Pn)(s:Aq)(Y:St)(H:Hp)(Q:Ai->Hp->Prop),Inv X pI Y H s->t Y H Q->AC (model X.prog X.w) X.A (HI e X.env whole) (TP X pI Y Q) X.xe s
theorem PW.pt{t:TT}(h:PW X e t):PT X e t:=h _
noncomputable def PA(X:Cx)(es:Ac Al)(t:TA):Prop:=
 ∀(pos:AK)(pI:Pn)(s:Aq)(Y:St)(H:Hp)(Q:Ac V->Hp->Prop),Inv X pI Y H s->t Y H Q->AC (model X.prog X.w) X.A (spliced (BX pos (Av es X.env))) (AP X pI Y Q) X.xe s
noncomputable def PS(X:Cx)(st:AO)(t:TS):Prop:=
 ∀(pI:Pn)(s:Aq)(Y:St)(H:Hp)(D:Ends),Inv X pI Y H s->t D Y H->AC (model X.prog X.w) X.A (exec st X.env) (SP X pI D) X.xe s
noncomputable def PSs(X:Cx)(st:Ac AO)(t:TS):Prop:=
 ∀(pI:Pn)(s:Aq)(Y:St)(H:Hp)(D:Ends),Inv X pI Y H s->t D Y H->AC (model X.prog X.w) X.A (execs st X.env) (SP X pI D) X.xe s
theorem thn{α:Type}{t:Sem α}{Q Q':α->Aq->Prop}{A:A2}{E:Vq}(h:AC M A t Q E s)(hQ:∀ a s,Q a s->Q' a s):AC M A t Q' E s:=Cd h hQ λ_ _ x=>x
section
variable{X:Cx}
def Gi(i:Ag):TE:=λY H Q=>∃ v,Y[i]?=Ab (Ab v)/\Q v H
def tC(v:V):TE:=λ_ H Q=>Q v H
theorem lW(hN:X.N[i]?=Ab x)(hv:Vis X.env.scope x)(hd:(x==("__debug__" : Ak))=Ae:=by decide)(hcd:(x==("__classdict__" : Ak))=Ae:=by decide):PE X (.Name x pos) (Gi i):=by
 intro pI s Y H Q I h;obtain⟨v,e,h⟩:=h;obtain⟨m,hn,hl⟩:=I.loc;obtain⟨u,r,l⟩:=hl i x v hN e hv;have fin:EP X pI Y Q u s:=⟨v,H,I,r,h⟩;rcases l with ⟨hk,hm⟩|⟨hk,c,hc,hcell⟩
 .exact JL (wpAny_loadName_local I.ok.kind hk hn hm fin) hd
 .rcases hk with hk|hk
  .exact JL (wpAny_loadName_cell I.ok.kind hk hc hcell fin) hd
  .exact JL (wpAny_loadName_free I.ok.kind hk hc hcell fin hcd) hd
theorem SJ{i j pos}:PE X (.Constant (.int i) j pos) (tC (.int i)):=λ_ _ _ H _ I h=>wpAny_Constant_int ⟨.int i,H,I.tok _,⟨_,rfl⟩,h⟩
theorem sD{b j pos}:PE X (.Constant (.bool b) j pos) (tC (.bl b)):=λ_ _ _ H _ I h=>Constant_bool ⟨.bl b,H,I,rfl,h⟩
theorem mB{j pos}:PE X (.Constant .none j pos) (tC .non):=λ_ _ _ H _ I h=>Constant_none ⟨.non,H,I,rfl,h⟩
theorem lX{x j pos}:PE X (.Constant (.str x) j pos) (tC (.str x)):=λ_ _ _ H _ I h=>Calls.Constant_str ⟨.str x,H,I.tok _,⟨_,rfl⟩,h⟩
def Gl(X:Cx)(x:Ak):Prop:=X.env.kindOf x=Ab .globalImplicit
theorem gM{E:Vq}{Q:Vq}(I:Inv X pI Y H s)(hg:Gl X x)(hm:X.mg x=Ab u)(h:Q u s)(hd:(x==("__debug__" : Ak))=Ae:=by decide):AC (model X.prog X.w) X.A (eval (.Name x pos) X.env) Q E s:=
 VU I.ok.kind hg (Calls.loadGlobal_global (by rw[I.ok.glob];exact I.mod.glob.keeps I.bk) hm h) hd
theorem Jo{E:Vq}{Q:Vq}(I:Inv X pI Y H s)(hg:Gl X x)(hm:X.mg x=Af)(hv:C0 x=Ab u)(h:Q u s)(hn:x≠"__name__" := by decide)(hd:(x==("__debug__" : Ak))=Ae:=by decide):AC (model X.prog X.w) X.A (eval (.Name x pos) X.env) Q E s:=by
 obtain⟨mb,h1,h2⟩:=I.mod.blt;exact VU I.ok.kind hg (Calls.loadGlobal_builtin (by rw[I.ok.glob];exact I.mod.glob.keeps I.bk) hm (by rw[I.ok.blt];exact h1.keeps I.bk) ((h2 x hn).trans hv) h) hd
theorem cT(hg:Gl X x)(hm:X.mg x=Af)(hv:C0 x=Ab u)(r:Bv v u)(hn:x≠"__name__" := by decide)(hd:(x==("__debug__" : Ak))=Ae:=by decide):PE X (.Name x pos) (tC v):=
 λ_ _ _ H _ I h=>Jo I hg hm hv ⟨v,H,I,r,h⟩ hn hd
variable{a b:Al}{ta tb:TE}{pos:AK}
variable{tA tB':TT}{rest:Ac Al}
def XU(t u:TT):TT:=λY H Q=>t Y H λc H1=>if c=Aa then u Y H1 Q else Q Ae H1
def tOr(t u:TT):TT:=λY H Q=>t Y H λc H1=>if c=Aa then Q Aa H1 else u Y H1 Q
def XJ(t:TT):TT:=λY H Q=>t Y H λc H1=>Q (!c) H1
theorem eN(ha:PT X a tA):PW X (.BoolOp .And [a] pos) tA:=by
 intro wh pI s Y H Q I h;refine isTrue_and (thn (ha pI s Y H Q I h) λc s1 e=>?_)
 cases c with
 |true=>exact isTrue_and_nil e
 |false=>exact e
theorem lO(ha:PT X a tA):PW X (.BoolOp .Or [a] pos) tA:=by
 intro wh pI s Y H Q I h;refine isTrue_or (thn (ha pI s Y H Q I h) λc s1 e=>?_)
 cases c with
 |false=>exact isTrue_or_nil e
 |true=>exact e
theorem lP(ha:PT X a tA)(hb:PW X (.BoolOp .And (b::rest) pos) tB'):PW X (.BoolOp .And (a::b::rest) pos) (XU tA tB'):=by
 intro wh pI s Y H Q I h;refine isTrue_and (thn (ha pI s Y H _ I h) λc s1 ⟨H1,I1,q1⟩=>?_)
 cases c with
 |true=>exact hb wh pI s1 Y H1 Q I1 q1
 |false=>exact⟨H1,I1,q1⟩
theorem rY(ha:PT X a tA)(hb:PW X (.BoolOp .Or (b::rest) pos) tB'):PW X (.BoolOp .Or (a::b::rest) pos) (tOr tA tB'):=by
 intro wh pI s Y H Q I h;refine isTrue_or (thn (ha pI s Y H _ I h) λc s1 ⟨H1,I1,q1⟩=>?_)
 cases c with
 |true=>exact⟨H1,I1,q1⟩
 |false=>exact hb wh pI s1 Y H1 Q I1 q1
theorem lQ(ha:PT X a tA):PT X (.UnaryOp .Not a pos) (XJ tA):=by
 intro pI s Y H Q I h;exact isTrue_not (ha pI s Y H (λc H1=>Q (!c) H1) I h)
def oN(ta tb:TE):TE:=λY H Q=>ta Y H λx H1=>∃ c,x=.bl c/\if c=Aa then tb Y H1 Q else Q (.bl Ae) H1
def tT(ta tb:TE):TE:=λY H Q=>ta Y H λx H1=>∃ c,x=.bl c/\if c=Aa then Q (.bl Aa) H1 else tb Y H1 Q
def oG(ta:TE):TE:=λY H Q=>ta Y H λx H1=>∃ c,x=.bl c/\Q (.bl (!c)) H1
theorem lY{op}{t:TE}(h:PE X a t):PE X (.BoolOp op [a] pos) t:=λpI s Y H Q I hw=>BoolOp_one (h pI s Y H Q I hw)
theorem mD(ha:PE X a ta)(hb:PE X (.BoolOp .And (b::rest) pos) tb):PE X (.BoolOp .And (a::b::rest) pos) (oN ta tb):=by
 intro pI s Y H Q I h;refine BoolOp_and (thn (ha pI s Y H _ I h) λv s1 ⟨x,H1,I1,r1,q1⟩=>?_)
 obtain⟨c,rfl,q1⟩:=q1;cases r1;refine Cj ?_;cases c with
 |true=>exact hb pI s1 Y H1 Q I1 q1
 |false=>exact⟨.bl Ae,H1,I1,rfl,q1⟩
theorem sC(ha:PE X a ta)(hb:PE X (.BoolOp .Or (b::rest) pos) tb):PE X (.BoolOp .Or (a::b::rest) pos) (tT ta tb):=by
 intro pI s Y H Q I h;refine BoolOp_or (thn (ha pI s Y H _ I h) λv s1 ⟨x,H1,I1,r1,q1⟩=>?_)
 obtain⟨c,rfl,q1⟩:=q1;cases r1;refine Cj ?_;cases c with
 |false=>exact hb pI s1 Y H1 Q I1 q1
 |true=>exact⟨.bl Aa,H1,I1,rfl,q1⟩
theorem lZ(ha:PE X a ta):PE X (.UnaryOp .Not a pos) (oG ta):=by
 intro pI s Y H Q I h;refine UnaryOp_ (thn (ha pI s Y H _ I h) λv s1 ⟨x,H1,I1,r1,q1⟩=>?_)
 obtain⟨c,rfl,q1⟩:=q1;cases r1;exact not_of (Cj ⟨.bl (!c),H1,I1,rfl,q1⟩)
end
noncomputable def SqL(K:Fg)(H:Hp)(a:Ah)(xs:Ac V):Prop:=
 Rd H a (.lst xs) \/
  ∃(o:Dp)(its:Bb Aj)(n:Ag),K.lookup a=Ab o/\o.cls=.type "list"/\o.dict=Af/\o.data=.seq its n/\its.size<=sizeLine/\A9 xs its.toList
noncomputable def SqT(K:Fg)(H:Hp)(a:Ah)(xs:Ac V):Prop:=
 Rd H a (.tup xs) \/
  ∃(o:Dp)(its:Bb Aj)(n:Ag),K.lookup a=Ab o/\o.cls=.type "tuple"/\o.data=.seq its n/\its.size<=sizeLine/\A9 xs its.toList
noncomputable def XC:Aj->Ao V
 |.none=>Ab .non
 |.bool b=>Ab (.bl b)
 |.int i _=>Ab (.int i)
 |.str x _=>Ab (.str x)
 |.bytes b _=>Ab (.byt b)
 |.float b _=>Ab (.flt b)
 |.ref a=>Ab (.ref a)
 |.type n=>Ab (.ty n)
 |_=>Af
theorem Bv.abs{x:V}(r:Bv x u):XC u=Ab x:=by
 cases x with
 |non=>cases r;rfl
 |bl _=>cases r;rfl
 |int _=>obtain⟨t,rfl⟩:=r;rfl
 |str _=>obtain⟨t,rfl⟩:=r;rfl
 |byt _=>obtain⟨t,rfl⟩:=r;rfl
 |flt _=>obtain⟨t,rfl⟩:=r;rfl
 |ref _=>cases r;rfl
 |ty _=>cases r;rfl
theorem Bv.inj{x y:V}(r:Bv x u)(q:Bv y u):x=y:=Bh (r.abs.symm.trans q.abs)
theorem A9.inj:∀{xs ys:Ac V}{us:Ac Aj},A9 xs us->A9 ys us->xs=ys
 |_,_,_,.nil,.nil=>rfl
 |_,_,_,.cons r t,.cons r' t'=>by rw[r.inj r',A9.inj t t']
section
variable{X:Cx}{pI:Pn}{Y:St}{H:Hp}{s:Aq}{a:Ah}{xs ys:Ac V}
theorem SqL.of{K:Fg}(h:H a=Ab (.lst xs)):SqL K H a xs:=.inl (.inl h)
theorem SqT.of{K:Fg}(h:H a=Ab (.tup xs)):SqT K H a xs:=.inl (.inl h)
theorem Inv.list(I:Inv X pI Y H s)(h:SqL X.K H a xs):∃ its:Ac Aj,A9 xs its/\PlainL s.heap a its.toArray/\xs.length<=sizeLine:=by
 rcases h with h|⟨o,its,n,hk,hc,hd,hs,hz,r⟩
 .obtain⟨z,its,n,r,e⟩:=h.ok I.hok;exact⟨its,r,⟨_,n,e,rfl,rfl,rfl⟩,z⟩
 .refine⟨its.toList,r,⟨o,n,I.kIn a o hk,hc,hd,by simpa using hs⟩,?_⟩
  have e:=r.length;simp only[ER]at e;omega
theorem Inv.tuple(I:Inv X pI Y H s)(h:SqT X.K H a xs):∃ its:Ac Aj,A9 xs its/\JH s.heap a its.toArray/\xs.length<=sizeLine:=by
 rcases h with h|⟨o,its,n,hk,hc,hs,hz,r⟩
 .obtain⟨z,its,r,p⟩:=h.ok I.hok;exact⟨its,r,p,z⟩
 .refine⟨its.toList,r,⟨o,I.kIn a o hk,hc,n,by simpa using hs⟩,?_⟩
  have e:=r.length;simp only[ER]at e;omega
theorem Inv.list_inj(I:Inv X pI Y H s)(h:SqL X.K H a xs)(h':SqL X.K H a ys):xs=ys:=by
 obtain⟨its,r,⟨o,n,e,_,_,d⟩,_⟩:=I.list h;obtain⟨its',r',⟨o',n',e',_,_,d'⟩,_⟩:=I.list h';rw[e]at e';cases e';rw[d]at d'
 injection d' with d1 _
 have:its=its':=by simpa using congrArg UZ d1
 subst this;exact r.inj r'
theorem Inv.tuple_inj(I:Inv X pI Y H s)(h:SqT X.K H a xs)(h':SqT X.K H a ys):xs=ys:=by
 obtain⟨its,r,⟨o,e,_,n,d⟩,_⟩:=I.tuple h;obtain⟨its',r',⟨o',e',_,n',d'⟩,_⟩:=I.tuple h';rw[e]at e';cases e';rw[d]at d'
 injection d' with d1 _
 have:its=its':=by simpa using congrArg UZ d1
 subst this;exact r.inj r'
end
noncomputable abbrev Cx.wish(X:Cx)(E:Vq):Cx:={X with xe:=E}
noncomputable abbrev Cx.nox(X:Cx):Cx:=X.wish λ_ _=>Bk
theorem Cx.Ok.wish(ok:X.Ok)(E:Vq):(X.wish E).Ok:=
 ⟨ok.mod,ok.kind,ok.glob,ok.blt,ok.above,ok.inj,ok.has,ok.cab,ok.hd,ok.frames,ok.stk,ok.exf,ok.bs,ok.bsz,ok.noex,ok.exfs,ok.funs,ok.frf⟩
theorem Cx.Ok.unwish{E:Vq}(ok:(X.wish E).Ok):X.Ok:=
 ⟨ok.mod,ok.kind,ok.glob,ok.blt,ok.above,ok.inj,ok.has,ok.cab,ok.hd,ok.frames,ok.stk,ok.exf,ok.bs,ok.bsz,ok.noex,ok.exfs,ok.funs,ok.frf⟩
section
variable{X:Cx}{pI:Pn}{Y:St}{H:Hp}{s:Aq}{E:Vq}
theorem Inv.wish(I:Inv X pI Y H s)(E:Vq):Inv (X.wish E) pI Y H s:=⟨I.ok.wish E,I.os,I.bare,I.base,I.loc,I.cell,I.free,I.freeC,I.pin,I.hok,I.len⟩
theorem Inv.unwish(I:Inv (X.wish E) pI Y H s):Inv X pI Y H s:=⟨I.ok.unwish,I.os,I.bare,I.base,I.loc,I.cell,I.free,I.freeC,I.pin,I.hok,I.len⟩
theorem SP.unwish{D:Ends}{f:Flow}{s':Aq}(h:SP (X.wish E) pI D f s'):SP X pI D f s':=by
 cases f with
 |next=>obtain⟨Y',H',I,q⟩:=h;exact⟨Y',H',I.unwish,q⟩
 |brk=>obtain⟨Y',H',I,q⟩:=h;exact⟨Y',H',I.unwish,q⟩
 |cont=>obtain⟨Y',H',I,q⟩:=h;exact⟨Y',H',I.unwish,q⟩
 |ret u=>obtain⟨v,Y',H',I,r,q⟩:=h;exact⟨v,Y',H',I.unwish,r,q⟩
theorem PSs.nox{st:Ac AO}{t:TS}(h:PSs X.nox st t):PSs X st t:=λpI s Y H D I hw=>
 Cd (h pI s Y H D (I.wish _) hw) (λ_ _ q=>q.unwish) λ_ _ z=>DN z
end
section
variable{X:Cx}{st:AO}{rest:Ac AO}{t u:TS}{e:Al}{te:TE}{pos:AK}
def oH:TS:=λD Y H=>D.nx Y H
def tQ(t u:TS):TS:=λD Y H=>t {D with nx:=u D} Y H
theorem LX:PSs X [] oH:=λ_ _ Y H _ I h=>Hl ⟨Y,H,I,h⟩
theorem NC(h1:PS X st t)(h2:PSs X rest u):PSs X (st::rest) (tQ t u):=by
 intro pI s Y H D I h;refine Xd (thn (h1 pI s Y H {D with nx:=u D} I h) λf s1 q=>?_)
 cases f with
 |next=>
  obtain⟨Y',H',I',q⟩:=q;exact h2 pI s1 Y' H' D I' q
 |ret v=>exact q
 |brk=>exact q
 |cont=>exact q
theorem Rw(h1:PS X st t):PSs X [st] t:=by
 intro pI s Y H D I h;refine Xd (thn (h1 pI s Y H D I h) λf s1 q=>?_)
 cases f with
 |next=>exact Hl q
 |ret v=>exact q
 |brk=>exact q
 |cont=>exact q
theorem Inv.quiet(I:Inv X pI Y H s):interactive X.env=Ae:=by simp[interactive,I.ok.kind]
def oJ(te:TE):TS:=λD Y H=>te Y H λ_ H1=>D.nx Y H1
theorem Ka(he:PE X e te)(hs:CT e Af pos.line X.env=pure Ae:=by rfl):PS X (.Expr e pos) (oJ te):=by
 intro pI s Y H D I h;exact wpAny_Expr_any (thn (he pI s Y H _ I h) λv s1 ⟨x,H1,I1,r1,q1⟩=>⟨Y,H1,I1,q1⟩) I.quiet hs
def tS(te:TE):TS:=λD Y H=>te Y H D.rt
theorem Mg(he:PE X e te):PS X (.Return (Ab e) pos) (tS te):=by
 intro pI s Y H D I h;exact wpAny_Return_some (thn (he pI s Y H _ I h) λv s1 ⟨x,H1,I1,r1,q1⟩=>⟨x,Y,H1,I1,r1,q1⟩)
def XQ(c:TT)(t u:TS):TS:=λD Y H=>c Y H λb H1=>if b=Aa then t D Y H1 else u D Y H1
theorem O4{c:Al}{a b:Ac AO}{tc:TT}(hc:PT X c tc)(ha:PSs X a t)(hb:PSs X b u):PS X (.If c a b pos) (XQ tc t u):=by
 intro pI s Y H D I h;refine wpAny_If (thn (hc pI s Y H _ I h) λd s1 ⟨H1,I1,q1⟩=>?_)
 cases d with
 |true=>exact ha pI s1 Y H1 D I1 q1
 |false=>exact hb pI s1 Y H1 D I1 q1
end
abbrev TG:=V->St->Hp->(St->Hp->Prop)->Prop
abbrev TGs:=Ac V->St->Hp->(St->Hp->Prop)->Prop
noncomputable def PG(X:Cx)(target:Al)(t:TG):Prop:=
 ∀(pI:Pn)(s:Aq)(Y:St)(H:Hp)(v:V)(u:Aj)(Q:St->Hp->Prop),Inv X pI Y H s->Bv v u->t v Y H Q ->
  AC (model X.prog X.w) X.A (assign target X.env u) (λ_ s'=>∃ Y' H',Inv X pI Y' H' s'/\Q Y' H') X.xe s
noncomputable def PGs(X:Cx)(ts:Ac Al)(t:TGs):Prop:=
 ∀(pI:Pn)(s:Aq)(Y:St)(H:Hp)(vs:Ac V)(us:Ac Aj)(Q:St->Hp->Prop),Inv X pI Y H s->A9 vs us->t vs Y H Q ->
  AC (model X.prog X.w) X.A (assignInOrder ((B5 ts X.env).map (·.2)) us) (λ_ s'=>∃ Y' H',Inv X pI Y' H' s'/\Q Y' H') X.xe s
abbrev MR:=V->V->V->Hp->(Hp->Prop)->Prop
noncomputable def PL(X:Cx)(t:MR):Prop:=
 ∀(pI:Pn)(s:Aq)(Y:St)(H:Hp)(o i v:V)(ov iv u:Aj)(Q:Hp->Prop),Inv X pI Y H s->Bv o ov->Bv i iv->Bv v u->t o i v H Q ->
  AC (model X.prog X.w) X.A (IS ov iv u) (λ_ s'=>∃ H',Inv X pI Y H' s'/\Q H') X.xe s
section
variable{X:Cx}{pos:AK}
def Ey(i:Ag):TG:=λv Y H Q=>Q (Y.set i (Ab v)) H
theorem K4(hN:X.N.Nodup)(hi:X.N[i]?=Ab x)(hx:Loc X.env.scope x)(hf:X.fn x=Aa\/X.env.scope.names.lookup x=Ab .local:=by first|exact .inl rfl|exact .inr rfl|assumption):PG X (.Name x pos) (Ey i):=by
 intro pI s Y H v u Q I r h;exact Xa (QR I hN hi hx r (λs' I'=>⟨_,H,I',h⟩) hf)
def Hd:TGs:=λvs Y H Q=>vs=[]/\Q Y H
def GA(t:TG)(u:TGs):TGs:=λvs Y H Q=>∃ v r,vs=v::r/\t v Y H λY' H'=>u r Y' H' Q
theorem Rx:PGs X [] Hd:=by
 intro pI s Y H vs us Q I r h;obtain⟨e,h⟩:=h;subst e;cases r;exact assignInOrder_nil ⟨Y,H,I,h⟩
theorem QY{t:TG}{u:TGs}(h1:PG X e t)(h2:PGs X es u)(hs:(B5 (e::es) X.env).map (·.2)=assign e X.env::(B5 es X.env).map (·.2):=by rfl):PGs X (e::es) (GA t u):=by
 intro pI s Y H vs us Q I r h;obtain⟨v,vr,e1,h⟩:=h;subst e1;cases r with
 |cons r rr=>
  rw[hs];refine assignInOrder_cons (thn (h1 pI s Y H _ _ _ I r h) λ_ s1 ⟨Y1,H1,I1,q1⟩=>?_)
  exact h2 pI s1 Y1 H1 _ _ Q I1 rr q1
def Kz(K:Fg)(n:Ag)(t:TGs):TG:=λv Y H Q=>∃ a xs,v=.ref a/\SqT K H a xs/\xs.length=n/\t xs Y H Q
theorem OA{t:TGs}(hc:X.calm=Aa)(h:PGs X es t)(hn:(B5 es X.env).length=n:=by rfl)(hst:(B5 es X.env).findIdx? (·.1)=Af:=by rfl):PG X (.Tuple es k pos) (Kz X.K n t):=by
 intro pI s Y H v u Q I r hw;obtain⟨a,xs,e1,hq,hl,hw⟩:=hw;subst e1;cases r;obtain⟨its,rv,ht,hz⟩:=I.tuple hq;refine assign_Tuple_tuple (I.ok.hd hc) ht (by simp[hn,<-hl,rv.length]) hst λh' hx=>?_
 have I1:Inv X pI Y H {s with heap:=h'}:=I.kept (t':=s.toks) λb o e=>hx b o (Bi (AI e)) e
 exact h pI _ Y H xs _ Q I1 (by simpa using rv) hw
def Xp(to ti:TE)(t:MR):TG:=λv Y H Q=>to Y H λo H1=>ti Y H1 λi H2=>t o i v H2 λH3=>Q Y H3
theorem SG{o i:Al}{to ti:TE}{t:MR}(ho:PE X o to)(hi:PE X i ti)(hs:PL X t)(ha:∀ v,assign (.Subscript o i pos) X.env v=(do
   let ov <-holding [v] (eval o X.env)
   let iv <-holding [v,ov] (eval i X.env)
   HM pos
   holding [v,ov,iv] (IS ov iv v)
   release [v,ov,iv] []):=by intro _;rfl):PG X (.Subscript o i pos) (Xp to ti t):=by
 intro pI s Y H v u Q I r h;rw[ha];refine Am (Cz (thn (ho pI s Y H _ I h) λov s1 ⟨x,H1,I1,r1,q1⟩=>?_))
 refine Am (Cz (thn (hi pI s1 Y H1 _ I1 q1) λiv s2 ⟨y,H2,I2,r2,q2⟩=>?_))
 refine Am (Gy (Am (Cz (thn (hs pI s2 Y H2 x y v ov iv u _ I2 r1 r2 r q2) λ_ s3 ⟨H3,I3,q3⟩=>?_))))
 exact wpAny_release ⟨Y,H3,I3,q3⟩
def Li(te:TE)(g:TG):TS:=λD Y H=>te Y H λx H1=>g x Y H1 D.nx
theorem Oy{g:TG}(he:PE X e te)(hg:PG X tg g)(hs:Gx [tg] e pos.line X.env=pure Ae:=by rfl)(hw:Fs [tg] e X.env=pure Af:=by rfl)(h1:(B5 [tg] X.env).map (·.2)=[assign tg X.env]:=by rfl):PS X (.Assign [tg] e pos) (Li te g):=by
 intro pI s Y H D I h;refine wpAny_Assign_stores (thn (he pI s Y H _ I h) λv s1 ⟨x,H1,I1,r1,q1⟩=>?_) hs hw
 rw[h1];exact thn (hg pI s1 Y H1 x v _ I1 r1 q1) λ_ s2 q=>q
theorem Ox{pos':AK}(hN:X.N.Nodup)(hi:X.N[i]?=Ab x)(hx:Loc X.env.scope x)(he:PE X e te)(hs:CT e (Ab (.Name x pos')) pos.line X.env=pure Ae:=by rfl)(hf:X.fn x=Aa\/X.env.scope.names.lookup x=Ab .local:=by first|exact .inl rfl|exact .inr rfl|assumption):PS X (.Assign [.Name x pos'] e pos) (Li te (Ey i)):=by
 intro pI s Y H D I h;refine wpAny_Assign_Name (thn (he pI s Y H _ I h) λv s1 ⟨y,H1,I1,r1,q1⟩=>?_) hs
 exact QR I1 hN hi hx r1 (λs2 I2=>⟨_,H1,I2,q1⟩) hf
end
section
variable{X:Cx}{pos:AK}
end
structure It where
 go:Ag->Hp->Prop
 yld:Ag->Hp->V->Hp->Prop
 stop:Ag->Hp->Prop
noncomputable def Gh(X:Cx)(pI:Pn)(H:Hp)(b:Ah):Prop:=
 H b=Af/\b≠X.env.locals/\b∉X.fs/\(b∈X.ex\/X.s₀.heap.objs.size<=b)/\(∀ x c,X.env.cells.lookup x=Ab c->c≠b)/\∀ p∈X.pn++pI,p.1≠b
theorem Inv.fpOk{H':Hp}(I:Inv X pI Y H s)(hb:s.heap.objs.size<=b)(hn:H' b=Af):Gh X pI H' b:=by
 refine⟨hn,Er (AG I.lt hb),I.nofs hb,.inr (Ct I.sz hb),λx c e z=>?_,λp hp z=>?_⟩
 .obtain⟨v,q⟩:=I.cell x c e;exact absurd (AG q.lt (by rw[z];exact hb)) (Bt _)
 .exact absurd (AG (AI (I.pin p hp).1) (by rw[z];exact hb)) (Bt _)
structure Turn (P:AM) (w:Ay) (K:Fg) (tg:Al) (J:It) (fp:Ac Ah) (it:Ah) (tn:Ag->AJ->Prop):Prop where
 mem:it∈fp
 obj:∀ i h,tn i h->∀ b∈fp,∃ o,h.get? b=Ab o/\∀ v,o.data≠.cell v
 keep:∀ i h h',tn i h->(∀ b∈fp,∀ o,h.get? b=Ab o->h'.get? b=Ab o)->tn i h'
 item:∀(X:Cx),X.prog=P->X.w=w->X.K=K->X.calm=Aa->∀(i:Ag)(pI:Pn)(s:Aq)(Y:St)(H:Hp)(E:Vq),Inv X pI Y H s->(∀ b∈fp,Gh X pI H b)->tn i s.heap->J.go i H ->
  AC (model P w) X.A (HL (.ref it)) (λr s1=>∃ u,r=Ab u /\
   AC (model P w) X.A (FV tg (.ref it) u) (λ_ s2=>∃ x H',Inv X pI Y H' s2/\Bv x u/\J.yld i H x H'/\tn (i+1) s2.heap/\∀ b∈fp,H' b=Af) E s1) E s
 done:∀(X:Cx),X.prog=P->X.w=w->X.K=K->X.calm=Aa->∀(i:Ag)(pI:Pn)(s:Aq)(Y:St)(H:Hp)(E:Vq),Inv X pI Y H s->(∀ b∈fp,Gh X pI H b)->tn i s.heap->J.stop i H ->
  AC (model P w) X.A (HL (.ref it)) (λr s1=>r=Af/\Inv X pI Y H s1) E s
 self:∀(A:A2)(i:Ag)(s:Aq)(Q:Vq)(E:Vq),tn i s.heap->Q (.ref it) s->AC (model P w) A (KN (.ref it)) Q E s
abbrev TI:=St->Hp->(It->Hp->Prop)->Prop
noncomputable def PIE(X:Cx)(pI:Pn)(Y:St)(tg:Al)(R:It->Hp->Prop)(itv:Aj)(s2:Aq):Prop:=
 ∃(it:Ah)(fp:Ac Ah)(tn:Ag->AJ->Prop)(J:It)(H':Hp),itv=.ref it/\Inv X pI Y H' s2/\Turn X.prog X.w X.K tg J fp it tn/\tn 0 s2.heap/\(∀ b∈fp,Gh X pI H' b)/\R J H'
noncomputable def PI(X:Cx)(tg iter:Al)(wi:TI):Prop:=
 ∀(pI:Pn)(s:Aq)(Y:St)(H:Hp)(R:It->Hp->Prop),Inv X pI Y H s->wi Y H R ->
  AC (model X.prog X.w) X.A (eval iter X.env) (λv s1=>AC (model X.prog X.w) X.A (KN v) (PIE X pI Y tg R) X.xe s1) X.xe s
theorem Pa{A:A2}{E:Vq}{n:CG}{vs:Bb Aj}(ho:s.heap.get? it=Ab o)(hc:o.cls=.type n)(hd:o.data=.fields vs)(hn:["enumerate", "zip", "dict_itemiterator", "dict_reverseitemiterator", "odict_iterator", "itertools.zip_longest", "itertools.pairwise"].contains n=Ae)(hQ:Q () s):AC M A (FV tg (.ref it) u) Q E s:=by
  unfold FV;cases tg<;>first
    |exact AD hQ
    | (cases u<;>first
        |exact AD hQ
        | (refine Am (wpAny_load ho ?_)
           rw[hc,hd];show AC M A (if (["enumerate", "zip", "dict_itemiterator", "dict_reverseitemiterator", "odict_iterator", "itertools.zip_longest", "itertools.pairwise"].contains n&&vs[0]? == Ab (D4 _))=Aa then _ else _) Q E s
           rw[AF (by intro h;rw[hn,U_1]at h;cases h)]
           exact AD hQ))
noncomputable def Itl(K:Fg)(a:Ah):It:=
 ⟨λi H=>∃ xs x,SqL K H a xs/\xs[i]?=Ab x,λi H x H'=>H'=H/\∀ xs,SqL K H a xs->xs[i]?=Ab x,λi H=>∃ xs,SqL K H a xs/\xs.length<=i⟩
noncomputable def Itt(K:Fg)(a:Ah):It:=
 ⟨λi H=>∃ xs x,SqT K H a xs/\xs[i]?=Ab x,λi H x H'=>H'=H/\∀ xs,SqT K H a xs->xs[i]?=Ab x,λi H=>∃ xs,SqT K H a xs/\xs.length<=i⟩
noncomputable def Itr(lo:Ad)(n:Ag):It:=⟨λi _=>i<n,λi H x H'=>H'=H/\x=.int (lo+i),λi _=>n<=i⟩
theorem YN{w:Ay}{K:Fg}(a it:Ah):Turn P w K tg (Itl K a) [it] it (λi h=>h.IsListIter it a i) where
  mem:=by simp
  obj:=λi h st b hb=>by
    have e:b=it:=by simpa using hb
    subst e;obtain⟨o,e,c,d⟩:=st;exact⟨o,e,λv z=>by rw[d]at z;cases z⟩
  keep:=λi h h' st k=>st.at λo e=>k it (by simp) o e
  item:=by
    intro X hP hw hK hc i pI s Y H E I hf st hg;subst hP hw hK;obtain⟨xs,x,hq,hx⟩:=hg;obtain⟨its,rv,p,hz⟩:=I.list hq;obtain⟨u,hu,ru⟩:=rv.get hx;obtain⟨f0,f1,f2,f3,f4,f5⟩:=hf it (by simp)
    refine Xh st p.isList (x:=u) (by simpa using hu) λh' st' sb=>?_
    have I1:Inv X pI Y H {s with heap:=h'}:=I.turned (t':=s.toks) (λb o hb e=>(sb.2 b hb).trans e) f0 f1 f3 f4 f5
    obtain⟨o,e,c,d⟩:=id st';exact⟨u,rfl,Pa (s:={s with heap:=h'}) e c d (by decide) ⟨x,H,I1,ru,⟨rfl,λys hy=>by rw[I.list_inj hy hq];exact hx⟩,st',λb hb=>(hf b hb).1⟩⟩
  done:=by
    intro X hP hw hK hc i pI s Y H E I hf st hg;subst hP hw hK;obtain⟨xs,hq,hx⟩:=hg;obtain⟨its,rv,p,hz⟩:=I.list hq;obtain⟨f0,f1,f2,f3,f4,f5⟩:=hf it (by simp)
    have hl:=rv.length;exact Xg (I.ok.hd hc) st p.isList (by simp;omega) λh' eb=>⟨rfl,I.turned (t':=s.toks) (λb o hb e=>eb b o hb e) f0 f1 f3 f4 f5⟩
  self:=λ_ _ _ _ _ st h=>wpAny_pyIter_listiter st h
theorem Yp{w:Ay}{K:Fg}(a it:Ah):Turn P w K tg (Itt K a) [it] it (λi h=>h.IsTupleIter it a i) where
  mem:=by simp
  obj:=λi h st b hb=>by
    have e:b=it:=by simpa using hb
    subst e;obtain⟨o,e,c,d⟩:=st;exact⟨o,e,λv z=>by rw[d]at z;cases z⟩
  keep:=λi h h' st k=>st.at λo e=>k it (by simp) o e
  item:=by
    intro X hP hw hK hc i pI s Y H E I hf st hg;subst hP hw hK;obtain⟨xs,x,hq,hx⟩:=hg;obtain⟨its,rv,p,hz⟩:=I.tuple hq;obtain⟨u,hu,ru⟩:=rv.get hx;obtain⟨f0,f1,f2,f3,f4,f5⟩:=hf it (by simp)
    refine wpAny_pyNext_tuple_item st (show s.heap.IsTuple a its.toArray from p) (x:=u) (by simpa using hu) λh' st' sb=>?_
    have I1:Inv X pI Y H {s with heap:=h'}:=I.turned (t':=s.toks) (λb o hb e=>(sb.2 b hb).trans e) f0 f1 f3 f4 f5
    obtain⟨o,e,c,d⟩:=id st';exact⟨u,rfl,Pa (s:={s with heap:=h'}) e c d (by decide) ⟨x,H,I1,ru,⟨rfl,λys hy=>by rw[I.tuple_inj hy hq];exact hx⟩,st',λb hb=>(hf b hb).1⟩⟩
  done:=by
    intro X hP hw hK hc i pI s Y H E I hf st hg;subst hP hw hK;obtain⟨xs,hq,hx⟩:=hg;obtain⟨its,rv,p,hz⟩:=I.tuple hq;obtain⟨f0,f1,f2,f3,f4,f5⟩:=hf it (by simp)
    have hl:=rv.length;exact wpAny_pyNext_tuple_end (I.ok.hd hc) st (show s.heap.IsTuple a its.toArray from p) (by simp;omega) λh' eb=>⟨rfl,I.turned (t':=s.toks) (λb o hb e=>eb b o hb e) f0 f1 f3 f4 f5⟩
  self:=λ_ _ _ _ _ st h=>wpAny_pyIter_tupleiter st h
theorem Yq{w:Ay}{K:Fg}(it:Ah)(lo:Ad)(n:Ag):Turn P w K tg (Itr lo n) [it] it (λi h=>IsRangeIter h it (lo+(i:Ag)*1) ((n:Ad)-(i:Ag)) 1) where
  mem:=by simp
  obj:=λi h st b hb=>by
    have e:b=it:=by simpa using hb
    subst e;exact⟨_,st,λv z=>by
      have z':Data.fields _=KH v:=z;cases z'⟩
  keep:=λi h h' st k=>k it (by simp) _ st
  item:=by
    intro X hP hw hK hc i pI s Y H E I hf st hg;subst hP hw hK;obtain⟨f0,f1,f2,f3,f4,f5⟩:=hf it (by simp)
    have W:=Walks.range (prog:=X.prog) (w:=X.w) (I.ok.hd hc) it lo 1 n;refine W.item i s _ _ hg st λv h' tk hv st' kk=>?_
    obtain⟨t,rfl⟩:=hv;have I1:Inv X pI Y H {s with heap:=h',toks:=tk}:=I.turned (λb o hb e=>kk b o (by simpa using hb) e) f0 f1 f3 f4 f5
    refine⟨_,rfl,Pa (s:={s with heap:=h',toks:=tk}) (n := "range_iterator") st' rfl rfl (by decide) ⟨.int (lo+i),H,I1,⟨t,?_⟩,⟨rfl,rfl⟩,st',λb hb=>(hf b hb).1⟩⟩
    rw[EM]
  done:=by
    intro X hP hw hK hc i pI s Y H E I hf st hg;subst hP hw hK;obtain⟨f0,f1,f2,f3,f4,f5⟩:=hf it (by simp)
    exact wpAny_pyNext_range_end (I.ok.hd hc) st (by have:n<=i:=hg;omega) λh' eb=>⟨rfl,I.turned (t':=s.toks) (λb o hb e=>eb b o hb e) f0 f1 f3 f4 f5⟩
  self:=λ_ _ _ _ _ st h=>wpAny_pyIter_rangeiter st h
section
variable{X:Cx}{tg:Al}
theorem QX{R:It->Hp->Prop}{E:Vq}{lo hi:Ad}{t u v:Ds}{tk:Ag}(I:Inv X pI Y H s)(h1:-(2 ^ 62)<=lo)(h2:lo<2 ^ 62)(h3:-(2 ^ 62)<=hi)(h4:hi<2 ^ 62)(q:R (Itr lo (hi-lo).toNat) H):AC (model X.prog X.w) X.A (KN (.ref s.heap.objs.size)) (PIE X pI Y tg R) E { s with heap:=s.heap.push { cls:=.type "range",data:=.fields #[.int lo t,.int hi u,.int 1 v] },toks:=tk }:=by
 refine wpAny_pyIter_range (IsRange.new ..) (small_one h1 h2 h3 h4) ?_;have I1:Inv X pI Y H { s with heap:=s.heap.push { cls:=.type "range",data:=.fields #[.int lo t,.int hi u,.int 1 v] },toks:=tk }:=I.kept λb o e=>Ar _ e
 refine⟨(s.heap.push { cls:=.type "range",data:=.fields #[.int lo t,.int hi u,.int 1 v] }).objs.size,[(s.heap.push { cls:=.type "range",data:=.fields #[.int lo t,.int hi u,.int 1 v] }).objs.size],_,_,H,rfl,
  I1.kept (t':=tk) λb o e=>Ar _ e,Yq _ lo (hi-lo).toNat,?_,λb hb=>?_,q⟩
 .have e1:lo+((0:Ag):Ad)*1=lo:=by simp
  have e2:(((hi-lo).toNat:Ag):Ad)-((0:Ag):Ad)=Builtin.Range.rangeSize lo hi 1:=by rw[rangeSize_one];split<;>omega
  show IsRangeIter _ _ (lo+((0:Ag):Ad)*1) ((((hi-lo).toNat:Ag):Ad)-((0:Ag):Ad)) 1;rw[e1,e2];exact AH _ rfl
 .have e:b=(s.heap.push { cls:=.type "range",data:=.fields #[.int lo t,.int hi u,.int 1 v] }).objs.size:=by simpa using hb
  subst e;exact I1.fpOk (AR _) (I1.hok.fresh (AR _))
def sU(ta:TA):TI:=λY H R=>ta Y H λvs H1=>∃ j:Ad,vs=[.int j]/\-(2 ^ 62)<=j/\j<2 ^ 62/\R (Itr 0 j.toNat) H1
def sT(ta:TA):TI:=λY H R=>ta Y H λvs H1=>∃ i j:Ad,vs=[.int i,.int j]/\(-(2 ^ 62)<=i/\i<2 ^ 62/\-(2 ^ 62)<=j/\j<2 ^ 62)/\R (Itr i (j-i).toNat) H1
theorem YK{a:Al}(hg:Gl X "range")(hm:X.mg "range" = Af)(ha:PA X [a] ta)(hs:Av [a] X.env=[(Ae,eval a X.env)]:=by rfl):PI X tg (.Call (.Name "range" p) [a] [] pos) (sU ta):=by
 intro pI s Y H R I h;refine Call_ (Jo I hg hm boot_range (CS (thn (ha pos pI s Y H _ I h) λus s1 ⟨vs,H1,I1,r1,q1⟩=>?_) hs rfl))
 obtain⟨j,e,q1,q2,q⟩:=q1;subst e;cases r1 with
 |cons r rr=>
  cases rr;obtain⟨t,rfl⟩:=r;exact call_range_1 (QX I1 (by omega) (by omega) q1 q2 (by simpa using q))
theorem YJ{a b:Al}(hg:Gl X "range")(hm:X.mg "range" = Af)(ha:PA X [a,b] ta)(hs:Av [a,b] X.env=[(Ae,eval a X.env),(Ae,eval b X.env)]:=by rfl)(hs2:Av [b] X.env=[(Ae,eval b X.env)]:=by rfl):
  PI X tg (.Call (.Name "range" p) [a,b] [] pos) (sT ta):=by
 intro pI s Y H R I h;refine Call_ (Jo I hg hm boot_range (CS (thn (ha pos pI s Y H _ I h) λus s1 ⟨vs,H1,I1,r1,q1⟩=>?_) (by rw[hs,hs2]) (by rw[hs2];rfl)))
 obtain⟨i,j,e,⟨q1,q2,q3,q4⟩,q⟩:=q1;subst e;cases r1 with
 |cons r rr=>
  cases rr with
  |cons r' rr=>
   cases rr;obtain⟨t,rfl⟩:=r;obtain⟨t',rfl⟩:=r';exact call_range_2 (QX I1 q1 q2 q3 q4 q)
def XS(wi:TI)(g:TG)(tb:TS):TS:=λD Y H=>wi Y H λJ H1=>∃ W:Ag->Ag->St->Hp->Prop,(∃ m,W 0 m Y H1)/\∀ i m Y H,W i m Y H ->
 (J.stop i H/\D.nx Y H)\/(J.go i H/\∃ N:St->Hp->Prop,(∀ Y' H',N Y' H'->∃ m',m'<m/\W (i+1) m' Y' H')/\∀ x H',J.yld i H x H'->g x Y H' λY2 H2=>tb {D with nx:=N,ct:=N,bk:=D.nx} Y2 H2)
noncomputable def Jr(fp:Ac Ah)(h:AJ):Pn:=fp.filterMap λb=>(h.get? b).map λo=>(b,o)
theorem LF(hb:b∈fp)(e:h.get? b=Ab o):(b,o)∈Jr fp h:=List.mem_filterMap.mpr ⟨b,hb,by rw[e];rfl⟩
theorem QE{p:Ah×Dp}(hp:p∈Jr fp h):p.1∈fp/\h.get? p.1=Ab p.2:=by
 obtain⟨b,hb,e⟩:=List.mem_filterMap.mp hp;cases q:h.get? b with
 |none=>rw[q]at e;cases e
 |some o=>
  rw[q]at e;have e':(b,o)=p:=Bh e;subst e';exact⟨hb,q⟩
theorem Inv.pinned(I:Inv X pI Y H s)(hf:∀ b∈fp,Gh X pI H b)(ho:∀ b∈fp,∃ o,s.heap.get? b=Ab o/\∀ v,o.data≠.cell v):Inv X (pI++Jr fp s.heap) Y H s:=
 I.pins_of λp hp=>(EY.mp hp).elim (λz=>I.pin p (Bo _ z)) λz=>by
  obtain⟨hb,e⟩:=QE z;obtain⟨f0,f1,f2,_⟩:=hf p.1 hb;obtain⟨o,e',d⟩:=ho p.1 hb;rw[e]at e';cases e';exact⟨e,f0,f1,f2,d⟩
theorem Inv.unpinned{pl:Pn}(I:Inv X (pI++pl) Y H s):Inv X pI Y H s:=I.pins_of λp hp=>I.pin p (Bo _ (Vu _ hp))
theorem lS{iter:Al}{wi:TI}{g:TG}{tb:TS}(hp:FH (model X.prog X.w) X.A X.env X.xe)(hc:X.calm=Aa)(hi:PI X tg iter wi)(hg:PG X tg g)(hb:PSs X body tb)(hs:∀ x,CI iter X.env x=pure x:=by intro _;rfl):PS X (.For tg iter body [] pos) (XS wi g tb):=by
 intro pI s Y H D I h;refine wpAny_For (thn (hi pI s Y H _ I h) λv s1 h1=>thn h1 λitv s2 h2=>?_) hs
 obtain⟨it,fp,tn,J,H2,e,I2,T,st2,f2,W,⟨m0,w0⟩,turn⟩:=h2;subst e
 -- what stays Aa of the iterator's objects through the loop
 have stat:∀{H':Hp},(∀ b∈fp,H' b=Af)->∀ b∈fp,Gh X pI H' b:=λhn b hb=>⟨hn b hb,(f2 b hb).2⟩
 refine codeAny_forLoop_any (λn s'=>∃ i Y' H',Inv X pI Y' H' s'/\tn i s'.heap/\(∀ b∈fp,H' b=Af)/\W i n Y' H') ?_ m0 ⟨0,Y,H2,I2,st2,λb hb=>(f2 b hb).1,w0⟩
 rintro n s3 ⟨i,Y3,H3,I3,st3,fr3,w3⟩;rcases turn i n Y3 H3 w3 with ⟨stop,qn⟩|⟨go,N,hN,step⟩
 .refine E1 hp (thn (T.done X rfl rfl rfl hc i pI s3 Y3 H3 X.xe I3 (stat fr3) st3 stop) λr s4 ⟨hr,I4⟩=>?_)
  subst hr;exact Hl ⟨Y3,H3,I4,qn⟩
 .refine E1 hp (thn (T.item X rfl rfl rfl hc i pI s3 Y3 H3 X.xe I3 (stat fr3) st3 go) λr s4 ⟨u,hr,h4⟩=>?_)
  subst hr;refine E1 hp (thn h4 λ_ s5 ⟨x,H5,I5,r5,y5,st5,fr5⟩=>?_)
  have I5':=I5.pinned (stat fr5) (T.obj _ _ st5);refine E1 hp (thn (hg _ s5 Y3 H5 x u _ I5' r5 (step x H5 y5)) λ_ s6 ⟨Y6,H6,I6,q6⟩=>?_)
  refine E1 hp (thn (hb _ s6 Y6 H6 _ I6 q6) λf s7 q7=>?_)
  have again:∀{Y7:St}{H7:Hp},Inv X (pI++Jr fp s5.heap) Y7 H7 s7->N Y7 H7->∃ m,m<n/\∃ i Y' H',Inv X pI Y' H' s7/\tn i s7.heap/\(∀ b∈fp,H' b=Af)/\W i m Y' H':=λ{Y7 H7} I7 n7=>by
   obtain⟨m',hm,w7⟩:=hN Y7 H7 n7;refine⟨m',hm,i+1,Y7,H7,I7.unpinned,T.keep _ _ _ st5 λb hb o e=>(I7.pin (b,o) (Bo _ (Bo _ (LF hb e)))).1,λb hb=>?_,w7⟩
   obtain⟨o,e,d⟩:=T.obj _ _ st5 b hb;exact(I7.pin (b,o) (Bo _ (Bo _ (LF hb e)))).2.1
  cases f with
  |next=>obtain⟨Y7,H7,I7,n7⟩:=q7;exact again I7 n7
  |cont=>obtain⟨Y7,H7,I7,n7⟩:=q7;exact again I7 n7
  |brk=>obtain⟨Y7,H7,I7,q7⟩:=q7;exact⟨Y7,H7,I7.unpinned,q7⟩
  |ret v=>obtain⟨x7,Y7,H7,I7,r7,q7⟩:=q7;exact⟨x7,Y7,H7,I7.unpinned,r7,q7⟩
end
abbrev R2:=V->V->Hp->VK->Prop
variable{r:R2}
noncomputable def OpR(X:Cx)(f:Aj->Aj->Sem Aj)(r:R2):Prop:=
 ∀(pI:Pn)(s:Aq)(Y:St)(H:Hp)(x y:V)(v u:Aj)(Q:VK),Inv X pI Y H s->Bv x v->Bv y u->r x y H Q ->
  AC (model X.prog X.w) X.A (f v u) (EP X pI Y Q) X.xe s
noncomputable def II(X:Cx)(f:Aj)(r:Ac V->Hp->VK->Prop):Prop:=
 ∀(pI:Pn)(s:Aq)(Y:St)(H:Hp)(xs:Ac V)(us:Ac Aj)(Q:VK),Inv X pI Y H s->A9 xs us->r xs H Q ->
  AC (model X.prog X.w) X.A (call f us) (EP X pI Y Q) X.xe s
noncomputable def XF(X:Cx)(r:V->Hp->(Ai->Hp->Prop)->Prop):Prop:=
 ∀(pI:Pn)(s:Aq)(Y:St)(H:Hp)(x:V)(v:Aj)(Q:Ai->Hp->Prop),Inv X pI Y H s->Bv x v->r x H Q ->
  AC (model X.prog X.w) X.A (truthy v) (TP X pI Y Q) X.xe s
def tOp(r:R2)(ta tb:TE):TE:=λY H Q=>ta Y H λx H1=>tb Y H1 λy H2=>r x y H2 Q
def rI(C:Ad->Ad->Prop)(g:Ad->Ad->V):R2:=λx y H Q=>∃ i j,x=.int i/\y=.int j/\C i j/\Q (g i j) H
def rI0(g:Ad->Ad->V):R2:=λx y H Q=>∃ i j,x=.int i/\y=.int j/\Q (g i j) H
section
variable{X:Cx}{a b c:Al}{ta tb tc:TE}{pos:AK}
theorem PC(ha:PE X a ta)(hb:PE X b tb){R:V->V->Hp->Prop}(I:Inv X pI Y H s)(h:ta Y H λx H1=>tb Y H1 λy H2=>R x y H2){Q:Vq}(hf:∀ v u s2 x y H2,Inv X pI Y H2 s2->Bv x v->Bv y u->R x y H2->AC (model X.prog X.w) X.A (f v u) Q X.xe s2):AC (model X.prog X.w) X.A (eval a X.env) (λv s₁=>AC (model X.prog X.w) X.A (eval b X.env) (λu s₂=>AC (model X.prog X.w) X.A (f v u) Q X.xe s₂) X.xe s₁) X.xe s:=by
 refine thn (ha pI s Y H _ I h) λv s1 ⟨x,H1,I1,r1,q1⟩=>?_
 refine thn (hb pI s1 Y H1 _ I1 q1) λu s2 ⟨y,H2,I2,r2,q2⟩=>?_
 exact hf v u s2 x y H2 I2 r1 r2 q2
theorem TW{op:Fu}(ho:OpR X (B1 op) r)(ha:PE X a ta)(hb:PE X b tb):PE X (.BinOp a op b pos) (tOp r ta tb):=by
 intro pI s Y H Q I h;exact wpAny_BinOp (PC ha hb I h λv u s2 x y H2 I2 rx ry q=>ho pI s2 Y H2 x y v u Q I2 rx ry q)
theorem opI{C:Ad->Ad->Prop}(rule:∀(i j:Ad)(t u:Ds)(s:Aq)(Q:Vq)(E:Vq),C i j->Q (.int (g i j) s.toks) {s with toks:=s.toks+1}->AC (model X.prog X.w) X.A (f (.int i t) (.int j u)) Q E s):OpR X f (rI C λi j=>.int (g i j)):=by
 intro pI s Y H x y v u Q I rx ry h;obtain⟨i,j,rfl,rfl,hc,q⟩:=h;obtain⟨t,rfl⟩:=rx;obtain⟨t',rfl⟩:=ry;exact rule i j t t' s _ _ hc ⟨.int (g i j),H,I.tok _,⟨_,rfl⟩,q⟩
theorem UP(rule:∀(i j:Ad)(t u:Ds)(s:Aq)(Q:Vq)(E:Vq),Q (.int (g i j) s.toks) {s with toks:=s.toks+1}->AC (model X.prog X.w) X.A (f (.int i t) (.int j u)) Q E s):OpR X f (rI0 λi j=>.int (g i j)):=by
 intro pI s Y H x y v u Q I rx ry h;obtain⟨i,j,rfl,rfl,q⟩:=h;obtain⟨t,rfl⟩:=rx;obtain⟨t',rfl⟩:=ry;exact rule i j t t' s _ _ ⟨.int (g i j),H,I.tok _,⟨_,rfl⟩,q⟩
theorem MI{g:Ad->Ad->Ai}(rule:∀(i j:Ad)(t u:Ds)(s:Aq)(Q:Vq)(E:Vq),Q (.bool (g i j)) s->AC (model X.prog X.w) X.A (f (.int i t) (.int j u)) Q E s):OpR X f (rI0 λi j=>.bl (g i j)):=by
 intro pI s Y H x y v u Q I rx ry h;obtain⟨i,j,rfl,rfl,q⟩:=h;obtain⟨t,rfl⟩:=rx;obtain⟨t',rfl⟩:=ry;exact rule i j t t' s _ _ ⟨.bl (g i j),H,I,rfl,q⟩
def Xj(i j:Ad):Prop:=0<j/\j<1073741824
def Xi(i j:Ad):Prop:=0<=j/\j<=1000000/\i.natAbs<2 ^ 64
def MP(i j:Ad):Prop:=(-(2 ^ 64)<i/\i<2 ^ 64)\/(-(2 ^ 64)<j/\j<2 ^ 64)
theorem MP.ok{i j:Ad}(h:MP i j):KJ i j:=by
 rcases h with ⟨h1,h2⟩|⟨h1,h2⟩
 .exact .of_left (intBits_le_64 h1 h2)
 .exact .of_right (intBits_le_64 h1 h2)
theorem mJ:OpR X (B1 .Add) (rI0 λi j=>.int (i+j)):=UP λ_ _ _ _ _ _ _ q=>add_int q
theorem mF:OpR X (B1 .Sub) (rI0 λi j=>.int (i-j)):=UP λ_ _ _ _ _ _ _ q=>sub_int q
theorem dI:OpR X (B1 .FloorDiv) (rI Xj λi j=>.int (i/j)):=opI λi j _ _ _ _ _ hc q=>by
 have h1:(0:Ad)<j:=hc.1;have h2:j<1073741824:=hc.2;exact floordiv_int (by omega) (by rw[Int.fdiv_eq_ediv_of_nonneg i (by omega)];exact q) (.inl (PyProof.noPylong_small (by omega)))
theorem mH:OpR X (B1 .Mod) (rI (λ_ j=>0<j) λi j=>.int (i%j)):=opI λi j _ _ _ _ _ hc q=>by
 have h1:(0:Ad)<j:=hc;exact mod_int' (by omega) (by rw[Int.fmod_eq_emod_of_nonneg i (by omega)];exact q)
theorem mG:OpR X (B1 .Pow) (rI Xi λi j=>.int (i ^ j.toNat)):=opI λ_ _ _ _ _ _ _ hc q=>pow_int_small hc.1 hc.2.1 hc.2.2 q
end
section
variable{X:Cx}{a b c:Al}{ta tb tc:TE}{pos:AK}
theorem S3{Q:VK}{k k':Ai}(I:Inv X pI Y H s)(q:Q (.bl k) H)(e:k=k'):EP X pI Y Q (.bool k') s:=by
 subst e;exact⟨.bl k,H,I,rfl,q⟩
theorem qQ:OpR X (B9 .Lt) (rI0 λi j=>.bl (decide (i<j))):=MI λ_ _ _ _ _ _ _ q=>lt_int q
theorem qR:OpR X (B9 .LtE) (rI0 λi j=>.bl (decide (i<=j))):=MI λ_ _ _ _ _ _ _ q=>le_int q
theorem qS:OpR X (B9 .Gt) (rI0 λi j=>.bl (decide (j<i))):=MI λ_ _ _ _ _ _ _ q=>gt_int q
theorem qT:OpR X (B9 .GtE) (rI0 λi j=>.bl (decide (j<=i))):=MI λ_ _ _ _ _ _ _ q=>ge_int q
theorem mI:OpR X (B9 .Is) (λx y H Q=>y=.non/\Q (.bl (decide (x=.non))) H):=by
 intro pI s Y H x y v u Q I rx ry h;obtain⟨rfl,q⟩:=h;cases ry;refine is_none_gen (S3 I q ?_);cases x<;>first
  |(cases rx;rfl)
  |(obtain⟨t,rfl⟩:=rx;rfl)
theorem dG:OpR X (B9 .IsNot) (λx y H Q=>y=.non/\Q (.bl (!decide (x=.non))) H):=by
 intro pI s Y H x y v u Q I rx ry h;obtain⟨rfl,q⟩:=h;cases ry;refine isnot_none_gen (S3 I q ?_);cases x<;>first
  |(cases rx;rfl)
  |(obtain⟨t,rfl⟩:=rx;rfl)
theorem cS(ho:OpR X (B9 op) r)(ha:PE X a ta)(hb:PE X b tb)(hm:Gw op b=Ae):PE X (.Compare a [op] [b] pos) (tOp r ta tb):=by
 intro pI s Y H Q I h;exact wpAny_Compare1 (PC ha hb I h λv u s2 x y H2 I2 rx ry q=>ho pI s2 Y H2 x y v u Q I2 rx ry q) hm
def Tv(t:TE):TT:=λY H Q=>t Y H λx H'=>∃ k,x=.bl k/\Q k H'
theorem cM(ho:OpR X (B9 op) r)(ha:PE X a ta)(hb:PE X b tb)(hm:Gw op b=Ae):PT X (.Compare a [op] [b] pos) (Tv (tOp r ta tb)):=by
 intro pI s Y H Q I h;refine wpAny_isTrue_Compare1 (thn (ha pI s Y H _ I h) λv s1 ⟨x,H1,I1,r1,q1⟩=>thn (hb pI s1 Y H1 _ I1 q1) λu s2 ⟨y,H2,I2,r2,q2⟩=>
  thn (ho pI s2 Y H2 x y v u _ I2 r1 r2 q2) λc s3 ⟨z,H3,I3,r3,k,e,q3⟩=>?_) hm
 subst e;cases r3;exact Cj ⟨H3,I3,q3⟩
def Te(r r':R2)(ta tb tc:TE):TE:=λY H Q=>ta Y H λx H1=>tb Y H1 λy H2=>r x y H2 λz H3=>∃ k,z=.bl k /\
 (if k=Aa then tc Y H3 λw' H4=>r' y w' H4 Q else Q (.bl Ae) H3)
theorem ZP{op':Db}{r':R2}(ho:OpR X (B9 op) r)(ho':OpR X (B9 op') r')(ha:PE X a ta)(hb:PE X b tb)(hc:PE X c tc)(hm:Ix [op,op'] [b,c]=Ae:=by with_unfolding_all rfl):PE X (.Compare a [op,op'] [b,c] pos) (Te r r' ta tb tc):=by
 intro pI s Y H Q I h;refine Compare_chain (thn (ha pI s Y H _ I h) λv s1 ⟨x,H1,I1,r1,q1⟩=>chain_link (thn (hb pI s1 Y H1 _ I1 q1) λu s2 ⟨y,H2,I2,r2,q2⟩=>
  thn (ho pI s2 Y H2 x y v u _ I2 r1 r2 q2) λd s3 ⟨z,H3,I3,r3,k,e,q3⟩=>?_)) hm
 subst e;cases r3;refine Cj ?_;cases k with
 |false=>exact ite_ff ⟨.bl Ae,H3,I3,rfl,q3⟩
 |true=>exact ite_tt (chain_last (thn (hc pI s3 Y H3 _ I3 q3) λw' s4 ⟨z',H4,I4,r4,q4⟩=>ho' pI s4 Y H4 y z' u w' Q I4 r2 r4 q4))
theorem ZL{op':Db}{r':R2}(ho:OpR X (B9 op) r)(ho':OpR X (B9 op') r')(ha:PE X a ta)(hb:PE X b tb)(hc:PE X c tc)(hm:Ix [op,op'] [b,c]=Ae:=by with_unfolding_all rfl):PT X (.Compare a [op,op'] [b,c] pos) (Tv (Te r r' ta tb tc)):=by
 intro pI s Y H Q I h;refine isTrue_chain (thn (ha pI s Y H _ I h) λv s1 ⟨x,H1,I1,r1,q1⟩=>test_link (thn (hb pI s1 Y H1 _ I1 q1) λu s2 ⟨y,H2,I2,r2,q2⟩=>
  thn (ho pI s2 Y H2 x y v u _ I2 r1 r2 q2) λd s3 ⟨z,H3,I3,r3,k,e,q3⟩=>?_)) hm
 subst e;cases r3;refine Cj ?_;cases k with
 |false=>
  obtain⟨k',e',q'⟩:=q3;cases e';exact ite_ff ⟨H3,I3,q'⟩
 |true=>
  refine ite_tt (test_last (thn (hc pI s3 Y H3 _ I3 q3) λw' s4 ⟨z',H4,I4,r4,q4⟩=>thn (ho' pI s4 Y H4 y z' u w' _ I4 r2 r4 q4) λd' s5 ⟨z2,H5,I5,r5,k2,e2,q5⟩=>?_))
  subst e2;cases r5;exact Cj ⟨H5,I5,q5⟩
noncomputable def UI(K:Fg)(x:V)(H:Hp)(k:Ai):Prop:=
  match x with
  |.non=>k=Ae
  |.bl b=>k=b
  |.int i=>k=(i != 0)
  |.str y=>y.length<=sizeLine/\k=((y.length:Ad) != 0)
  |.byt y=>y.size<=sizeLine/\k=((y.size:Ad) != 0)
  |.ref p=>(∃ xs,SqL K H p xs/\k=!xs.isEmpty)\/(∃ xs,SqT K H p xs/\k=!xs.isEmpty)\/∃ kvs,H p=Ab (.dK kvs)/\k=!kvs.isEmpty
  |_=>Bk
theorem Yx{κ:Type}{kvs:Ac (κ×V)}{vs:Ac (κ×Aj)}(r:KV kvs vs):(!vs.isEmpty)=!kvs.isEmpty:=by
 cases r<;>rfl
theorem P7{its:Ac Aj}(r:A9 xs its):(!its.toArray.isEmpty)=!xs.isEmpty:=by
 cases r<;>simp
theorem Jn:(sizeLine:Ag)<2 ^ 63:=by rw[EO];decide
theorem gZ:XF X (λx H Q=>∃ k,UI X.K x H k/\Q k H):=by
 intro pI s Y H x v Q I rx h;obtain⟨k,e,q⟩:=h;have hl:=Jn;have hs:sizeLine=16777216:=EO;cases x with
 |non=>
  cases rx;have e':k=Ae:=e;subst e';exact truthy_none ⟨H,I,q⟩
 |bl b=>
  cases rx;have e':k=b:=e;subst e';exact Cj ⟨H,I,q⟩
 |int i=>
  obtain⟨t,rfl⟩:=rx;have e':k=(i != 0):=e;subst e';exact PySem.P.truthy_int ⟨H,I,q⟩
 |str y=>
  obtain⟨t,rfl⟩:=rx;obtain⟨hy,e'⟩:y.length<=sizeLine/\k=((y.length:Ad) != 0):=e;subst e';exact PySem.P.truthy_str (by omega) ⟨H,I.tok _,q⟩
 |byt y=>
  obtain⟨t,rfl⟩:=rx;obtain⟨hy,e'⟩:y.size<=sizeLine/\k=((y.size:Ad) != 0):=e;subst e';exact PySem.W.truthy_bytes (by omega) ⟨H,I.tok _,q⟩
 |ref p=>
  cases rx;have e':(∃ xs,SqL X.K H p xs/\k=!xs.isEmpty)\/(∃ xs,SqT X.K H p xs/\k=!xs.isEmpty)\/∃ kvs,H p=Ab (.dK kvs)/\k=!kvs.isEmpty:=e;rcases e' with ⟨xs,hx,e'⟩|⟨xs,hx,e'⟩|⟨kvs,hx,e'⟩
  .subst e';obtain⟨its,r,pl,hz⟩:=I.list hx;have hlen:=r.length;exact wpAny_truthy_list pl.isList (by simp only[Az];omega) ⟨H,I.tok _,by rw[P7 r];exact q⟩
  .subst e';obtain⟨its,r,pl,hz⟩:=I.tuple hx;have hlen:=r.length;exact truthy_tuple pl (by simp only[Az];omega) ⟨H,I.tok _,by rw[P7 r];exact q⟩
  .subst e';obtain⟨hz,hS,vs,r,m⟩:kvs.length<=sizeLine/\(p==DS)=Ae/\∃ vs,KV kvs vs/\s.heap.DictOf (Oe X.prog X.w) p vs:=I.hok p _ hx;have hlen:kvs.length=vs.length:=WG r;exact wpAny_truthy_dict hS m (by omega) ⟨H,I.tok _,by rw[Yx r];exact q⟩
 |_=>exact(show Bk from e).elim
theorem ZK(ha:PE X a ta)(he:∀ whole,HI a X.env whole=(do let v <-whole;HM a.pos;holding [v] (truthy v))):PT X a (λY H Q=>ta Y H λx H'=>∃ k,UI X.K x H' k/\Q k H'):=by
 intro pI s Y H Q I h;exact isTrue_plain (thn (ha pI s Y H _ I h) λv s1 ⟨x,H1,I1,r1,q1⟩=>gZ pI s1 Y H1 x v Q I1 r1 q1) (he _)
theorem Yu:OpR X (B1 .Add) (λx y H Q=>∃ i j,x=.str i/\y=.str j/\i.length+j.length<=sizeLine/\Q (.str (i++j)) H):=by
 intro pI s Y H x y v u Q I rx ry h;obtain⟨i,j,rfl,rfl,hz,q⟩:=h;obtain⟨t,rfl⟩:=rx;obtain⟨t',rfl⟩:=ry;exact add_str (λt' tk=>⟨.str (i++j),H,I.tok _,⟨_,rfl⟩,q⟩) hz
theorem Jx{x:V}(r:A9 [x] us):∃ u,us=[u]/\Bv x u:=by
 cases r with
 |cons r1 r2=>cases r2;exact⟨_,rfl,r1⟩
theorem oU{x y:V}(r:A9 [x,y] us):∃ u w',us=[u,w']/\Bv x u/\Bv y w':=by
 cases r with
 |cons r1 r2=>
  cases r2 with
  |cons r3 r4=>cases r4;exact⟨_,_,rfl,r1,r3⟩
end
structure ObjM (h:AJ) (x dx C:Ah) (mA:Ak->Ao Aj):Prop where
 obj:h.get? x=Ab (DD C dx)
 ns:h.Ns1 dx mA
 ne:dx≠x
theorem YD(n:h.Ns1 dx mA):∃ od,h.get? dx=Ab od/\∀ name,HG name od=Ab (mA name):=by
 obtain⟨o,es,ep,ho,hd,hk,_,hm⟩:=n;refine⟨o,ho,λname=>?_⟩
 have e:=hm name;unfold nsFind findBy at e;rw[<-Array.find?_toList]at e;unfold HG;rw[hd];dsimp only;split
 .rename_i y q;rw[q]at e;exact congrArg Ab e
 .rename_i q;rw[q]at e;have a:es.toList.any (·.refKey)=Ae:=by
   rw[Vd];intro y hy;obtain⟨z,t,hkey⟩:=hk y (Array.mem_toList_iff.mp hy);simp[DictEntry.refKey,hkey]
  have a':¬ es.toList.any (·.refKey)=Aa:=by rw[a];exact AA
  rw[AF a'];exact congrArg Ab e
theorem ObjM.look{x C:Ah}(I:ObjM h x dx C mA):∃ od,PySem.W.InstAt h x (DD C dx) C (Ab od)/\∀ name,HG name od=Ab (mA name):=
 let ⟨od,ho,hl⟩:=YD I.ns
 ⟨od,⟨I.obj,rfl,rfl,ho⟩,hl⟩
section
variable{prog:AM}{w:Ay}{A:A2}{E:Vq}{s:Aq}{K:Fg}{x dx C f:Ah}{mA:Ak->Ao Aj}{name:Ak}{v:Aj}
end
section
variable{P:AM}{w:Ay}{H H':Hp}{h h':AJ}{a C dx:Ah}{fs fs':Ac (Ak×V)}
end
structure Cls (K:Fg) (C:Ah):Prop where
 pg:W2 K C Str.empty=Aa
 hd:PySem.W.hasDictIn K C=Aa
 po:PySem.W.plainOver K C=Aa
 sa:Bx K (.ref C) "__setattr__" = Ab (Ab (.builtin "object.__setattr__"))
theorem Cls.get{K:Fg}{C:Ah}(c:Cls K C)(f:Ak):W2 K C f=Aa:=c.pg
section
variable{X:Cx}{pI:Pn}{Y:St}{H:Hp}{s:Aq}{a C dx:Ah}{fs:Ac (Ak×V)}{f:Ak}{v:V}{A:A2}{E:Vq}
theorem Inv.made(I:Inv X pI Y H s):Inv X pI Y (upd (upd H s.heap.objs.size (.own (s.heap.objs.size+1))) (s.heap.objs.size+1) (.ins C s.heap.objs.size [])) {s with heap:=(s.heap.push CH).push (DD C s.heap.objs.size)}:=by
  have e1:(s.heap.push CH).get? s.heap.objs.size=Ab CH:=AH s.heap rfl;have e2:((s.heap.push CH).push (DD C s.heap.objs.size)).get? (s.heap.objs.size+1)=Ab (DD C s.heap.objs.size):=by
    have:=AH (s.heap.push CH) (o:=DD C s.heap.objs.size) rfl
    rwa [BR]at this
  have e3:(s.heap.push CH).Ns s.heap.objs.size (λ_=>Af):=⟨CH,#[],_,e1,rfl,(λe he=>absurd he (by simp)),λ_=>rfl⟩
  have I1:=I.laid (a:=s.heap.objs.size) (o:=.own (s.heap.objs.size+1)) (h':=s.heap.push CH) (t':=s.toks) (λb u q=>Ar _ q) (AR _) ⟨_,e1⟩
  refine I1.laid (a:=s.heap.objs.size+1) (o:=.ins C s.heap.objs.size []) (t':=s.toks) (λb u q=>Ar _ q) (VC (BR _ _)) ?_
  have ne:s.heap.objs.size≠s.heap.objs.size+1:=Bi (Ez _);refine⟨by rw[CK ne,G0],Hn _,ne,e2,λ_=>Af,(Heap.Ns1.of_empty e3).at λo q=>Ar _ q,λ_=>True.intro,λy hy=>absurd rfl hy⟩
end
section
variable{X:Cx}{o e value:Al}{f:Ak}{pos pos' tpos:AK}{ta tv:TE}
end
section
variable{X:Cx}{pI:Pn}{Y:St}{H:Hp}{s:Aq}{A:A2}{E:Vq}{Q:Vq}{c:Aj}{b:Ai}
end
structure Room (k:Ag) (A:A2):Prop where
 hd:A.handled=Af
 dp:A.depth+3*k+5<W7
 un:A.units+16*k+200<Bz
 gd:A.guards=Ab []
theorem Room.mono{j:Ag}{A:A2}(r:Room k A)(h:j<=k):Room j A:=⟨r.hd,by have:=r.dp;omega,by have:=r.un;omega,r.gd⟩
theorem Room.deeper{A:A2}(r:Room (k+1) A)(env:Cf):Room k (A.deeper env):=
 ⟨r.hd,by have:=r.dp;show A.depth+1+3*k+5<_;omega,by have:=r.un;show A.units+3+16*k+200<_;omega,r.gd⟩
theorem Room.depth{A:A2}(r:Room k A):A.depth<W7:=by have:=r.dp;omega
theorem Room.units{A:A2}(r:Room k A):A.units+64<Bz:=by have:=r.un;omega
def XM:TA:=λ_ H Q=>Q [] H
def oK(ta:TE)(tr:TA):TA:=λY H Q=>ta Y H λx H1=>tr Y H1 λxs H2=>Q (x::xs) H2
section
variable{X:Cx}{e:Al}{es:Ac Al}{te:TE}{t:TA}{pos:AK}
theorem FX:PA X [] XM:=λ_ _ _ _ H Q I h=>Calls.spliced_nil ⟨[],H,I,.nil,h⟩
theorem ED(ha:PE X e te)(hr:PA X es t)(hs:Av (e::es) X.env=(Ae,eval e X.env)::Av es X.env:=by rfl):PA X (e::es) (oK te t):=by
 intro pos pI s Y H Q I h;rw[hs];show AC _ _ (spliced ((Ae,eval e X.env)::BX pos (Av es X.env))) _ _ s;refine Calls.spliced_cons (thn (ha pI s Y H _ I h) λu s1 ⟨x,H1,I1,r1,q1⟩=>?_)
 exact thn (hr pos pI s1 Y H1 _ I1 q1) λus s2 ⟨xs,H2,I2,r2,q2⟩=>⟨x::xs,H2,I2,.cons r1 r2,q2⟩
def tP(t:TA):TE:=λY H Q=>t Y H λxs H1=>xs.length<=sizeLine/\∀ p,H1 p=Af->Q (.ref p) (upd H1 p (.tup xs))
def XN(t:TA):TE:=λY H Q=>t Y H λxs H1=>xs.length<=sizeLine/\∀ p,H1 p=Af->Q (.ref p) (upd H1 p (.lst xs))
theorem SH{x1}(h:PA X es t):PE X (.Tuple es x1 pos) (tP t):=by
 intro pI s Y H Q I hq;refine wpAny_Tuple_spliced (thn (h pos pI s Y H _ I hq) λus s1 ⟨xs,H1,I1,r,z,q⟩=>⟨by rw[<-r.length];exact z,?_⟩)
 have hf:H1 s1.heap.objs.size=Af:=I1.hok.fresh (AR _);refine⟨.ref s1.heap.objs.size,upd H1 s1.heap.objs.size (.tup xs),I1.laid (t':=s1.toks) (λb u e=>Ar _ e) (AR _) ?_,rfl,q _ hf⟩
 exact⟨z,us,r,⟨_,AH _ rfl,rfl,_,rfl⟩⟩
theorem mC(h:PA X es t):PE X (.List es pos) (XN t):=by
 intro pI s Y H Q I hq;refine wpAny_List_spliced (thn (h pos pI s Y H _ I hq) λus s1 ⟨xs,H1,I1,r,z,q⟩=>⟨by rw[<-r.length];exact z,?_⟩)
 have hf:H1 s1.heap.objs.size=Af:=I1.hok.fresh (AR _);refine⟨.ref s1.heap.objs.size,upd H1 s1.heap.objs.size (.lst xs),I1.laid (t':=s1.toks) (λb u e=>Ar _ e) (AR _) ?_,rfl,q _ hf⟩
 exact⟨z,us,0,r,AH _ rfl⟩
end
abbrev Sp:=Ac V->Hp->VK->XK->Prop
variable{sp:Sp}
abbrev CXT:=Ac Cf->Hp->Aq->XK->Aj->Aq->Prop
variable{CX:CXT}
structure Env0 (P:AM) (w:Ay) (K:Fg) (mg:Ak->Ao Aj) (base:AJ) (A:A2) (outer:Ac Cf) (s:Aq) (H:Hp):Prop where
 frames:A.frames=Ab outer
 mod:Mod K mg base
 bs:∀ b o,base.get? b=Ab o->s.heap.get? b=Ab o/\H b=Af
 bsz:base.objs.size<=s.heap.objs.size
 funs:s.heap.FunFrames base outer
 frf:∀ b∈frs outer,H b=Af
 hok:HOk P w H s.heap
 bare:E9 s.gens
noncomputable def CE(outer:Ac Cf)(P:AM)(w:Ay)(H:Hp)(s:Aq)(Q:VK)(u:Aj)(s':Aq):Prop:=
 ∃ v H',s'.os=s.os/\E9 s'.gens/\Un (frs outer) [] H H' s.heap s'.heap/\HOk P w H' s'.heap/\Bv v u/\Q v H'
noncomputable def CR(CX:CXT)(outer:Ac Cf)(P:AM)(w:Ay)(H:Hp)(s:Aq)(Q:VK)(E:XK)(r:Io)(s':Aq):Prop:=
  match r with
  |.ok (.ret u)=>CE outer P w H s Q u s'
  |.ok _=>Bk
  |.error e=>CX outer H s E e s'
structure FnOk (P:AM) (w:Ay) (K:Fg) (mg:Ak->Ao Aj) (base:AJ) (CX:CXT) (k:Ag) (f:Ah) (fd:BW) (ps:Ac Ak) (sp:Sp):Prop where
 len:∀ vs H Q E,sp vs H Q E->vs.length=ps.length
 run:∀(A:A2)(outer:Ac Cf)(s:Aq)(H:Hp)(args:Args)(us:Ac Aj)(vs:Ac V)(Q:VK)(E:XK),Room k A->Env0 P w K mg base A outer s H->GO s fd args (ps.zip us)->A9 vs us->sp vs H Q E ->
  F9 (model P w) A (.call (.ref f) args) (CR CX outer P w H s Q E) s
theorem FnOk.imp{w:Ay}{K:Fg}{mg:Ak->Ao Aj}{base:AJ}{f:Ah}{sp':Sp}(F:FnOk P w K mg base CX k f fd ps sp)(h:∀ vs H Q E,sp' vs H Q E->sp vs H Q E):FnOk P w K mg base CX k f fd ps sp':=
 ⟨λvs H Q E q=>F.len vs H Q E (h _ _ _ _ q),λA outer s H args us vs Q E hr he hb hv hs=>F.run A outer s H args us vs Q E hr he hb hv (h _ _ _ _ hs)⟩
section
variable{X:Cx}{pI:Pn}{Y:St}{H:Hp}{s s':Aq}
theorem Inv.env0(I:Inv X pI Y H s):Env0 X.prog X.w X.K X.mg X.base X.A X.stack s H:=
 ⟨I.ok.frames,I.ok.mod,I.bs,Ct I.ok.bsz I.sz,I.stack,I.stkFree,I.hok,I.bare⟩
theorem Inv.after{Q:VK}(I:Inv X pI Y H s)(h:CE X.stack X.prog X.w H s Q u s'):EP X pI Y Q u s':=by
 obtain⟨v,H',os,bare,un,hok,r,q⟩:=h;obtain⟨hh,g,d,t,os'⟩:=s';obtain rfl:os'=s.os:=os;exact⟨v,H',I.call (h':=hh) (g':=g) (d':=d) (t':=t) (ch:=[]) un hok bare (λb z=>absurd z (by simp)),r,q⟩
end
def oM(sp:Sp)(dvs:Ac V)(E:XK)(t:TA):TE:=λY H Q=>t Y H λvs H1=>sp (vs++dvs) H1 Q E
noncomputable def GC(K:Fg)(fd:BW)(ps:Ac Ak)(ds:Ac Aj):Prop:=
 ∀(s:Aq)(us:Ac Aj),K.In s.heap->(us++ds).length=ps.length->GO s fd ⟨us,[]⟩ (ps.zip (us++ds))
theorem GC.all{K:Fg}(h:∀ us:Ac Aj,us.length=ps.length->HQ fd ⟨us,[]⟩=pure (ps.zip us)):GC K fd ps []:=λs us _ hl=>by
 rw[BE]at hl ⊢;exact .of_eq (h us hl)
def Jw(CX:CXT)(X:Cx)(E:XK):Prop:=∀(pI:Pn)(Y:St)(H:Hp)(s:Aq)(e:Aj)(s':Aq),Inv X pI Y H s->CX X.stack H s E e s'->X.xe e s'
section
variable{X:Cx}{CX:CXT}{k:Ag}{f C:Ah}{fd:BW}{ps:Ac Ak}{sp:Sp}{dvs:Ac V}{ds:Ac Aj}{E:XK}{x m:Ak}{p pos apos:AK}{e o:Al}{es:Ac Al}{ta:TE}{t:TA}
theorem iS{Q:VK}(F:FnOk X.prog X.w X.K X.mg X.base CX k f fd ps sp)(hr:Room k X.A)(hb:GC X.K fd ps ds)(hd:A9 dvs ds)(hx:Jw CX X E)(I:Inv X pI Y H s)(r:A9 vs us)(h:sp (vs++dvs) H Q E):AC (model X.prog X.w) X.A (call (.ref f) us) (EP X pI Y Q) X.xe s:=by
 have r2:A9 (vs++dvs) (us++ds):=r.append hd;have hl:(us++ds).length=ps.length:=by rw[<-r2.length];exact F.len _ _ _ _ h
 refine wpAny_call (Iu (F.run X.A X.stack s H ⟨us,[]⟩ (us++ds) (vs++dvs) Q E hr I.env0 (hb s us I.kIn hl) r2 h) λr s' hq=>?_)
 cases r with
 |error e=>exact hx pI Y H s e s' I hq
 |ok fl=>
  cases fl with
  |ret u=>exact I.after hq
  |next=>exact DN hq
  |brk=>exact DN hq
  |cont=>exact DN hq
theorem Ob(F:FnOk X.prog X.w X.K X.mg X.base CX k f fd ps sp)(hr:Room k X.A)(hg:Gl X x)(hm:X.mg x=Ab (.ref f))(hk:CC X.K (.ref f)=Aa)(hb:GC X.K fd ps ds)(hd:A9 dvs ds)(hx:Jw CX X E)(ha:PA X (e::es) t)(hdb:(x==("__debug__" : Ak))=Ae:=by decide)(he:Av (e::es) X.env=(Ae,eval e X.env)::Av es X.env:=by rfl)(hpl:(BX pos (Av es X.env)).any (·.1)=Ae:=by rfl):PE X (.Call (.Name x p) (e::es) [] pos) (oM sp dvs E t):=by
 intro pI s Y H Q I h;refine Gr (gM I hg hm ?_ hdb);refine PySem.W.callWith_K (h₀:=X.base) I.ok.mod.kin hk (thn (ha pos pI s Y H _ I h) λus s1 ⟨vs,H1,I1,r,q⟩=>⟨I1.kIn,?_⟩) he hpl
 exact iS F hr hb hd hx I1 r q
end
section
variable{X:Cx}{CX:CXT}{k:Ag}{f C:Ah}{fd:BW}{ps ks:Ac Ak}{sp:Sp}{E:XK}{x m:Ak}{p pos apos kpos:AK}{e o:Al}{es:Ac Al}{kws:Ac CB}{te ta:TE}{t tk:TA}{nm:Ao Ak}
variable{g:Ac Aj->Ac Aj->Ac Aj}{gV:Ac V->Ac V->Ac V}
end
structure FnScope (N P:Ac Ak) (sc:B0):Prop where
 kind:sc.kind=.function
 co:sc.isCoroutine=Ae
 gen:sc.isGenerator=Ae
 nd:N.Nodup
 pre:N.take P.length=P
 par:∀ x∈P,sc.names.lookup x=Ab .local\/sc.names.lookup x=Ab .cell
 nofree:∀ y∈sc.names,y.2≠.free
theorem Qr{kindOf:Ak->Ao D3}{x:Ak}:∀{binds:Ac (Ak×Aj)}{m:Ak->Ao Aj},(∀ v,(x,v)∉binds)->HS kindOf binds m x=m x
 |[],_,_=>rfl
 |(n,v)::r,m,h=>by
  unfold HS;rw[Qr λw hw=>h w (Au _ hw)]
  split
  .have:x≠n:=by rintro rfl;exact h v Aw
   simp[this]
  .rfl
theorem Qt{kindOf:Ak->Ao D3}{x:Ak}:∀{binds:Ac (Ak×Aj)}{m:Ak->Ao Aj},(∀ v,(x,v)∉binds)->HR kindOf binds m x=m x
 |[],_,_=>rfl
 |(n,v)::r,m,h=>by
  unfold HR;rw[Qt λw hw=>h w (Au _ hw)]
  split
  .rfl
  .have:x≠n:=by rintro rfl;exact h v Aw
   simp[this]
theorem Qs{kindOf:Ak->Ao D3}{x:Ak}{v:Aj}:∀{P:Ac Ak}{vs:Ac Aj}{i:Ag}{m:Ak->Ao Aj},P.Nodup->P[i]?=Ab x->vs[i]?=Ab v->kindOf x=Ab .local->HS kindOf (P.zip vs) m x=Ab v
 |[],_,_,_,_,h,_,_=>by simp at h
 |_::_,[],_,_,_,_,h,_=>by simp at h
 |p::P,w::vs,0,m,nd,h1,h2,hk=>by
  simp at h1 h2;subst h1;subst h2;show HS kindOf ((p,w)::P.zip vs) m p=_;unfold HS;rw[Qr λv hv=>(EZ.mp nd).1 (Hf hv).1,Ax hk]
  simp
 |p::P,w::vs,i+1,m,nd,h1,h2,hk=>by
  show HS kindOf ((p,w)::P.zip vs) m x=_;unfold HS;exact Qs (i:=i) (EZ.mp nd).2 (by simpa using h1) (by simpa using h2) hk
theorem Qu{kindOf:Ak->Ao D3}{x:Ak}{v:Aj}:∀{P:Ac Ak}{vs:Ac Aj}{i:Ag}{m:Ak->Ao Aj},P.Nodup->P[i]?=Ab x->vs[i]?=Ab v->kindOf x≠Ab .local->HR kindOf (P.zip vs) m x=Ab v
 |[],_,_,_,_,h,_,_=>by simp at h
 |_::_,[],_,_,_,_,h,_=>by simp at h
 |p::P,w::vs,0,m,nd,h1,h2,hk=>by
  simp at h1 h2;subst h1;subst h2;show HR kindOf ((p,w)::P.zip vs) m p=_;unfold HR;rw[Qt λv hv=>(EZ.mp nd).1 (Hf hv).1,AF hk]
  simp
 |p::P,w::vs,i+1,m,nd,h1,h2,hk=>by
  show HR kindOf ((p,w)::P.zip vs) m x=_;unfold HR;exact Qu (i:=i) (EZ.mp nd).2 (by simpa using h1) (by simpa using h2) hk
noncomputable def start(N:Ac Ak)(vs:Ac V):St:=vs.map Ab++F8 (N.length-vs.length) Af
noncomputable def Gn(CX:CXT)(P:AM)(w:Ay)(K:Fg)(mg:Ak->Ao Aj)(base:AJ)(N:Ac Ak)(qual:Ak)(scope:B0)(f:Ah)(cd:Aj)(A:A2)(outer:Ac Cf)(s:Aq)(H:Hp)(E:XK):Cx where
 prog:=P
 w:=w
 K:=K
 mg:=mg
 base:=base
 A:=A.deeper (EK qual scope s.heap.objs.size f cd)
 N:=N
 s₀:=s
 H₀:=H
 env:=EK qual scope s.heap.objs.size f cd
 outer:=outer
 stack:=EK qual scope s.heap.objs.size f cd::outer
 ex:=[]
 calm:=Aa
 fn:=λ_=>Aa
 pn:=[]
 xe:=λe s'=>AC (model P w) (A.deeper (EK qual scope s.heap.objs.size f cd)) (leaving (EK qual scope s.heap.objs.size f cd) e) (λ_ s''=>CX outer H s E e s'') (λe' s''=>CX outer H s E e' s'') s'
theorem Rk{sc:B0}(h:sc.names.lookup x=Ab .cell):∃ c,(Da n sc.names []).lookup x=Ab c:=by
 have q:=WZ sc.names n [] (.inl h);exact E4.mp q
theorem Y_8{w:Ay}{K:Fg}{mg:Ak->Ao Aj}{base:AJ}{N ps:Ac Ak}{f:Ah}{cd:Aj}{A:A2}{outer:Ac Cf}{s1:Aq}{E:XK}(S:FnScope N ps scope)(hd:A.handled=Af)(e0:Env0 P w K mg base A outer s H)(hl:vs.length=ps.length)(r:A9 vs us)(x:InCallC s s.heap.objs.size (HS (EK qual scope s.heap.objs.size f cd).kindOf (ps.zip us) λ_=>Af) (Da (s.heap.objs.size+1) scope.names []) (HR (EK qual scope s.heap.objs.size f cd).kindOf (ps.zip us) λ_=>Af) s1):Inv (Gn CX P w K mg base N qual scope f cd A outer s H E) [] (start N vs) H s1:=by
 have hpl:ps.length<=N.length:=by have:=congrArg List.length S.pre;rw[GS]at this;omega
 obtain⟨h1,tk,rfl,hk⟩:=x.done;have noA:∀ b:Ah,b∉(Gn CX P w K mg base N qual scope f cd A outer s H E).ex:=λb z=>absurd (show b∈([]:Ac Ah) from z) (by simp)
 refine⟨⟨e0.mod,S.kind,rfl,rfl,AR _,λy z c h1 h2=>?_,λy hy=>?_,λy c _ h=>?_,λ_=>hd,Around.frames_deeper e0.frames,.inr ⟨rfl,rfl⟩,λb z=>absurd z (noA b),e0.bs,e0.bsz,λb _ _=>noA b,λb z=>absurd z (noA b),e0.funs,e0.frf⟩,
  rfl,e0.bare,Un.kept hk,⟨_,x.toInCall.ns,λi y v h1 h2 h3=>?_⟩,λy c h=>⟨_,x.cell y c h⟩,e0.hok.fresh (AR _),λy c h=>?_,λp hp=>absurd (show p∈([]:Pn) from hp) (by simp),e0.hok.kept hk,?_⟩
 .exact name_of_addr x.apart (Ck h1) (Ck h2)
 .have hy:scope.names.lookup y=Ab .cell\/scope.names.lookup y=Ab .free:=hy;rcases hy with hy|hy
  .exact Rk hy
  .exact absurd rfl (S.nofree _ (Ck hy))
 .exact FN (x.above y c (Ck h))
 .have hi:i<vs.length:=by
   unfold start at h2;by_cases hi:i<vs.length
   .exact hi
   .rw[Vl (by simpa using hi)]at h2
    rw[Vo]at h2;split at h2<;>cases h2
  have ha:vs[i]?=Ab v:=by
   unfold start at h2;rw[EX (by simpa using hi),Dm]at h2
   cases e:vs[i]? with
   |none=>rw[e]at h2;cases h2
   |some a=>rw[e]at h2;cases h2;rfl
  obtain⟨u,hu,rv⟩:=r.get ha;have hp:ps[i]?=Ab y:=by
   rw[<-S.pre,List.getElem?_take_of_lt (by omega)];exact h1
  have ndP:ps.Nodup:=by rw[<-S.pre];exact S.nd.sublist (Vz _ _)
  refine⟨u,rv,?_⟩;rcases S.par y (DP hp) with k|k
  .exact .inl ⟨k,Qs ndP hp hu k⟩
  .obtain⟨c,e⟩:=Rk (n:=s.heap.objs.size+1) k;refine .inr ⟨.inl k,c,e,?_⟩;have q:=x.cell y c e;rw[Qu ndP hp hu (by show scope.names.lookup y≠_;rw[k];decide)]at q
   exact q
 .exact e0.hok.fresh (FN (x.above y c (Ck h)))
 .unfold start;show _=N.length;rw[Be,Bl,Vs];omega
theorem Ua{w:Ay}{K:Fg}{mg:Ak->Ao Aj}{base:AJ}{f:Ah}{name:Ak}{params:Arguments}{dV kV doc pm cdv ct oc:Aj}{an od:Ao Ah}{osl:Bb (Ao Aj)}{N ps:Ac Ak}(lk:K.lookup f=Ab ⟨oc,od,.func (CZ name qual params body scope dV kV doc pm an cdv ct),osl⟩)(hcd:Fa K cdv qual=Aa)(S:FnScope N ps scope)(len:∀ vs H Q E,sp vs H Q E->vs.length=ps.length)(hbody:∀(A:A2)(outer:Ac Cf)(s:Aq)(H:Hp)(vs:Ac V)(Q:VK)(E:XK),Room k (A.deeper (EK qual scope s.heap.objs.size f cdv))->sp vs H Q E ->
   ∃ t,PSs (Gn CX P w K mg base N qual scope f cdv A outer s H E) body t/\t {nx:=λ_ H'=>Q .non H',rt:=Q} (start N vs) H):FnOk P w K mg base CX (k+1) f (CZ name qual params body scope dV kV doc pm an cdv ct) ps sp:=by
 refine⟨len,λA outer s H args us vs Q E hr e0 hb r hsp=>?_⟩
 have hl:=len _ _ _ _ hsp;have KX:K.In s.heap:=e0.mod.kin.keeps λb o e=>(e0.bs b o e).1
 have lim:s.heap.NoLimit:=e0.mod.nolimit.keeps λb o e=>(e0.bs b o e).1
 have hkind:∀ y∈ps.zip us,scope.names.lookup y.1=Ab .local\/(scope.names.lookup y.1=Ab .cell/\((Da (s.heap.objs.size+1) scope.names []).lookup y.1).isSome=Aa):=λ⟨n,v⟩ hy=>by
  rcases S.par n (Hf hy).1 with q|q
  .exact .inl q
  .exact .inr ⟨q,WZ _ _ _ (.inl q)⟩
 refine codeAny_call_function hr.depth (KX _ _ lk) rfl S.co S.gen rfl (PySem.W.codeRec_of KX hcd) (hb _ _ _ _ ?_);refine wpAny_newFunctionEnv_cells S.kind hkind λenv he s1 x=>?_
 subst he;refine⟨lim.keeps x.toInCall.keep,codeAny_func ?_⟩;obtain⟨t,ht,hq⟩:=hbody A outer s H vs Q E (hr.deeper _) hsp;have I:Inv (Gn CX P w K mg base N qual scope f cdv A outer s H E) [] (start N vs) H s1:=Y_8 S hr.hd e0 hl r x;refine Cd (ht [] s1 (start N vs) H _ I hq) (λfl s' hs=>?_) λe s' hs=>hs
 have fin:∀{Y':St}{H':Hp}{v:V}{u:Aj},Inv (Gn CX P w K mg base N qual scope f cdv A outer s H E) [] Y' H' s'->Bv v u->Q v H'->CE outer P w H s Q u s':=
  λ{Y' H' v u} J rv q=>⟨v,H',J.os,J.bare,J.base,J.hok,rv,q⟩
 cases fl with
 |ret u=>
  obtain⟨v,Y',H',J,rv,q⟩:=hs;exact fin J rv q
 |next=>
  obtain⟨Y',H',J,q⟩:=hs;exact fin (v:=V.non) (u:=DR) J rfl q
 |brk=>
  obtain⟨_,_,_,q⟩:=hs;exact DN q
 |cont=>
  obtain⟨_,_,_,q⟩:=hs;exact DN q
section
variable{X:Cx}{x:Ak}{p pos:AK}{e:Al}{es:Ac Al}{t:TA}{id T:CG}{r:Ac V->Hp->VK->Prop}
def tCB(r:Ac V->Hp->VK->Prop)(t:TA):TE:=λY H Q=>t Y H λvs H1=>r vs H1 Q
theorem QZ(hc:II X (.builtin id) r)(hg:Gl X x)(hm:X.mg x=Af)(hv:C0 x=Ab (.builtin id))(ha:PA X (e::es) t)(hn:x≠"__name__" := by decide)(hdb:(x==("__debug__" : Ak))=Ae:=by decide)(he:Av (e::es) X.env=(Ae,eval e X.env)::Av es X.env:=by rfl)(hpl:(BX pos (Av es X.env)).any (·.1)=Ae:=by rfl):PE X (.Call (.Name x p) (e::es) [] pos) (tCB r t):=by
 intro pI s Y H Q I h;refine Gr (Jo I hg hm hv ?_ hn hdb);exact PyProof.Rows.callWith_builtin1 (thn (ha pos pI s Y H _ I h) λus s1 ⟨vs,H1,I1,r1,q1⟩=>hc pI s1 Y H1 vs us Q I1 r1 q1) he hpl
theorem QC(hc:II X (.type T) r)(hg:Gl X x)(hm:X.mg x=Af)(hv:C0 x=Ab (.type T))(ha:PA X (e::es) t)(hn:x≠"__name__" := by decide)(hdb:(x==("__debug__" : Ak))=Ae:=by decide)(he:Av (e::es) X.env=(Ae,eval e X.env)::Av es X.env:=by rfl)(hpl:(BX pos (Av es X.env)).any (·.1)=Ae:=by rfl):PE X (.Call (.Name x p) (e::es) [] pos) (tCB r t):=by
 intro pI s Y H Q I h;refine Gr (Jo I hg hm hv ?_ hn hdb);exact CS (thn (ha pos pI s Y H _ I h) λus s1 ⟨vs,H1,I1,r1,q1⟩=>hc pI s1 Y H1 vs us Q I1 r1 q1) he hpl
end
end L2
namespace HT
open PySem PyProof.Rows
variable{sl:Ah}
section
open PySem.SeqAt
open PySem.AutoSeq1 (wpAny_loadPart')
open PySem.MeetsSeq PySem.MeetsSeq2 PySem.MeetsSeq3
end
section
variable{prog:AM}{w:Ay}{A:A2}{E:Vq}{s:Aq}
theorem cat_tup{t b:Ah}{vs ws:Ac Aj}{Q:Vq}(ht:JH s.heap t vs.toArray)(hb:JH s.heap b ws.toArray)(hv:vs≠[])(h1:ws=[]->Q (.ref t) s)(h2:ws≠[]->Q (.ref s.heap.objs.size) { s with heap:=s.heap.push { cls:=.type "tuple",data:=.seq (vs++ws).toArray } })(hsz:vs.length+ws.length<=sizeLine):AC (model prog w) A (B1 .Add (.ref t) (.ref b)) Q E s:=by
 obtain⟨⟨cls,dd,data,sl⟩,ho,hc,n,hd⟩:=id ht;obtain⟨⟨cls2,dd2,data2,sl2⟩,ho2,hc2,n2,hd2⟩:=id hb;simp only at hc hd hc2 hd2;subst hc hd hc2 hd2;have e:vs.toArray++ws.toArray=(vs++ws).toArray:=by simp
 by_cases hw:ws=[]
 .exact Iw ⟨_,ho,rfl⟩ ⟨_,ho2,rfl⟩ W6 seq_tuple_add Wz Wu (Wq _ _)
   (tuple_addW1 t b vs.toArray ws.toArray n n2 dd dd2 sl sl2 (by simpa using hv) (by simp[hw])) ⟨ho,ho2,h1 hw⟩
 .refine Iw ⟨_,ho,rfl⟩ ⟨_,ho2,rfl⟩ W6 seq_tuple_add Wz Wu (Wq _ _)
   (tuple_addW2 t b vs.toArray ws.toArray n n2 dd dd2 sl sl2 (by simpa using hv) (by simpa using hw) (by rw[Az,Az];exact hsz)) ⟨ho,ho2,?_⟩
  rw[e];exact h2 hw
noncomputable def sIx(n d:Ag):Ao Ad->Ag
 |none=>d
 |some v=>if v<0 then (v+(n:Ad)).toNat else min v.toNat n
theorem jT(n d:Ag)(hd:d<=n)(o:Ao Ad):sIx n d o<=n:=by
 cases o with
 |none=>exact hd
 |some v=>
  show (if v<0 then (v+(n:Ad)).toNat else min v.toNat n)<=n
  by_cases hv:v<0
  .rw[Ax hv];omega
  .rw[AF hv];exact Nat.min_le_right _ _
theorem RX(v:Ad)(n d:Ag):(if v<0 then max (v+(n:Ad)) 0 else min v (n:Ad))=((sIx n d (Ab v):Ag):Ad):=by
 show (if v<0 then max (v+(n:Ad)) 0 else min v (n:Ad))=(((if v<0 then (v+(n:Ad)).toNat else min v.toNat n):Ag):Ad)
 by_cases hv:v<0
 .simp only[Ax hv];omega
 .simp only[AF hv];omega
theorem Ym(lo hi:Ao Ad)(n:Ag):E0 lo hi 1 (n:Ad)=(((sIx n 0 lo:Ag):Ad),((sIx n n hi:Ag):Ad)):=by
 have h1:¬ ((1:Ad)<0):=by omega
 unfold E0;simp only[h1,Ii];refine De ?_ ?_
 .cases lo with
  |none=>rfl
  |some v=>exact RX v n 0
 .cases hi with
  |none=>rfl
  |some v=>exact RX v n n
theorem Yt(i j:Ag):DQ (i:Ad) (j:Ad) 1=j-i:=by
 unfold DQ;have h1:(1:Ad)>0:=by omega
 simp only[h1,HN,Int.ediv_one];split<;>omega
theorem P5{v:Aj}{o:Ao Ad}{Q:Ao Ad->Aq->Prop}(p:GU v o)(h:Q o s):AC (model prog w) A (Builtin.Slice.slicePartIndex v) Q E s:=by
 cases p with
 |none=>exact VO h
 |int i t=>exact slicePart_int h
theorem X6{vl vu:Aj}{lo hi:Ao Ad}{n:Ag}{Q:Ad×Ad×Ag->Aq->Prop}(hs:s.heap.IsSliceOf sl vl vu .none)(pl:GU vl lo)(pu:GU vu hi)(h:Q (((sIx n 0 lo:Ag):Ad),1,sIx n n hi-sIx n 0 lo) s):AC (model prog w) A (VS (.ref sl) (pure (n:Ad))) Q E s:=by
 obtain⟨os,hos,hcs,hds⟩:=id hs;unfold VS Builtin.Slice.sliceFields;refine Am (Am (BL hos hds (x:=vl) rfl (Am (BL hos hds (x:=vu) rfl (Am (BL hos hds (x:=.none) rfl (AD ?_)))))));refine Am (VO ?_);show AC _ _ (if ((1:Ad)==0)=Aa then _ else _) _ _ s
 rw[AF (by decide)]
 refine Am (P5 pl (Am (P5 pu (Am (AD ?_)))));show AC _ _ (match E0 lo hi 1 (n:Ad) with|(lo,hi)=>pure (lo,(1:Ad),DQ lo hi 1)) _ _ s
 rw[Ym lo hi n];show AC _ _ (pure (((sIx n 0 lo:Ag):Ad),(1:Ad),DQ ((sIx n 0 lo:Ag):Ad) ((sIx n n hi:Ag):Ad) 1)) _ _ s;rw[Yt];exact AD h
theorem ZN(xs:Bb Aj)(i k:Ag):((AS k).filterMap fun(m:Ag)=>xs[((i:Ad)+(m:Ad)*1).toNat]?).toArray=((xs.toList.drop i).take k).toArray:=by
 have e:(fun(m:Ag)=>xs[((i:Ad)+(m:Ad)*1).toNat]?)=λm=>xs[i+m]?:=by
  funext m
  have:((i:Ad)+(m:Ad)*1).toNat=i+m:=by omega
  rw[this]
 rw[e];have:=pick_run xs i k;rw[List.filterMap_map]at this;have e2:((λx=>xs[x]?) ∘ λx=>i+x)=λm=>xs[i+m]?:=rfl
 rw[e2]at this;rw[this]
theorem getItem_tuple_cut{t:Ah}{items:Bb Aj}{vl vu:Aj}{lo hi:Ao Ad}{Q:Vq}(ht:JH s.heap t items)(hs:s.heap.IsSliceOf sl vl vu .none)(pl:GU vl lo)(pu:GU vu hi)(hw:¬ (sIx items.size 0 lo=0/\sIx items.size items.size hi=items.size))(h:Q (.ref s.heap.objs.size) { s with heap:=s.heap.push { cls:=.type "tuple",data:=.seq ((items.toList.drop (sIx items.size 0 lo)).take (sIx items.size items.size hi-sIx items.size 0 lo)).toArray } })(hsz:items.size<=sizeLine):AC (model prog w) A (IR (.ref t) (.ref sl)) Q E s:=by
 have htake:sizeOk (.seq ((items.toList.drop (sIx items.size 0 lo)).take (sIx items.size items.size hi-sIx items.size 0 lo)).toArray):=by
  show ((items.toList.drop (sIx items.size 0 lo)).take (sIx items.size items.size hi-sIx items.size 0 lo)).toArray.size<=sizeLine;rw[Az,GS,Vr,ER];omega
 have hj:sIx items.size items.size hi<=items.size:=jT _ _ (AR _) hi;obtain⟨os,hos,hcs,hds⟩:=id hs;have hTs:s.TypeIs (.ref sl) "slice" := ⟨os,hos,hcs⟩;unfold IR
 try with_reducible refine Cz ?_
 first|refine Am (AD ?_)|skip
 refine Am (wpAny_sequenceKey ht.typeIs (by decide) ?_)
 refine Am (CF (name:=AV "__getitem__") ht.typeIs VP
  (EC VP ht.typeIs entry_tuple_getitem ?_ (args_tuple_getitem _ _)))
 show AC _ _ (Builtin.Tuple.tupleItemsOf (.ref t) >>= _) _ _ s;refine Am (tupleItemsOf_ ht ?_);refine Am (wpAny_typeOf hTs ?_);rw[Ax (by decide)]
 refine Am (X6 hs pl pu ?_);have hno:¬ ((((sIx items.size 0 lo:Ag):Ad)==0&&(1:Ad)==1&&(sIx items.size items.size hi-sIx items.size 0 lo)==items.size)=Aa):=by
  intro q;rw[Ap,Ap]at q;have q1:((sIx items.size 0 lo:Ag):Ad)=0:=eq_of_beq q.1.1;have q2:sIx items.size items.size hi-sIx items.size 0 lo=items.size:=eq_of_beq q.2;exact hw ⟨by omega,by omega⟩
 show AC _ _ (if (((sIx items.size 0 lo:Ag):Ad)==0&&(1:Ad)==1&&(sIx items.size items.size hi-sIx items.size 0 lo)==items.size)=Aa then _ else _) _ _ s
 rw[AF hno,ZN]
 first
  |exact Am (m:=DZ _) (CJ (AD ⟨_,rfl,AD h⟩) htake)
  |exact Am (m:=DZ _) (CJ (Am (AD (AD ⟨_,rfl,AD h⟩))) htake)
  |exact Am (Am (m:=DZ _) (CJ (AD (AD ⟨_,rfl,AD h⟩)) htake))
  |exact Am (Am (m:=DZ _) (CJ (AD ⟨_,rfl,AD h⟩) htake))
end
end HT
namespace L2
open PySem PySem.Spec PyProof.Rows
variable{r:V->Ao Ad->Ao Ad->Hp->VK->Prop}{xs:Ac V}{us its its':Ac Aj}{n j t':Ag}{i:Ad}{α:Type}{pI:Pn}{Y:St}{H:Hp}{s:Aq}{p:Ah}
abbrev TO:=St->Hp->(Ao Ad->Hp->Prop)->Prop
noncomputable def PO(X:Cx)(e:Ao Al)(t:TO):Prop:=
 ∀(pI:Pn)(s:Aq)(Y:St)(H:Hp)(Q:Ao Ad->Hp->Prop),Inv X pI Y H s->t Y H Q ->
  AC (model X.prog X.w) X.A (evalPart e X.env) (λu s'=>∃ o H',Inv X pI Y H' s'/\GU u o/\Q o H') X.xe s
def aK:TO:=λ_ H Q=>Q Af H
def oF(t:TE):TO:=λY H Q=>t Y H λx H1=>∃ i,x=.int i/\Q (Ab i) H1
section
variable{X:Cx}{e:Al}{te:TE}{lo hi:Ao Al}{tl th:TO}{pos p2:AK}
theorem cP:PO X Af aK:=by
 intro pI s Y H Q I h;rw[evalPart_none];exact AD ⟨Af,H,I,.none,h⟩
theorem cO(h:PE X e te):PO X (Ab e) (oF te):=by
 intro pI s Y H Q I hw;rw[evalPart_some];refine thn (h pI s Y H _ I hw) λu s1 ⟨x,H1,I1,r1,q1⟩=>?_
 obtain⟨i,rfl,q⟩:=q1;obtain⟨t,rfl⟩:=r1;exact⟨Ab i,H1,I1,.int i t,q⟩
noncomputable def SlR(X:Cx)(r:V->Ao Ad->Ao Ad->Hp->VK->Prop):Prop:=
 ∀(pI:Pn)(s:Aq)(Y:St)(H:Hp)(x:V)(v vl vu:Aj)(lo hi:Ao Ad)(sl:Ah)(Q:VK),Inv X pI Y H s->Bv x v->s.heap.IsSliceOf sl vl vu .none->GU vl lo->GU vu hi->r x lo hi H Q ->
  ∃ T id,typeLookup (.type T) "__getitem__" = pure (Ab (.builtin id))/\s.TypeIs v T/\AC (model X.prog X.w) X.A (IR v (.ref sl)) (EP X pI Y Q) X.xe s
theorem SlR.or{r':V->Ao Ad->Ao Ad->Hp->VK->Prop}(h:SlR X r)(h':SlR X r'):SlR X (λx lo hi H Q=>r x lo hi H Q\/r' x lo hi H Q):=by
 intro pI s Y H x v vl vu lo hi sl Q I rx hs pl pu q;rcases q with q|q
 .exact h pI s Y H x v vl vu lo hi sl Q I rx hs pl pu q
 .exact h' pI s Y H x v vl vu lo hi sl Q I rx hs pl pu q
def tSl(r:V->Ao Ad->Ao Ad->Hp->VK->Prop)(te:TE)(tl th:TO):TE:=λY H Q=>te Y H λx H1=>tl Y H1 λl H2=>th Y H2 λu H3=>r x l u H3 Q
theorem ZO(hr:SlR X r)(he:PE X e te)(hl:PO X lo tl)(hu:PO X hi th):PE X (.Subscript e (.Slice lo hi Af p2) pos) (tSl r te tl th):=by
 intro pI s Y H Q I h;refine Subscript_ (thn (he pI s Y H _ I h) λv s1 ⟨x,H1,I1,r1,q1⟩=>?_)
 refine wpAny_Slice (thn (hl pI s1 Y H1 _ I1 q1) λvl s2 ⟨l,H2,I2,pl,q2⟩=>thn (hu pI s2 Y H2 _ I2 q2) λvu s3 ⟨u,H3,I3,pu,q3⟩=>?_)
 rw[evalPart_none];refine AD ?_;have I4:Inv X pI Y H3 { s3 with heap:=s3.heap.push { cls:=.type "slice",data:=.fields #[vl,vu,.none] } }:=I3.kept (t':=s3.toks) λb ob q=>Ar _ q
 obtain⟨T,id,hT,ht,hg⟩:=hr pI { s3 with heap:=s3.heap.push { cls:=.type "slice",data:=.fields #[vl,vu,.none] } } Y H3 x v vl vu l u s3.heap.objs.size Q I4 r1 (Heap.IsSliceOf.new ..) pl pu q3
 show AC (model X.prog X.w) X.A (subscriptTail e (.Slice lo hi Af p2) v (.ref s3.heap.objs.size)) (EP X pI Y Q) X.xe { s3 with heap:=s3.heap.push { cls:=.type "slice",data:=.fields #[vl,vu,.none] } }
 exact tail_any (ops:=[.ref s3.heap.objs.size,v]) ht hT hg (by with_unfolding_all rfl)
noncomputable def IM(xs:Ac V)(lo hi:Ao Ad):Ac V:=(xs.drop (HT.sIx xs.length 0 lo)).take (HT.sIx xs.length xs.length hi-HT.sIx xs.length 0 lo)
theorem Qd(xs:Ac V)(lo hi:Ao Ad):(IM xs lo hi).length<=xs.length:=by
 unfold IM;rw[GS,Vr];omega
def Uk(K:Fg):V->Ao Ad->Ao Ad->Hp->VK->Prop:=λx lo hi H Q=>∃ a xs,x=.ref a/\SqT K H a xs /\
 ¬ (HT.sIx xs.length 0 lo=0/\HT.sIx xs.length xs.length hi=xs.length)/\∀ p,H p=Af->Q (.ref p) (upd H p (.tup (IM xs lo hi)))
theorem jB:SlR X (Uk X.K):=by
 intro pI s Y H x v vl vu lo hi sl Q I rx hs pl pu h;obtain⟨a,xs,rfl,hx,hw,q⟩:=h;cases rx;obtain⟨its,r,ht,hz⟩:=I.tuple hx;have hlen:its.toArray.size=xs.length:=by rw[Az];exact r.length.symm
 refine⟨"tuple",_,PyProof.Rows.slot_tuple_getitem.lookup,ht.typeIs,?_⟩;refine HT.getItem_tuple_cut ht hs pl pu (by rw[hlen];exact hw) ?_ (by rw[hlen];exact hz)
 rw[hlen];refine⟨.ref s.heap.objs.size,_,I.laid (t':=s.toks) (o:=.tup (IM xs lo hi)) (λb ob q=>Ar _ q) (AR _) ?_,rfl,q _ (I.hok.fresh (AR _))⟩
 exact⟨Ct (Qd xs lo hi) hz,_,(r.drop (HT.sIx xs.length 0 lo)).take (HT.sIx xs.length xs.length hi-HT.sIx xs.length 0 lo),KG _ _⟩
def rW(K:Fg):R2:=λx y H Q=>∃ a b xs ys,x=.ref a/\y=.ref b/\SqT K H a xs/\SqT K H b ys/\xs≠[]/\xs.length+ys.length<=sizeLine /\
 (ys=[]->Q (.ref a) H)/\(ys≠[]->∀ p,H p=Af->Q (.ref p) (upd H p (.tup (xs++ys))))
theorem A9.nil_iff(r:A9 xs us):us=[]↔xs=[]:=by
 cases r with
 |nil=>simp
 |cons _ _=>simp
theorem cE:OpR X (B1 .Add) (rW X.K):=by
 intro pI s Y H x y v u Q I rx ry h;obtain⟨a,b,xs,ys,rfl,rfl,ha,hb,hx,hz,q1,q2⟩:=h;cases rx;cases ry;obtain⟨its,r1,p1,_⟩:=I.tuple ha;obtain⟨its2,r2,p2,_⟩:=I.tuple hb;refine HT.cat_tup p1 p2 (λz=>hx (r1.nil_iff.mp z)) (λz=>⟨.ref a,H,I,rfl,q1 (r2.nil_iff.mp z)⟩) (λz=>?_) (by rw[<-r1.length,<-r2.length];exact hz)
 refine⟨.ref s.heap.objs.size,_,I.laid (t':=s.toks) (o:=.tup (xs++ys)) (λb ob q=>Ar _ q) (AR _) ?_,rfl,q2 (λw=>z (r2.nil_iff.mpr w)) _ (I.hok.fresh (AR _))⟩
 exact⟨by rw[Be];exact hz,_,r1.append r2,KG _ _⟩
end
noncomputable def ixN(n:Ag)(i:Ad):Ao Ag:=if 0<=i then (if i<n then Ab i.toNat else Af) else if -(n:Ad)<=i then Ab (i+n).toNat else Af
noncomputable def atI{α:Type}(xs:Ac α)(i:Ad):Ao α:=(ixN xs.length i).bind λj=>xs[j]?
theorem R7(h:ixN n i=Ab j):seqIndex? i n=Ab j/\j<n/\-(n:Ad)<=i/\i<n:=by
 unfold ixN at h;by_cases h0:0<=i
 .rw[Ax h0]at h;by_cases h1:i<n
  .rw[Ax h1]at h;have e:i.toNat=j:=Bh h;exact⟨by rw[IV h0 h1,e],by omega,by omega,h1⟩
  .rw[AF h1]at h;cases h
 .rw[AF h0]at h;by_cases h1:-(n:Ad)<=i
  .rw[Ax h1]at h;have e:(i+n).toNat=j:=Bh h;exact⟨by rw[IA (by omega) h1,e],by omega,h1,by omega⟩
  .rw[AF h1]at h;cases h
theorem R1{xs:Ac α}{v:α}(h:atI xs i=Ab v):∃ j,seqIndex? i xs.length=Ab j/\xs[j]?=Ab v/\j<xs.length/\-(xs.length:Ad)<=i/\i<xs.length:=by
 unfold atI at h;cases e:ixN xs.length i with
 |none=>rw[e]at h;cases h
 |some j=>
  rw[e]at h;obtain⟨h1,h2,h3,h4⟩:=R7 e;exact⟨j,h1,h,h2,h3,h4⟩
theorem iN{xs:Ac α}{v:α}(h:xs[j]?=Ab v):atI xs (j:Ad)=Ab v:=by
 have hj:j<xs.length:=(AU.mp h).1;have e:ixN xs.length (j:Ad)=Ab j:=by
  unfold ixN;rw[Ax (by omega),Ax (by omega)];simp
 unfold atI;rw[e];exact h
def Oa(b:Al):Prop:=∀ o i,subscripted b Ae o i=operate [o,i] (IR o i)
noncomputable def IxR(X:Cx)(r:R2):Prop:=
 ∀(value slice:Al)(pI:Pn)(s:Aq)(Y:St)(H:Hp)(x y:V)(v u:Aj)(Q:VK),Inv X pI Y H s->Bv x v->Bv y u->r x y H Q ->
  subscripted slice Ae v u=operate [v,u] (IR v u)->AC (model X.prog X.w) X.A (subscriptTail value slice v u) (EP X pI Y Q) X.xe s
noncomputable def MtR(X:Cx)(id:CG)(r:V->Ac V->Hp->VK->Prop):Prop:=
 ∀(pI:Pn)(s:Aq)(Y:St)(H:Hp)(x:V)(xs:Ac V)(v:Aj)(us:Ac Aj)(Q:VK),Inv X pI Y H s->Bv x v->A9 xs us->r x xs H Q ->
  AC (model X.prog X.w) X.A (call (.builtin id) (v::us)) (EP X pI Y Q) X.xe s
section
variable{X:Cx}{a b:Al}{ta tb:TE}{pos:AK}
theorem IxR.or{r r':R2}(h:IxR X r)(h':IxR X r'):IxR X (λx y H Q=>r x y H Q\/r' x y H Q):=by
 intro value slice pI s Y H x y v u Q I rx ry q hs;rcases q with q|q
 .exact h value slice pI s Y H x y v u Q I rx ry q hs
 .exact h' value slice pI s Y H x y v u Q I rx ry q hs
theorem TX{r:R2}(hr:IxR X r)(ha:PE X a ta)(hb:PE X b tb)(hs:Oa b):PE X (.Subscript a b pos) (tOp r ta tb):=by
 intro pI s Y H Q I h;exact Subscript_ (PC ha hb I h λv u s2 x y H2 I2 rx ry q=>hr a b pI s2 Y H2 x y v u Q I2 rx ry q (hs _ _))
def UN(K:Fg):R2:=λx y H Q=>∃ p xs i v,x=.ref p/\y=.int i/\SqL K H p xs/\atI xs i=Ab v/\Q v H
def Um(K:Fg):R2:=λx y H Q=>∃ p xs i v,x=.ref p/\y=.int i/\SqT K H p xs/\atI xs i=Ab v/\Q v H
theorem gP:IxR X (UN X.K):=by
 intro value slice pI s Y H x y v u Q I rx ry h hs;obtain⟨p,xs,i,z,rfl,rfl,hq,he,q⟩:=h;cases rx;obtain⟨t,rfl⟩:=ry;obtain⟨its,r,pl,hz⟩:=I.list hq;obtain⟨j,h1,h2,h3,h4,h5⟩:=R1 he;obtain⟨w,ew,rw'⟩:=r.get h2;have hl:=r.length;have hn:=Jn;have fin:EP X pI Y Q w s:=⟨z,H,I,rw',q⟩;by_cases h0:0<=i
 .have hj:i.toNat=j:=by
   rw[IV h0 h5]at h1;exact Bh h1
  exact item_listR pl.isList h0 (by omega) (by rw[hj];simpa using ew) fin hs
 .have hj:(i+(its.toArray.size:Ad)).toNat=j:=by
   rw[IA (by omega) h4]at h1
   rw[Az,<-hl];exact Bh h1
  exact Fn (x:=w) pl.isList.typeIs W8.lookup
   (wpAny_getItem_list_neg (Q:=λr s'=>r=w/\EP X pI Y Q r s') pl.isList (by omega) (by rw[Az]<;>omega) (by omega) (by rw[hj];simpa using ew) ⟨rfl,fin⟩) hs
theorem SY:IxR X (Um X.K):=by
 intro value slice pI s Y H x y v u Q I rx ry h hs;obtain⟨p,xs,i,z,rfl,rfl,hq,he,q⟩:=h;cases rx;obtain⟨t,rfl⟩:=ry;obtain⟨its,r,pl,hz⟩:=I.tuple hq;obtain⟨j,h1,h2,h3,h4,h5⟩:=R1 he;obtain⟨w,ew,rw'⟩:=r.get h2;have hl:=r.length;have hn:=Jn;have fin:EP X pI Y Q w s:=⟨z,H,I,rw',q⟩;exact Fn (x:=w) pl.typeIs slot_tuple_getitem.lookup
  (getItem_tuple (j:=j) (Q:=λr s'=>r=w/\EP X pI Y Q r s') pl (by omega) (by omega) (by rw[Az,<-hl];exact h1) (by simpa using ew) ⟨rfl,fin⟩) hs
theorem Yv(its:Ac Aj)(n j:Ag)(u:Aj):FS (·.setIfInBounds j u) { cls:=.type "list",data:=.seq its.toArray n }={ cls:=.type "list",data:=.seq (its.set j u).toArray n }:=by
 simp[FS]
theorem Inv.lst(I:Inv X pI Y H s)(h:H p=Ab (.lst xs)):
  ∃(its:Ac Aj)(n:Ag),A9 xs its/\s.heap.get? p=Ab { cls:=.type "list",data:=.seq its.toArray n }/\xs.length<=sizeLine:=by
 obtain⟨z,its,n,r,e⟩:=I.hok p _ h;exact⟨its,n,r,e,z⟩
theorem Inv.lstUpd{ys:Ac V}{n':Ag}{f:Dp->Dp}(I:Inv X pI Y H s)(h:H p=Ab (.lst xs))(ho:s.heap.get? p=Ab { cls:=.type "list",data:=.seq its.toArray n })(hf:f { cls:=.type "list",data:=.seq its.toArray n }={ cls:=.type "list",data:=.seq its'.toArray n' })(r:A9 ys its')(hz:ys.length<=sizeLine)(t:Ag):Inv X pI Y (upd H p (.lst ys)) {s with heap:=s.heap.update p f,toks:=t}:=by
 have e:(s.heap.update p f).get? p=Ab { cls:=.type "list",data:=.seq its'.toArray n' }:=by
  rw[C8 f ho (by rw[hf]<;>rfl),hf]
 refine I.write (x:=p) (e:=p) (by rw[h];trivial) (.inl rfl) (λb u hb q=>(CY _ _ (DV hb)).trans q) ⟨_,e⟩ ?_
 exact⟨hz,its',n',r,e⟩
def rT:V->V->V->Hp->(Hp->Prop)->Prop:=λo i v H Q=>∃ p xs k j,o=.ref p/\i=.int k/\H p=Ab (.lst xs)/\ixN xs.length k=Ab j/\Q (upd H p (.lst (xs.set j v)))
theorem Y_0:PL X rT:=by
 intro pI s Y H o i v ov iv u Q I ro ri rv h;obtain⟨p,xs,k,j,rfl,rfl,hp,hj,q⟩:=h;cases ro;obtain⟨t,rfl⟩:=ri;obtain⟨its,n,r,ho,hz⟩:=I.lst hp;obtain⟨h1,h2,h3,h4⟩:=R7 hj;have hl:=r.length;have hn:=Jn;have I':Inv X pI Y (upd H p (.lst (xs.set j v))) {s with heap:=s.heap.update p (FS (·.setIfInBounds j u))}:=
  I.lstUpd hp ho (Yv its n j u) (r.set rv j) (by rw[A6];exact hz) s.toks
 by_cases h0:0<=k
 .have hk:k.toNat=j:=by
   rw[IV h0 h4]at h1;exact Bh h1
  exact PySem.W.ki_setAt ho h0 (by omega) (by rw[Az,<-hl];exact h4) (by rw[hk];exact⟨_,I',q⟩)
 .have hk:(k+(its.toArray.size:Ad)).toNat=j:=by
   rw[IA (by omega) h3]at h1
   rw[Az,<-hl];exact Bh h1
  exact PySem.W.ki_setBack ho (by omega) (by rw[Az,<-hl];exact h3) (by omega) (by rw[hk];exact⟨_,I',q⟩)
theorem Yj(lo hi:Ao Ad)(n:Ag):(EQ lo hi Af n).1=((HT.sIx n 0 lo:Ag):Ad)/\(EQ lo hi Af n).2.1=((HT.sIx n n hi:Ag):Ad)/\(EQ lo hi Af n).2.2=1:=by
 refine⟨?_,?_,rfl⟩
 .cases lo with
  |none=>simp[EQ,HT.sIx]
  |some i=>
   simp only[EQ,HT.sIx,VJ,show (1:Ad)>0 by decide,HN]
   by_cases h:i<0
   .simp only[h,HN]<;>omega
   .simp only[h,Ii]<;>omega
 .cases hi with
  |none=>simp[EQ,HT.sIx]
  |some i=>
   simp only[EQ,HT.sIx,VJ,show (1:Ad)>0 by decide,HN]
   by_cases h:i<0
   .simp only[h,HN]<;>omega
   .simp only[h,Ii]<;>omega
theorem Yc(its:Ac Aj)(lo hi:Ao Ad):slicePick its.toArray lo hi Af=((its.drop (HT.sIx its.length 0 lo)).take (HT.sIx its.length its.length hi-HT.sIx its.length 0 lo)).toArray:=by
 obtain⟨h1,h2,h3⟩:=Yj lo hi its.toArray.size;unfold slicePick;rw[h1,h2,h3];simp only[sliceRange_one,pick_run,Az]<;>rfl
def Ul(K:Fg):V->Ao Ad->Ao Ad->Hp->VK->Prop:=λx lo hi H Q=>∃ a xs,x=.ref a/\SqL K H a xs/\∀ p,H p=Af->Q (.ref p) (upd H p (.lst (IM xs lo hi)))
theorem bE:SlR X (Ul X.K):=by
 intro pI s Y H x v vl vu lo hi sl Q I rx hs pl pu h;obtain⟨a,xs,rfl,hx,q⟩:=h;cases rx;obtain⟨its,r,ht,hz⟩:=I.list hx;have hlen:=r.length;refine⟨"list",_,W8.lookup,ht.isList.typeIs,?_⟩;refine wpAny_getItem_list_slice ht.isList hs pl pu .none (by simp) ?_ (by rw[Az]<;>omega)
 rw[Yc,<-hlen];refine⟨.ref s.heap.objs.size,_,I.laid (t':=s.toks) (o:=.lst (IM xs lo hi)) (λb ob q=>Ar _ q) (AR _) ?_,rfl,q _ (I.hok.fresh (AR _))⟩
 exact⟨Ct (Qd xs lo hi) hz,_,0,(r.drop (HT.sIx xs.length 0 lo)).take (HT.sIx xs.length xs.length hi-HT.sIx xs.length 0 lo),AH _ rfl⟩
theorem PX:II X (.builtin "len") (λxs H Q=>∃ p ys,xs=[.ref p]/\(SqL X.K H p ys\/SqT X.K H p ys)/\Q (.int ys.length) H):=by
 intro pI s Y H xs us Q I r h;obtain⟨p,ys,rfl,hq,q⟩:=h;obtain⟨u,rfl,rx⟩:=Jx r;cases rx;have hn:=Jn;rcases hq with hq|hq
 .obtain⟨its,r',pl,hz⟩:=I.list hq;have hlen:=r'.length;exact Calls.call_len_list pl.isList (by simp only[Az]<;>omega) ⟨.int ys.length,H,I.tok _,⟨s.toks+1,by rw[Az,hlen]⟩,q⟩
 .obtain⟨its,r',pl,hz⟩:=I.tuple hq;have hlen:=r'.length;exact len_tuple pl (by simp only[Az]<;>omega) ⟨.int ys.length,H,I.tok _,⟨s.toks+1,by rw[Az,hlen]⟩,q⟩
theorem Yd:II X (.builtin "len") (λxs H Q=>∃ z,xs=[.str z]/\z.length<=sizeLine/\Q (.int z.length) H):=by
 intro pI s Y H xs us Q I r h;obtain⟨z,rfl,hz,q⟩:=h;obtain⟨u,rfl,t,rfl⟩:=Jx r;have hn:=Jn;exact len_str (by omega) ⟨.int z.length,H,I.tok _,⟨_,rfl⟩,q⟩
theorem PV:II X (.type "list") (λxs H Q=>∃ p ys,xs=[.ref p]/\(SqL X.K H p ys\/SqT X.K H p ys)/\∀ l,H l=Af->Q (.ref l) (upd H l (.lst ys))):=by
 intro pI s Y H xs us Q I r h;obtain⟨p,ys,rfl,hq,q⟩:=h;obtain⟨u,rfl,rx⟩:=Jx r;cases rx;have fin:∀(its:Ac Aj),A9 ys its->ys.length<=sizeLine->∀(h':AJ)(c':Ag),(∀ b o',s.heap.get? b=Ab o'->h'.get? b=Ab o') ->
   h'.get? s.heap.objs.size=Ab { cls:=.type "list",dict:=Af,data:=.seq its.toArray c',slots:=#[] }->EP X pI Y Q (.ref s.heap.objs.size) {s with heap:=h'}:=λits r' hz h' c' kp e=>
  ⟨.ref s.heap.objs.size,_,I.laid (t':=s.toks) kp (AR _) (show ObjOk X.prog X.w _ h' _ (.lst ys) from ⟨hz,its,c',r',e⟩),rfl,q _ (I.hok.fresh (AR _))⟩
 rcases hq with hq|hq
 .obtain⟨its,r',pl,hz⟩:=I.list hq;have hlen:=r'.length;obtain⟨o,ho,hc,n,hd⟩:=pl.isList;exact call_list_seq p (.inl rfl) ho hc hd (λh' c' kp e=>fin its r' hz h' c' kp e) (by simp only[Az]<;>omega)
 .obtain⟨its,r',pl,hz⟩:=I.tuple hq;have hlen:=r'.length;obtain⟨o,ho,hc,n,hd⟩:=pl;exact call_list_seq p (.inr rfl) ho hc hd (λh' c' kp e=>fin its r' hz h' c' kp e) (by simp only[Az]<;>omega)
theorem PQ:II X (.type "tuple") (λxs H Q=>∃ p ys,xs=[.ref p]/\((SqL X.K H p ys/\∀ l,H l=Af->Q (.ref l) (upd H l (.tup ys)))\/(SqT X.K H p ys/\Q (.ref p) H))):=by
 intro pI s Y H xs us Q I r h;obtain⟨p,ys,rfl,h⟩:=h;obtain⟨u,rfl,rx⟩:=Jx r;cases rx;rcases h with ⟨hq,q⟩|⟨hq,q⟩
 .obtain⟨its,r',pl,hz⟩:=I.list hq;have hlen:=r'.length;refine call_tuple_list pl.isList (λh' kp=>?_) (by simp only[Az]<;>omega)
  have I1:Inv X pI Y H {s with heap:=h'}:=I.kept (t':=s.toks) kp
  have I2:Inv X pI Y (upd H h'.objs.size (.tup ys)) { s with heap:=h'.push { cls:=.type "tuple",data:=.seq its.toArray } }:=
   I1.laid (t':=s.toks) (λb o e=>Ar _ e) (AR _) (show ObjOk X.prog X.w _ _ _ (.tup ys) from ⟨hz,its,r',KG _ _⟩)
  exact⟨.ref h'.objs.size,_,I2,rfl,q _ (I1.hok.fresh (AR _))⟩
 .obtain⟨its,r',pl,hz⟩:=I.tuple hq;exact call_tuple_same pl ⟨.ref p,H,I,rfl,q⟩
def tyV(K:Fg)(T:CG)(x:V)(H:Hp):Prop:=match x with
  |.str _=>T = "str"
  |.int _=>T = "int"
  |.ref p=>(T = "list"/\∃ xs,SqL K H p xs)\/(T = "tuple"/\∃ o,K.lookup p=Ab o/\o.cls=.type "tuple"/\o.dict=Af) \/
      (T = "dict"/\((∃ kvs,H p=Ab (.dK kvs))\/∃ kvs,H p=Ab (.dT kvs)))\/(T = "set"/\∃ S n,H p=Ab (.set S n))
  |_=>Bk
theorem gX{T:CG}{x:V}{v:Aj}(I:Inv X pI Y H s)(r:Bv x v)(ty:tyV X.K T x H):s.TypeIs v T/\∀ a,v=.ref a->∃ ob,s.heap.get? a=Ab ob/\ob.dict=Af:=by
 cases x with
 |str z=>
  obtain⟨t,rfl⟩:=r;cases (show T = "str" from ty)
  exact⟨typeIs_str s z t,λ_ e=>nomatch e⟩
 |int i=>
  obtain⟨t,rfl⟩:=r;cases (show T = "int" from ty)
  exact⟨typeIs_int s i t,λ_ e=>nomatch e⟩
 |ref p=>
  cases r;rcases ty with ⟨rfl,xs,hq⟩|⟨rfl,o,hk,hc,hd⟩|⟨rfl,hk⟩|⟨rfl,S,n,hk⟩
  .obtain⟨its,_,pl,_⟩:=I.list hq;refine⟨pl.isList.typeIs,λa e=>?_⟩
   cases e;obtain⟨o,n,e,c,hd,_⟩:=pl;exact⟨o,e,hd⟩
  .refine⟨⟨o,I.kIn p o hk,hc⟩,λa e=>?_⟩
   cases e;exact⟨o,I.kIn _ o hk,hd⟩
  .have z:∃ o,s.heap.get? p=Ab o/\o.ExactDict:=by
    rcases hk with ⟨kvs,hk⟩|⟨kvs,hk⟩
    .obtain⟨_,_,_,_,o,_,_,e,ex,_⟩:=I.hok p _ hk;exact⟨o,e,ex⟩
    .obtain⟨_,_,_,_,o,_,_,e,ex,_⟩:=I.hok p _ hk;exact⟨o,e,ex⟩
   obtain⟨o,e,ex⟩:=z;refine⟨⟨o,e,ex.1⟩,λa e2=>?_⟩
   cases e2;exact⟨o,e,ex.2.1⟩
  .obtain⟨o,_,_,_,e,ex,_⟩:=I.hok p _ hk;refine⟨⟨o,e,ex.1⟩,λa e2=>?_⟩
   cases e2;exact⟨o,e,ex.2.1⟩
 |_=>exact DN ty
def tBM(K:Fg)(T:CG)(r:V->Ac V->Hp->VK->Prop)(to:TE)(t:TA):TE:=λY H Q=>to Y H λx H1=>tyV K T x H1/\t Y H1 λxs H2=>r x xs H2 Q
variable{o e:Al}{es:Ac Al}{to:TE}{t:TA}{name:Ak}{apos cpos:AK}{T id:CG}{r:V->Ac V->Hp->VK->Prop}
theorem MB(pa:PlainAttrs T)(slot:Slot T name id)(hty:typeOf (.builtin id)=pure (.type "method_descriptor"))(hm:MtR X id r)(ho:PE X o to)(ha:PA X (e::es) t)(hbase:DI o name X.env (eval o X.env)=eval o X.env:=by rfl)(hfew:((BX cpos (Av (e::es) X.env)).all (λx=>!x.1)&&(Fv cpos (Ek [] X.env)).all (λx=>x.1.isSome)
   && decide ((e::es).length+([]:Ac CB).length+(if ([]:Ac CB).isEmpty then 0 else 1)<30))=Aa:=by rfl)(hline:(apos.endLine==cpos.line)=Aa:=by rfl)(hs:Av (e::es) X.env=(Ae,eval e X.env)::Av es X.env:=by rfl)(hplain:(BX cpos (Av es X.env)).any (·.1)=Ae:=by rfl):PE X (.Call (.Attribute o name apos) (e::es) [] cpos) (tBM X.K T r to t):=by
 intro pI s Y H Q I h;refine W9 hbase hfew hline rfl (thn (ho pI s Y H _ I h) λv s1 ⟨x,H1,I1,r1,ty,q1⟩=>?_)
 obtain⟨h1,h2⟩:=gX I1 r1 ty;refine⟨T,id,pa,slot,hty,h1,h2,?_⟩;have hA:=ha cpos pI s1 Y H1 _ I1 q1;rw[hs]at hA ⊢;refine VV (by show (Ae||(BX cpos (Av es X.env)).any (·.1))=Ae;rw[hplain]<;>rfl) (VW ?_)
 exact thn hA λus s2 ⟨vs,H2,I2,r2,q2⟩=>hm pI s2 Y H2 x vs v us Q I2 r1 r2 q2
/- xs.append(e),list.index on a module's tuple .. are MtR facts of 06m -/
end
noncomputable def MtM(X:Cx)(id:CG)(r:V->Ac V->Hp->VK->Prop):Prop:=
 ∀(pI:Pn)(s:Aq)(Y:St)(H:Hp)(x:V)(xs:Ac V)(v:Aj)(us:Ac Aj)(Q:VK),Inv X pI Y H s->Bv x v->A9 xs us->r x xs H Q ->
  AC (model X.prog X.w) X.A (call (.builtin id) (v::us)) (EP X pI Y Q) X.xe s
theorem A9.one:∀{x:V}{us:Ac Aj},A9 [x] us->∃ u,us=[u]/\Bv x u
 |_,_,.cons r .nil=>⟨_,rfl,r⟩
theorem A9.zero:∀{us:Ac Aj},A9 [] us->us=[]
 |_,.nil=>rfl
theorem A9.eraseIdx:∀{xs:Ac V}{us:Ac Aj}(i:Ag),A9 xs us->A9 (xs.eraseIdx i) (us.eraseIdx i)
 |_,_,_,.nil=>.nil
 |_,_,0,.cons _ t=>t
 |_,_,i+1,.cons r t=>.cons r (A9.eraseIdx i t)
theorem A9.reverse(h:A9 xs us):A9 xs.reverse us.reverse:=by
 induction h with
 |nil=>exact .nil
 |cons r t ih=>rw[Vw,Vw];exact A9.append ih (.cons r .nil)
section
variable{X:Cx}{pI:Pn}{Y:St}{H:Hp}{s:Aq}{l b:Ah}{xs ys zs:Ac V}
theorem Inv.lset{f:Bb Aj->Bb Aj}(I:Inv X pI Y H s)(hH:H l=Ab (.lst xs))(e:s.heap.get? l=Ab { cls:=.type "list",data:=.seq its.toArray n })(hf:f its.toArray=its'.toArray)(hv:A9 ys its')(hz:ys.length<=sizeLine):Inv X pI Y (upd H l (.lst ys)) {s with heap:=s.heap.update l (FS f),toks:=t'}:=by
 have q:=PySem.IsL.update e f;rw[hf]at q;refine I.write (x:=l) (e:=l) (by rw[hH];exact trivial) (.inl rfl) (λb' u hb hu=>(CY s.heap (FS f) (DV hb)).trans hu) ⟨_,q⟩ ?_
 exact⟨hz,its',_,hv,q⟩
theorem Inv.lnew(I:Inv X pI Y H s)(hv:A9 ys its)(hz:ys.length<=sizeLine):
  Inv X pI Y (upd H s.heap.objs.size (.lst ys)) { s with heap:=s.heap.push { cls:=.type "list",data:=.seq its.toArray },toks:=t' }:=
 I.laid (λ_ _ q=>Ar _ q) (AR _) ⟨hz,its,0,hv,AH _ rfl⟩
theorem Inv.fresh(I:Inv X pI Y H s):H s.heap.objs.size=Af:=I.hok.fresh (AR _)
theorem Inv.lstM(I:Inv X pI Y H s)(hH:H l=Ab (.lst xs)):xs.length<=sizeLine/\∃(its:Ac Aj)(n:Ag),A9 xs its/\xs.length=its.length/\s.heap.get? l=Ab { cls:=.type "list",data:=.seq its.toArray n }:=by
 obtain⟨z,its,n,r,e⟩:=I.hok l _ hH;exact⟨z,its,n,r,r.length,e⟩
theorem QI(h:n<=sizeLine):Dg n=Ae:=by
 unfold Dg;exact BK (by omega)
end
section
variable{X:Cx}
def eM:V->Ac V->Hp->VK->Prop:=λx vs H Q=>∃ l xs y,x=.ref l/\vs=[y]/\H l=Ab (.lst xs)/\xs.length<sizeLine/\Q .non (upd H l (.lst (xs++[y])))
theorem Qg:MtM X "list.append" eM:=by
 intro pI s Y H x vs v us Q I rx rv h;obtain⟨l,xs,y,rfl,rfl,hH,hz,q⟩:=h;cases rx;obtain⟨u,rfl,ru⟩:=rv.one;obtain⟨z,its,n,r,hl,e⟩:=I.lstM hH;refine JK F.slot_list_append ⟨_,e,rfl⟩ F.entry_list_append (F.args_list_append_2 _ _) (PySem.list_append l its.toArray n u (by rw[Az];omega)) ⟨e,?_⟩
 refine⟨.non,_,I.lset (its':=its++[u]) hH e (by simp) (r.append (.cons ru .nil)) ?_,rfl,q⟩
 rw[Be,BD];omega
def eK:V->Ac V->Hp->VK->Prop:=λx vs H Q=>∃ l b xs zs,x=.ref l/\vs=[.ref b]/\H l=Ab (.lst xs)/\H b=Ab (.lst zs)/\xs.length+zs.length<=sizeLine/\Q .non (upd H l (.lst (xs++zs)))
theorem YA:MtM X "list.extend" eK:=by
 intro pI s Y H x vs v us Q I rx rv h;obtain⟨l,b,xs,zs,rfl,rfl,hH,hB,hz,q⟩:=h;cases rx;obtain⟨u,rfl,ru⟩:=rv.one;cases ru;obtain⟨z,its,n,r,hl,e⟩:=I.lstM hH;obtain⟨z2,its2,n2,r2,hl2,e2⟩:=I.lstM hB;have hsz:its.toArray.size+its2.toArray.size<=sizeLine:=by rw[Az,Az];omega
 have hlong:¬ (!its.toArray.isEmpty&&Dg (its.toArray.size+its2.toArray.size))=Aa:=by
  rw[QI hsz,E8];exact AA
 refine JK Et ⟨_,e,rfl⟩ Wt (Wp _ _)
  (AutoSeq1.list_extend_list_list_0 l its.toArray n b its2.toArray n2 hlong (by rw[Az];omega) (by omega)) ⟨e,e2,?_⟩
 refine⟨.non,_,I.lset (its':=its++its2) hH e (by simp) (r.append r2) ?_,rfl,q⟩
 rw[Be];omega
end
section
variable{prog:AM}{w:Ay}{A:A2}{E:Vq}{s:Aq}
set_option maxRecDepth 100000 in
end
section
variable{X:Cx}
end
end L2
namespace Att
open PySem PySem.W PySem.Calls PyProof.Rows
variable{P:KM}{h:AJ}{l:Fo}{n:Ag}
theorem X4:∀(ns:Ac Ad)(vs:Ac Aj),WellAll P h vs (ns.map WW)->HE vs ns:=by
 intro ns
 induction ns with
 |nil=>
  intro vs w;rw[Im]at w;cases w;exact .nil
 |cons n ns ih=>
  intro vs w;rw[Ba]at w;cases w with
  |cons a b=>
   cases a;exact .cons _ _ (ih _ b)
theorem YS(hn:l.most=Ab n){args:Ac WData}{vals:Ac Aj}(hpre:l.row.toRowW.claim.pre args=Aa)(hwl:WellAll P h vals args):
  ∃ a vs ns,vals=[Hh a]/\args=[WData.list (ns.map WW)]/\h.get? a=Ab { cls:=.type "list",data:=.seq vs.toArray }/\HE vs ns/\ns.length<=n:=by
 have hsh:WShape.hasAll [] args [.list .int]=Aa:=(pre_splitW hpre).1;have hc:l.pre.holds [] {args:=args}=Aa:=(pre_splitW hpre).2;obtain⟨d,r,rfl,h1,h2⟩:=hasAllW_cons hsh;obtain rfl:=hasAllW_nil h2;obtain⟨xs,rfl,h3⟩:=hasW_list h1;obtain⟨ns,rfl⟩:=items_int h3;have hlen:ns.length<=n:=by
  unfold OpenLaw.pre at hc;have h4:(WTm.not (.lt (.lit (.int (n:Ad))) (.len (.arg 0)))).holds [] {args:=[.list (ns.map .int)]}=Aa:=by
   have h4:=(holds_andW hc).1;rw[hn]at h4;exact h4
  have h5:=condW_of h4 (w_not (w_lt w_lit (w_len_list (w_arg rfl))));rw[Bl]at h5;refine Nat.le_of_not_lt λq=>?_
  have q':(n:Ad)<((ns.length:Ag):Ad):=by omega
  first
   |(rw[DX q']at h5;exact absurd h5 (by decide))
   |(simp at h5;omega)
 cases hwl with
 |cons w1 w2=>
  cases w2;cases w1 with
  |list ho hall=>exact⟨_,_,ns,rfl,rfl,ho,X4 ns _ hall,hlen⟩
theorem YI(l:Fo)(args:Ac WData):l.row.toRowW.claim.post args (.bool Aa) args=Aa:=
 postW_of (r:=l.row.toRowW) (X:=(Aa==Aa))
  (show WX [] (.bool Aa) .bool=Aa by first|rfl|decide|simp[WX,WShape.arms,WShape.armsAll])
  (show (WTm.eq .res (.lit (.bool Aa))).value [] {args:=args,res:=Ab (.bool Aa),after:=args}=Ab (.bool (Aa==Aa)) from w_eq_bool (w_res rfl) w_lit) rfl
theorem attach_call{q:AM}{loose:Ac Ak}{XP:(Ak->Ao Aj)->AJ->Prop}{YP:Ay->AJ->Prop}{d:DefRec}(hn:l.most=Ab n)(hdf:d.params.defaults=[])(call:∀(w:Ay)(s₀ s₁:Aq)(mg mb:Ak->Ao Aj)(fa:Ah)(o:Dp)(pm cd doc:Aj)(a:Ah)(vs:Ac Aj)(ns:Ac Ad),
   Ground q loose [] XP w s₀ mg mb s₁.heap->YP w s₁.heap ->
   s₁.heap.get? fa=Ab o->o.data=.func (docDef d.name d.params d.body d.scope pm cd doc)->s₁.heap.CodeRec cd d.name->mg d.name=Ab (.ref fa) ->
   s₁.heap.get? a=Ab { cls:=.type "list",data:=.seq vs.toArray }->HE vs ns->ns.length<=n->s₁.gens=#[] ->
   F9 (model l.prog w) GP (.call (.ref fa) ⟨[.ref a],[]⟩) (λr s'=>r=.ok (.ret (.bool Aa))/\OldK s₁.heap s'.heap/\s'.os=s₁.os/\E9 s'.gens) s₁):WalkO q loose XP YP l.row.toRowW d [] (λf vs=>JJ f vs):=by
 intro w s₀ s₁ mg mb G Y_ fa o pm cd doc dV kV ho hd hcd hD hmg hg args vals as hpre hlay hrd hwl hlo;obtain rfl:dV=.none:=Dflts.none hD hdf;obtain rfl:kV=.none:=Dflts.noKw hD;obtain⟨a,vs,ns,rfl,rfl,hobj,hints,hlen⟩:=YS hn hpre hwl;refine enter_call (Iu (call w s₀ s₁ mg mb fa o pm cd doc a vs ns G Y_ ho (fd_plain hd) hcd hmg hobj hints hlen hg) λr s' hq=>?_)
 obtain⟨rfl,h2,h3,h4⟩:=hq;exact⟨.inl ⟨.bool Aa,.bool Aa,[],rfl,λ_=>rfl,.bool Aa,YI l _,λ_=>⟨List.Pairwise.nil,λ_ hm=>(nomatch hm)⟩⟩,h2,h3,h4⟩
section
variable{prog:AM}{w:Ay}{A:A2}{E:Vq}{s:Aq}{K:Frag}
end
end Att
namespace L2
open PySem PySem.Spec PyProof.Rows
variable{k:Ag}{x:Ak}
theorem Qx:∀{vs:Ac Aj}{ns:Ac Ad},HE vs ns->A9 (ns.map V.int) vs
 |_,_,.nil=>.nil
 |_,_,.cons n t h=>.cons ⟨t,rfl⟩ (Qx h)
def PM(H:Hp):Prop:=∀ b,H b=Af\/∃ o xs,H b=Ab (.frz o (.lst xs))
theorem Zw{P:AM}{w:Ay}{K:Fg}{mg mb:Ak->Ao Aj}{CX:CXT}{fa a:Ah}{fd:BW}{sp:Sp}{s₁:Aq}{vs:Ac Aj}{ns:Ac Ad}(KX:K.In s₁.heap)(hns:s₁.heap.Ns A5 mg)(hb:s₁.heap.Ns HU mb)(hbb:∀ x:Ak,x≠"__name__"->mb x=C0 x)(hlim:s₁.heap.NoLimit)(hg:s₁.gens=#[])(ha:s₁.heap.get? a=Ab { cls:=.type "list",data:=.seq vs.toArray })(hi:HE vs ns)(hl:ns.length<=sizeLine)(hr:Room k GP)(F:∀ base:AJ,K.In base->base.Ns A5 mg->FnOk P w K mg base CX k fa fd [x] sp)(hbind:∀(s:Aq)(u:Aj),GO s fd ⟨[u],[]⟩ [(x,u)])(hsp:∀ H:Hp,PM H->SqL K H a (ns.map V.int)->sp [.ref a] H (λv _=>v=.bl Aa) λ_ _ _=>Bk)(hCX:∀ H e s',CX [] H s₁ (λ_ _ _=>Bk) e s'->Bk):F9 (model P w) GP (.call (.ref fa) ⟨[.ref a],[]⟩) (λr s'=>r=.ok (.ret (.bool Aa))/\OldK s₁.heap s'.heap/\s'.os=s₁.os/\E9 s'.gens) s₁:=by
 have rv:=Qx hi;have lenV:=hi.length
 -- from an abstract heap in which nothing but the script may be tracked
 have core:∀ H:Hp,PM H->SqL K H a (ns.map V.int)->HOk P w H s₁.heap->(∀ b,H b≠Af->b=a)->(H a≠Af->K.lookup a=Af) ->
   F9 (model P w) GP (.call (.ref fa) ⟨[.ref a],[]⟩) (λr s'=>r=.ok (.ret (.bool Aa))/\OldK s₁.heap s'.heap/\s'.os=s₁.os/\E9 s'.gens) s₁:=by
  intro H hO hS hok hA hK;have base_of:∀{b:Ah}{o:Dp},s₁.heap.get? b=Ab o->H b=Af->(Ia s₁.heap H).get? b=Ab o:=λe n=>Zf e n
  have noA:∀{b:Ah}{o:Dp}{es:Bb DictEntry}{ep:Ag},s₁.heap.get? b=Ab o->o.data=.dict es ep->H b=Af:=λ{b o es ep} e d=>by
   cases q:H b with
   |none=>rfl
   |some u=>
    have e':b=a:=hA b (by rw[q];simp)
    subst e';rw[ha]at e;cases e;have d':KI vs.toArray _=Data.dict es ep:=d;cases d'
  have nsK:∀{b:Ah}{m:Ak->Ao Aj},s₁.heap.Ns b m->(Ia s₁.heap H).Ns b m:=λ{b m} ⟨o,es,ep,e,d,r⟩=>⟨o,es,ep,base_of e (noA e d),d,r⟩
  have hKb:K.In (Ia s₁.heap H):=λb o e=>base_of (KX b o e) (by
   cases q:H b with
   |none=>rfl
   |some u=>
    have e':b=a:=hA b (by rw[q];simp)
    subst e';rw[hK (by rw[q];simp)]at e;cases e)
  have hM:Mod K mg (Ia s₁.heap H):=⟨hKb,nsK hns,⟨mb,nsK hb,hbb⟩,let ⟨mc,h1,h2⟩:=hlim;⟨mc,nsK h1,h2⟩⟩
  have e0:Env0 P w K mg (Ia s₁.heap H) GP [] s₁ H:=⟨rfl,hM,λb o e=>gC e,VC (Y_9 _ _),trivial,λb hb=>absurd (show b∈([]:Ac Ah) from hb) (by simp),hok,.of_eq hg⟩
  refine Iu ((F _ hKb (nsK hns)).run GP [] s₁ H ⟨[.ref a],[]⟩ [.ref a] [.ref a] _ _ hr e0 (hbind s₁ (.ref a)) (.cons rfl .nil) (hsp H hO hS)) λr s' h=>?_
  cases r with
  |error e=>exact(hCX H e s' h).elim
  |ok fl=>
   cases fl with
   |next=>exact DN h
   |brk=>exact DN h
   |cont=>exact DN h
   |ret u=>
    obtain⟨v,H',os,bare,un,hok',r',q⟩:=h;have q':v=.bl Aa:=q;subst q';obtain rfl:u=WR Aa:=r';refine⟨rfl,OldK.of_keep λb o e=>?_,os,bare⟩
    cases q:H b with
    |none=>exact un.keep b o e q (by intro z;exact absurd (show b∈([]:Ac Ah) from z) (by simp)) (by simp)
    |some u=>
     rcases hO b with z|⟨ob,xs,z⟩
     .rw[q]at z;cases z
     .have z2:=un.frzs b ob _ z;obtain⟨e1,_⟩:=hok b _ z;obtain⟨e2,_⟩:=hok' b _ z2;rw[e]at e1;cases e1;exact e2
 cases hk:K.lookup a with
 |some o=>
  -- the script is one of the module's own objects
  have e:=KX a o hk;rw[ha]at e;cases e;refine core (λ_=>Af) (λ_=>.inl rfl) (.inr ⟨_,vs.toArray,_,hk,rfl,rfl,rfl,by rw[Az,lenV];exact hl,by simpa using rv⟩) (λb u z=>by have z':(Af:Ao HO)=Ab u:=z;cases z') (λb z=>absurd rfl z) λz=>absurd rfl z
 |none=>
  refine core (λb=>if b=a then Ab (.frz { cls:=.type "list",data:=.seq vs.toArray } (.lst (ns.map V.int))) else Af) (λb=>?_) (.inl (.inr ⟨{ cls:=.type "list",data:=.seq vs.toArray },Ax rfl⟩)) (λb u z=>?_) (λb z=>?_) λ_=>hk
  .by_cases hb:b=a
   .exact .inr ⟨_,_,Ax hb⟩
   .exact .inl (AF hb)
  .by_cases hb:b=a
   .have z':=(Ax hb).symm.trans z;cases z';subst hb;exact⟨ha,by rw[Bl];exact hl,vs,_,rv,ha⟩
   .have z':=(AF hb).symm.trans z;cases z'
  .by_cases hb:b=a
   .exact hb
   .exact absurd (AF hb) z
noncomputable abbrev KOf{K:Fg}{h:AJ}(_:K.In h):Fg:=K
theorem walk_of{l:Fo}{n:Ag}{q:AM}{loose:Ac Ak}{XP:(Ak->Ao Aj)->AJ->Prop}{YP:Ay->AJ->Prop}{d:DefRec}{K:KM->Fg}{CX:Ay->CXT}{sp:Ay->Sp}(hn:l.most=Ab n)(hn2:n<=sizeLine)(hdf:d.params.defaults=[])(hr:Room k GP)(hY:∀(w:Ay)(h:AJ),YP w h->(K w.params).In h)(F:∀(w:Ay)(mg:Ak->Ao Aj)(fa:Ah)(h:AJ),(K w.params).In h->h.Ns A5 mg->mg d.name=Ab (.ref fa) ->
   ∃ fd:BW,(∀(s:Aq)(u:Aj),GO s fd ⟨[u],[]⟩ [(x,u)]) /\
    ∀ base:AJ,(K w.params).In base->base.Ns A5 mg->FnOk l.prog w (K w.params) mg base (CX w) k fa fd [x] (sp w))(hsp:∀(w:Ay)(H:Hp)(a:Ah)(ns:Ac Ad),ns.length<=n->PM H->SqL (K w.params) H a (ns.map V.int)->sp w [.ref a] H (λv _=>v=.bl Aa) λ_ _ _=>Bk)(hCX:∀(w:Ay)(H:Hp)(s:Aq)(e:Aj)(s':Aq),CX w [] H s (λ_ _ _=>Bk) e s'->Bk):WY q loose XP YP l.row.toRowW d [] (λf vs=>JJ f vs):=by
 refine Att.attach_call hn hdf λw s₀ s₁ mg mb fa o pm cd doc a vs ns G Y_ ho hd hcd hmg hobj hints hlen hg=>?_
 have KX:=hY w _ Y_;obtain⟨fd,hb,hF⟩:=F w mg fa _ KX G.T.g hmg;exact Zw KX G.T.g G.T.b G.T.builtins G.T.nolimit hg hobj hints (Ct hlen hn2) hr hF hb (λH hO hS=>hsp w H a ns hlen hO hS) λH e s'=>hCX w H s₁ e s'
end L2
/- THE LAST THEOREM (shape;LID,My.* are yours):
   My.Adr:a structure of the addresses that your layer names (classes,functions);My.Txt K t:a structure (Prop) of the equations over K;
   My.txt_mk:{K} {implicit addresses ..} (e1:nsIn K A5 "law" = Ab (Ab (.ref f))) (e2:K.lookup f=Ab ⟨oc,od,.func (fnOf "law" "law" params body scope dV kV doc pm an cdv ct),sl⟩) (e3:codeIn K cdv "law" = Aa) ..:∃ t,My.Txt K t
set_option maxRecDepth 100000 in
set_option maxHeartbeats 0 in
theorem PySem.Challenge.cw_LID_holds:PySem.Challenge.rw_LID.Holds:=by
 w_on;o_law;k_head;(case hw=>w_witness2)
 k_fill
 refine L2.walk_of (l:=PySem.Challenge.rw_LID) (n:=63) (k:=40) (x := "script") (CX:=λw=>..) (sp:=λ_=>My.sp_law) rfl (by decide) rfl ⟨rfl,by decide,by decide⟩ (λw h Y_=>W1 Y_) ?F ?S ?C
 case F=>
  intro w mg fa h KX G hmg;have T:∃ t,My.Txt (L2.KOf KX) t:=by
   dsimp only[L2.KOf]                          -- K must stand as «<heap const> w.params» for k_is
   refine' My.txt_mk ?e1 ?e2 ?e3 ..
   (case e1=>PySem.W.k_is)                    -- in the order: a name -> its address -> its object -> its parts
   (case e2=>PySem.W.k_is)
   ..
  obtain⟨t,T⟩:=T;have e0:=hmg.symm.trans (Gv KX G T.law);cases e0                                       -- fa is the law's own address
  exact⟨_,fun s u=>.of_eq rfl,fun base kb nb=>My.law_fn T kb nb⟩     -- if «.of_eq rfl» comes too early: refine' ⟨_,?b,fun base kb nb=>My.law_fn T kb nb⟩;exact fun s u=>.of_eq rfl
 case S=>exact λw H a ns hl hO hS=>..
 case C=>exact ..
(the tactic k_is has no namespace:write k_is) -/
namespace L2
open PySem PySem.Spec PyProof.Rows
noncomputable def HY(s:AO):Arguments:=match s with
  |.FunctionDef _ a _ _ _ _ _ _ _ _=>a
  |_=>{posonlyargs:=[],args:=[],vararg:=Af,kwonlyargs:=[],kw_defaults:=[],kwarg:=Af,defaults:=[]}
noncomputable def Fw(s:AO):Ac AO:=match s with
  |.FunctionDef _ _ b _ _ _ _ _ _ _=>b
  |_=>[]
noncomputable def Dv(s:AO):B0:=match s with
  |.FunctionDef _ _ _ _ _ _ sc _ _ _=>sc
  |_=>{kind:=.function,names:=[],isGenerator:=Ae,isCoroutine:=Ae}
noncomputable abbrev CX0:CXT:=λ_ _ _ _ _ _=>Bk
structure Fun (K:Fg) (x qual:Ak) (st:AO) (f:Ah) (fd:BW):Prop where
 ex:∃(oc:Aj)(od:Ao Ah)(kV doc pm:Aj)(an:Ao Ah)(cdv ct:Aj)(osl:Bb (Ao Aj)),
  fd=CZ x qual (HY st) (Fw st) (Dv st) .none kV doc pm an cdv ct/\K.lookup f=Ab ⟨oc,od,.func fd,osl⟩/\Fa K cdv qual=Aa
 kp:CC K (.ref f)=Aa
section
variable{P:AM}{w:Ay}{K:Fg}{mg:Ak->Ao Aj}{base:AJ}
theorem Fun.ok{x qual:Ak}{st:AO}{f:Ah}{fd:BW}{N ps:Ac Ak}{k:Ag}{sp:Sp}(F:Fun K x qual st f fd)(S:FnScope N ps (Dv st))(len:∀ vs H Q E,sp vs H Q E->vs.length=ps.length)(hbody:∀(cdv:Aj)(A:A2)(outer:Ac Cf)(s:Aq)(H:Hp)(vs:Ac V)(Q:VK)(E:XK),Room k (A.deeper (EK qual (Dv st) s.heap.objs.size f cdv))->sp vs H Q E ->
   ∃ t,PSs (Gn CX0 P w K mg base N qual (Dv st) f cdv A outer s H E).nox (Fw st) t/\t {nx:=λ_ H'=>Q .non H',rt:=Q} (start N vs) H):FnOk P w K mg base CX0 (k+1) f fd ps sp:=by
 obtain⟨oc,od,kV,doc,pm,an,cdv,ct,osl,rfl,lk,hcd⟩:=F.ex;refine Ua lk hcd S len λA outer s H vs Q E hr hsp=>?_
 obtain⟨t,h,q⟩:=hbody cdv A outer s H vs Q E hr hsp;exact⟨t,h.nox,q⟩
theorem Fun.binds{x qual:Ak}{st:AO}{f:Ah}{fd:BW}{ps:Ac Ak}(F:Fun K x qual st f fd)(h:∀(kV doc pm:Aj)(an:Ao Ah)(cdv ct:Aj)(us:Ac Aj),us.length=ps.length->HQ (CZ x qual (HY st) (Fw st) (Dv st) .none kV doc pm an cdv ct) ⟨us,[]⟩=pure (ps.zip us)):GC K fd ps []:=by
 obtain⟨oc,od,kV,doc,pm,an,cdv,ct,osl,rfl,lk,hcd⟩:=F.ex;exact .all (h kV doc pm an cdv ct)
theorem kW{x qual:Ak}{st:AO}{f:Ah}{oc:Aj}{od an:Ao Ah}{osl:Bb (Ao Aj)}{kV doc pm cdv ct:Aj}(l:K.lookup f=Ab ⟨oc,od,.func (CZ x qual (HY st) (Fw st) (Dv st) .none kV doc pm an cdv ct),osl⟩)(c:Fa K cdv qual=Aa)(k:CC K (.ref f)=Aa):Fun K x qual st f (CZ x qual (HY st) (Fw st) (Dv st) .none kV doc pm an cdv ct):=⟨⟨oc,od,kV,doc,pm,an,cdv,ct,osl,rfl,l,c⟩,k⟩
end
section
variable{X:Cx}
end
def AB(H H':Hp):Prop:=∀ b o,H b=Ab o->H' b=Ab o
theorem AB.refl(H:Hp):AB H H:=λ_ _ h=>h
theorem AB.trans{H H1 H2:Hp}(a:AB H H1)(b:AB H1 H2):AB H H2:=λc o h=>b c o (a c o h)
theorem AB.free{H H':Hp}(e:AB H H'){l:Ah}(h:H' l=Af):H l=Af:=by
 cases q:H l with
 |none=>rfl
 |some o=>
  rw[e l o q]at h;cases h
end L2
section
namespace Ov
open PySem
variable{α β:Type}
inductive D where
 |non|bl (b:Ai)|int (i:Ad)|str (x:Ak)|tup (ds:Ac D)|lst (ds:Ac D)
 |obj (c:Ag) (fs:Ac (Ak×D))|exc (c:Ag) (fs:Ac (Ak×D))|dic (kvs:Ac (Ac Ad×D))
 deriving Inhabited
structure Ex where
 c:Ag
 fs:Ac (Ak×D)
 deriving Inhabited
inductive R (α:Type) where
 |ok (a:α)|exn (x:Ex)|bad
 deriving Inhabited
noncomputable def R.bind{α β:Type}(r:R α)(f:α->R β):R β:=match r with
  |.ok a=>f a
  |.exn x=>.exn x
  |.bad=>.bad
@[simp]theorem R.bind_ok(a:α)(f:α->R β):(R.ok a).bind f=f a:=rfl
@[simp]theorem R.bind_exn(x:Ex)(f:α->R β):(R.exn x:R α).bind f=.exn x:=rfl
@[simp]theorem R.bind_bad(f:α->R β):(R.bad:R α).bind f=.bad:=rfl
theorem R.bind_assoc{γ:Type}(r:R α)(f:α->R β)(g:β->R γ):(r.bind f).bind g=r.bind λa=>(f a).bind g:=by cases r<;>rfl
noncomputable def B4(n:Ag):Ai:=C7 n 1000000
noncomputable def DL(i j:Ad):Ai:=(decide (-(18446744073709551616:Ad)<i)&&decide (i<18446744073709551616))||(decide (-(18446744073709551616:Ad)<j)&&decide (j<18446744073709551616))
noncomputable def GB(i j:Ad):Ai:=decide (i.natAbs<2 ^ 2000)&&decide (j.natAbs<2 ^ 2000)
noncomputable def C5:Fu->D->D->R D
 |.Add,.int i,.int j=>.ok (.int (i+j))
 |.Sub,.int i,.int j=>.ok (.int (i-j))
 |.Mult,.int i,.int j=>if (DL i j||GB i j)=Aa then .ok (.int (i*j)) else .bad
 |.FloorDiv,.int i,.int j=>if 0<j/\j<1073741824 then .ok (.int (i/j)) else .bad
 |.Mod,.int i,.int j=>if 0<j then .ok (.int (i%j)) else .bad
 |.Pow,.int i,.int j=>if (0<=j/\j<=1000000)/\(-(18446744073709551616:Ad)<i/\i<18446744073709551616) then .ok (.int (i ^ j.toNat)) else .bad
 |.Add,.str x,.str y=>if B4 (x.length+y.length)=Aa then .ok (.str (x++y)) else .bad
 |.Add,.lst x,.lst y=>if B4 (x.length+y.length)=Aa then .ok (.lst (x++y)) else .bad
 |.Add,.tup x,.tup y=>if (!x.isEmpty&&B4 (x.length+y.length))=Aa then .ok (.tup (x++y)) else .bad
 |_,_,_=>.bad
noncomputable def unD:JM->D->R D
 |.USub,.int i=>.ok (.int (-i))
 |_,_=>.bad
noncomputable def b2i(b:Ai):Ad:=if b=Aa then 1 else 0
mutual
noncomputable def eqD:D->D->Ai
 |.non,.non=>Aa
 |.bl a,.bl b=>a==b
 |.bl a,.int j=>b2i a==j
 |.int i,.bl b=>i==b2i b
 |.int i,.int j=>i==j
 |.str x,.str y=>x==y
 |.tup xs,.tup ys=>eqDs xs ys
 |.lst xs,.lst ys=>eqDs xs ys
 |_,_=>Ae
noncomputable def eqDs:Ac D->Ac D->Ai
 |[],[]=>Aa
 |x::xs,y::ys=>eqD x y&&eqDs xs ys
 |_,_=>Ae
end
noncomputable def flD:Ag->D->Ai
 |_,.non=>Aa
 |_,.bl _=>Aa
 |_,.int _=>Aa
 |_,.str _=>Aa
 |n+1,.tup xs=>xs.all (flD n)
 |n+1,.lst xs=>xs.all (flD n)
 |_,_=>Ae
noncomputable def Eb:D->Ao (Ac Ad)
 |.tup ds=>keyDs ds
 |_=>Af
where keyDs:Ac D->Ao (Ac Ad)
 |[]=>Ab []
 |.int i::r=>(keyDs r).map (i :: ·)
 |_=>Af
noncomputable def ltD:Ag->D->D->Ai
 |0,.int i,.int j=>decide (i<j)
 |n+1,.tup xs,.tup ys=>ltDs (ltD n) xs ys
 |_,_,_=>Ae
where ltDs (lt:D->D->Ai):Ac D->Ac D->Ai
 |[],[]=>Ae
 |[],_::_=>Aa
 |_::_,[]=>Ae
 |x::xs,y::ys=>if eqD x y=Aa then ltDs lt xs ys else lt x y
noncomputable def rkD:Ag->D->Ai
 |0,.int _=>Aa
 |n+1,.tup xs=>xs.all (rkD n)
 |_,_=>Ae
noncomputable def UV(lt:D->D->Ai)(x:D):Ac D->Ac D
 |[]=>[x]
 |y::ys=>if lt y x=Aa then y::UV lt x ys else x::y::ys
noncomputable def Tw(lt:D->D->Ai):Ac D->Ac D
 |[]=>[]
 |x::xs=>UV lt x (Tw lt xs)
noncomputable def UQ:Ac D->Ai
 |[]=>Aa
 |x::xs=>xs.all (λy=>!eqD x y)&&UQ xs
noncomputable def UG:Ac D->Ai
 |[]=>Aa
 |[_]=>Aa
 |x::y::r=>ltD 1 x y&&UG (y::r)
noncomputable def RQ(xs:Ac D):R (Ac D):=if (xs.all (λd=>rkD 1 d && !eqD d (.tup []))&&UQ xs&&(decide (xs.length<64)||(UG xs&&decide (xs.length<=1000))))=Aa then .ok (Tw (ltD 1) xs) else .bad
noncomputable def Bw:Db->D->D->R D
  |.Eq,x,y=>if (flD 5 x&&flD 5 y)=Aa then .ok (.bl (eqD x y)) else .bad
  |.NotEq,x,y=>if (flD 5 x&&flD 5 y)=Aa then .ok (.bl (!eqD x y)) else .bad
  |.Lt,.int i,.int j=>.ok (.bl (decide (i<j)))
  |.LtE,.int i,.int j=>.ok (.bl (decide (i<=j)))
  |.Gt,.int i,.int j=>.ok (.bl (decide (j<i)))
  |.GtE,.int i,.int j=>.ok (.bl (decide (j<=i)))
  |.In,x,.lst ys=>if (flD 5 x&&ys.all (flD 5))=Aa then .ok (.bl (ys.any λy=>eqD y x)) else .bad
  |.In,x,.dic kvs=>match Eb x with
    |some k=>.ok (.bl (kvs.any λp=>p.1==k))
    |none=>.bad
  |.In,x,.tup ys=>if (flD 5 x&&ys.all (flD 5))=Aa then .ok (.bl (ys.any λy=>eqD y x)) else .bad
  |.NotIn,x,.lst ys=>if (flD 5 x&&ys.all (flD 5))=Aa then .ok (.bl (!ys.any λy=>eqD y x)) else .bad
  |.NotIn,x,.dic kvs=>match Eb x with
    |some k=>.ok (.bl (!kvs.any λp=>p.1==k))
    |none=>.bad
  |.NotIn,x,.tup ys=>if (flD 5 x&&ys.all (flD 5))=Aa then .ok (.bl (!ys.any λy=>eqD y x)) else .bad
  |.Is,.non,.non=>.ok (.bl Aa)
  |.Is,.bl _,.non=>.ok (.bl Ae)
  |.Is,.int _,.non=>.ok (.bl Ae)
  |.Is,.str _,.non=>.ok (.bl Ae)
  |.Is,.tup _,.non=>.ok (.bl Ae)
  |.Is,.lst _,.non=>.ok (.bl Ae)
  |.Is,.obj _ _,.non=>.ok (.bl Ae)
  |.Is,.bl a,.bl b=>.ok (.bl (a==b))
  |.IsNot,.bl a,.bl b=>.ok (.bl (!(a==b)))
  |.IsNot,.non,.non=>.ok (.bl Ae)
  |.IsNot,.bl _,.non=>.ok (.bl Aa)
  |.IsNot,.int _,.non=>.ok (.bl Aa)
  |.IsNot,.str _,.non=>.ok (.bl Aa)
  |.IsNot,.tup _,.non=>.ok (.bl Aa)
  |.IsNot,.lst _,.non=>.ok (.bl Aa)
  |.IsNot,.obj _ _,.non=>.ok (.bl Aa)
  |_,_,_=>.bad
noncomputable def BY:D->R Ai
 |.non=>.ok Ae
 |.bl b=>.ok b
 |.int i=>.ok (i != 0)
 |.str x=>if B4 x.length=Aa then .ok (x.length != 0) else .bad
 |.tup xs=>.ok (!xs.isEmpty)
 |.lst xs=>.ok (!xs.isEmpty)
 |_=>.bad
noncomputable def plD(n:Ag)(i:Ad):Ao Ag:=if 0<=i then (if i<n then Ab i.toNat else Af) else if -(n:Ad)<=i then Ab (i+n).toNat else Af
noncomputable def CN(xs:Ac D)(i:Ad):R D:=match plD xs.length i with
  |some k=>match xs[k]? with
    |some d=>.ok d
    |none=>.bad
  |none=>.bad
noncomputable def Cu(kvs:Ac (Ac Ad×D))(k:Ac Ad):Ao D:=(kvs.find? λp=>p.1==k).map (·.2)
noncomputable def FA(kvs:Ac (Ac Ad×D))(k:Ac Ad)(v:D):Ac (Ac Ad×D):=if (kvs.any λp=>p.1==k)=Aa then kvs.map (λp=>if (p.1==k)=Aa then (k,v) else p) else kvs++[(k,v)]
noncomputable def Ph:D->R (Ac (Ac Ad×D))
 |.dic kvs=>.ok kvs
 |_=>.bad
noncomputable def EF(d:D):R (Ac Ad):=match Eb d with
  |some k=>.ok k
  |none=>.bad
noncomputable def Ec:D->D->R D
  |.lst xs,.int i=>CN xs i
  |.tup xs,.int i=>CN xs i
  |.dic kvs,k=>match (Eb k).bind (Cu kvs) with
    |some d=>.ok d
    |none=>.bad
  |_,_=>.bad
noncomputable def EG:D->R Ad
 |.int i=>.ok i
 |_=>.bad
noncomputable def DM:D->R Ai
 |.bl b=>.ok b
 |_=>.bad
noncomputable def Cm:D->R (Ac D)
 |.lst xs=>.ok xs
 |.tup xs=>.ok xs
 |_=>.bad
noncomputable def Kw:D->R (Ac D)
 |.lst xs=>.ok xs
 |_=>.bad
inductive BI where
 |len|abs|max|min|int|list|tuple|all|any|sum|sorted|str|count|stp|lset|tmin|tmax|tlt|rvs
 deriving DecidableEq,Inhabited
inductive Ki where
 |int|bool|str|list|tuple|verr|cls (c:Ag)
 deriving DecidableEq,Inhabited
mutual
inductive E where
 |non|bl (b:Ai)|int (i:Ad)|str (x:Ak)
 |var (i:Ag)|glob (g:Ag)
 |bin (op:Fu) (a b:E)|un (op:JM) (a:E)|no (a:E)
 |and (es:Es)|or (es:Es)
 |cmp (op:Db) (a b:E)|cmp2 (op op':Db) (a b c:E)
 |ite (c a b:E)
 |call (f:Ag) (as:Es)|bi (b:BI) (as:Es)
 |isi (a:E) (ks:Ac Ki)
 |idx (a i:E)|sl (a lo hi:E)
 |tup (es:Es)|lst (es:Es)
 |comp (elt:E) (t:Ag) (it:I) (c:E)|compT (elt:E) (ts:Ac Ag) (it:I) (c:E)|tupI (it:I)
 /-- d.get(k,x) -/
 |dget (i:Ag) (k x:E)
 |fld (o:E) (f:Ak)
inductive Es where
 |nil|cons (e:E) (es:Es)
inductive I where
 |e (a:E)|rng (a:E)|rng2 (a b:E)|zip (a b:E)|zip3 (a b c:E)|enm (a:E)
end
abbrev Sl:=Ao (D×Ai)
abbrev Rho:=Ac Sl
structure Gam where
 F:Ag->Ac D->R D
 G:Ag->D
 up:Ag->Ac Ag
 /-- the defs whose answer is a new list -/
 fr:Ag->Ai
 /-- what is raised: the class,what it is made of -/
 xn:Ag->Ac D->R Ex
noncomputable def Ce(lo:Ad)(n:Ag):Ac D:=(AS n).map fun(k:Ag)=>D.int (lo+(k:Ad))
noncomputable def Cq(lo hi:Ad):R (Ac D):=if (-(4611686018427387904:Ad)<=lo/\lo<4611686018427387904)/\(-(4611686018427387904:Ad)<=hi/\hi<4611686018427387904)/\hi-lo<1000000 then .ok (Ce lo (hi-lo).toNat) else .bad
noncomputable def kiD(up:Ag->Ac Ag):Ki->D->Ai
 |.int,.int _=>Aa
 |.int,.bl _=>Aa
 |.bool,.bl _=>Aa
 |.str,.str _=>Aa
 |.list,.lst _=>Aa
 |.tuple,.tup _=>Aa
 |.cls c,.obj k _=>(up k).contains c
 |.cls c,.exc k _=>(up k).contains c
 |.verr,.exc _ _=>Aa
 |_,_=>Ae
noncomputable def ET:Ki->Ai
 |.cls _=>Aa
 |.verr=>Aa
 |_=>Ae
noncomputable def Hc(up:Ag->Ac Ag)(ks:Ac Ki)(x:D):R D:=match x with
  |.obj _ _=>.bad
  |.exc _ _=>if ks.all ET=Aa then .ok (.bl (ks.any λk=>kiD up k x)) else .bad
  |.dic _=>.bad
  |_=>if ks.any ET=Aa then .bad else .ok (.bl (ks.any λk=>kiD up k x))
noncomputable def FZ:D->R Ai
 |.non=>.ok Ae
 |.bl b=>.ok b
 |.int i=>.ok (i != 0)
 |_=>.bad
noncomputable def FC:Ac D->R Ai
 |[]=>.ok Aa
 |x::r=>(FZ x).bind λb=>(FC r).bind λc=>.ok (b&&c)
noncomputable def IJ:Ac D->R Ai
 |[]=>.ok Ae
 |x::r=>(FZ x).bind λb=>(IJ r).bind λc=>.ok (b||c)
noncomputable def GD:Ad->Ac D->R Ad
 |a,[]=>.ok a
 |a,.int i::r=>GD (a+i) r
 |_,_=>.bad
noncomputable def Fh:Ac D->Ac D->Ac D
 |x::xs,y::ys=>.tup [x,y]::Fh xs ys
 |_,_=>[]
noncomputable def Tq:Ac D->Ac D->Ac D->Ac D
 |x::xs,y::ys,z::zs=>.tup [x,y,z]::Tq xs ys zs
 |_,_,_=>[]
noncomputable def Tp(x y z:D):R (Ac D):=(Cm x).bind λxs=>(Cm y).bind λys=>(Cm z).bind λzs=>if 0<xs.length/\xs.length<=1000/\ys.length=xs.length/\zs.length=xs.length then .ok (Tq xs ys zs) else .bad
noncomputable def El:Ad->Ac D->Ac D
 |_,[]=>[]
 |i,x::xs=>.tup [.int i,x]::El (i+1) xs
noncomputable def nlD:Ag->D->Ai
 |_,.non=>Aa
 |_,.bl _=>Aa
 |_,.int _=>Aa
 |_,.str _=>Aa
 |n+1,.tup xs=>xs.all (nlD n)
 |_,_=>Ae
noncomputable def KB(fr:Ai):D->Ai
 |.lst ds=>fr&&ds.all (nlD 5)
 |d=>nlD 5 d
noncomputable def Mz:Ac D->Ao (Ac Ad)
 |[]=>Ab []
 |.int i::r=>(Mz r).map (i :: ·)
 |_=>Af
noncomputable def UR(i:Ad):Ac Ad->Ad
 |[]=>i
 |j::r=>UR (if j<i then j else i) r
noncomputable def pk2(k n:Ag):Ac Ag:=(AS ((n-min k n+1)/2)).map λj=>min k n+2*j
noncomputable def Uz(k:Ag)(xs:Ac D):Ac D:=(pk2 k xs.length).filterMap λi=>xs[i]?
noncomputable def ddS(acc:Ac Ad)(x:Ad):Ac Ad:=if acc.any (· == x)=Aa then acc else acc++[x]
noncomputable def ddN(is:Ac Ad):Ag:=(is.foldl ddS []).length
noncomputable def TN(xs:Ac D):R D:=match Mz xs with
  |some is=>if C7 is.length 4000=Aa then .ok (.int (ddN is)) else .bad
  |none=>.bad
noncomputable def mmD(mx:Ai)(x y:D):R D:=if [x,y].all (λd=>rkD 1 d && !eqD d (.tup []))=Aa then .ok (if (if mx=Aa then ltD 1 x y else ltD 1 y x)=Aa then y else x) else .bad
noncomputable def Uw(x y:D):R D:=if [x,y].all (λd=>rkD 1 d && !eqD d (.tup []))=Aa then .ok (.bl (ltD 1 x y)) else .bad
noncomputable def Xo(k:Ac Ad):Ad:=reduceHash (Builtin.Tuple.tupleHashOf (k.map hashInt))
noncomputable def TQ:Ac D->Ao (Ac (Ac Ad))
 |[]=>Ab []
 |.tup xs::r=>(Mz xs).bind λk=>(TQ r).map (k :: ·)
 |_=>Af
noncomputable def Uv:Ac Ad->Ai
 |[]=>Aa
 |h::r=>!r.contains h&&Uv r
noncomputable def rD(xs:Ac D):R D:=match TQ xs with
  |some ks=>if (C7 ks.length 3&&Uv (ks.map Xo))=Aa then .ok (.int ks.length) else .bad
  |none=>.bad
noncomputable def biD:BI->Ac D->R D
  |.len,[.lst xs]=>.ok (.int xs.length)
  |.len,[.tup xs]=>.ok (.int xs.length)
  |.len,[.str x]=>if B4 x.length=Aa then .ok (.int x.length) else .bad
  |.abs,[.int i]=>.ok (.int (if i<0 then -i else i))
  |.max,[.int i,.int j]=>.ok (.int (if i<j then j else i))
  |.min,[.int i,.int j]=>.ok (.int (if j<i then j else i))
  |.min,[.lst xs]=>match Mz xs with
    |some (i::is)=>.ok (.int (UR i is))
    |_=>.bad
  |.int,[.int i]=>.ok (.int i)
  |.int,[.bl b]=>.ok (.int (b2i b))
  |.list,[.lst xs]=>.ok (.lst xs)
  |.list,[.tup xs]=>.ok (.lst xs)
  |.tuple,[.lst xs]=>.ok (.tup xs)
  |.tuple,[.tup xs]=>.ok (.tup xs)
  |.all,[.lst xs]=>(FC xs).bind λb=>.ok (.bl b)
  |.any,[.lst xs]=>(IJ xs).bind λb=>.ok (.bl b)
  |.any,[.tup xs]=>(IJ xs).bind λb=>.ok (.bl b)
  |.sum,[.lst xs]=>(GD 0 xs).bind λi=>.ok (.int i)
  |.sum,[.tup xs]=>(GD 0 xs).bind λi=>.ok (.int i)
  |.sorted,[.lst xs]=>(RQ xs).bind λys=>.ok (.lst ys)
  |.count,[.lst xs,x]=>if (flD 5 x&&xs.all (flD 5))=Aa then .ok (.int ((xs.filter λy=>eqD y x).length:Ag)) else .bad
  |.len,[.dic kvs]=>if B4 kvs.length=Aa then .ok (.int kvs.length) else .bad
  |.stp,[.lst xs,.int k]=>.ok (.lst (Uz k.toNat xs))
  |.lset,[.lst xs]=>TN xs
  |.lset,[.tup xs]=>rD xs
  |.tmin,[x,y]=>mmD Ae x y
  |.tmax,[x,y]=>mmD Aa x y
  |.tlt,[x,y]=>Uw x y
  |.rvs,[.lst xs]=>.ok (.lst xs.reverse)
  |_,_=>.bad
noncomputable def slE(c:E)(d:D):R (Ao Ad):=match c with
  |.non=>.ok Af
  |_=>(EG d).bind λi=>.ok (Ab i)
noncomputable def Gj(n d:Ag):Ao Ad->Ag
 |none=>d
 |some i=>if i<0 then (i+n).toNat else min i.toNat n
noncomputable def KA(xs:Ac D)(lo hi:Ao Ad):Ac D:=(xs.drop (Gj xs.length 0 lo)).take (Gj xs.length xs.length hi-Gj xs.length 0 lo)
noncomputable def slD:D->Ao Ad->Ao Ad->R D
 |.lst xs,l,h=>.ok (.lst (KA xs l h))
 |.tup xs,l,h=>if (Gj xs.length 0 l==0&&Gj xs.length xs.length h==xs.length)=Aa then .bad else .ok (.tup (KA xs l h))
 |_,_,_=>.bad
noncomputable def UB:D->Ak->R D
  |.exc _ fs,f=>match fs.lookup f with
    |some d=>.ok d
    |none=>.bad
  |_,_=>.bad
noncomputable def Fi(Z:Rho)(i:Ag):R D:=match Z[i]? with
  |some (Ab (d,Ae))=>.ok d
  |_=>.bad
noncomputable def DT(Z:Rho)(i:Ag):R D:=match Z[i]? with
  |some (Ab (d,_))=>.ok d
  |_=>.bad
noncomputable def shE(Z:Rho):E->Ai
  | .var i=>(match Z[i]? with
    |some (Ab (_,Aa))=>Ae
    | _=>Aa)
  |_=>Aa
noncomputable def FD(Z:Rho):Es->Ai
 |.nil=>Aa
 |.cons e es=>shE Z e&&FD Z es
noncomputable def Ew:Ac Ag->Ac D->Rho->Ao Rho
 |[],[],Z=>Ab Z
 |t::ts,d::ds,Z=>Ew ts ds (Z.set t (Ab (d,Ae)))
 |_,_,_=>Af
noncomputable def FB(ts:Ac Ag)(d:D)(Z:Rho):R Rho:=match d with
  | .tup xs=>(match Ew ts xs Z with
    |some Z'=>.ok Z'
    | none=>.bad)
  |_=>.bad
noncomputable def ME(ts:Ac Ag)(d:D)(Z:Rho):R Rho:=match d with
  | .lst xs=>(match Ew ts xs Z with
    |some Z'=>.ok Z'
    | none=>.bad)
  |d=>FB ts d Z
noncomputable def BN(g:D->R Ai)(f:D->R D):Ac D->R (Ac D)
 |[]=>.ok []
 |x::xs=>(g x).bind λb=>if b=Aa then (f x).bind λy=>(BN g f xs).bind λys=>.ok (y::ys) else BN g f xs
noncomputable def noX{α:Type}:R α->R α
 |.ok a=>.ok a
 |_=>.bad
noncomputable def top(Z:Rho)(e:E)(r:R D):R D:=match e with
  |.var i=>DT Z i
  |_=>r
mutual
noncomputable def evE(U:Gam)(Z:Rho):E->R D
 |.non=>.ok .non
 |.bl b=>.ok (.bl b)
 |.int i=>.ok (.int i)
 |.str x=>.ok (.str x)
 |.var i=>Fi Z i
 |.glob g=>.ok (U.G g)
 |.bin op a b=>(top Z a (evE U Z a)).bind λx=>(top Z b (evE U Z b)).bind λy=>C5 op x y
 |.un op a=>(top Z a (evE U Z a)).bind λx=>unD op x
 |.no a=>(top Z a (evE U Z a)).bind λx=>(DM x).bind λb=>.ok (.bl (!b))
 |.and es=>evN U Z es
 |.or es=>evO U Z es
 |.cmp op a b=>(top Z a (evE U Z a)).bind λx=>(top Z b (evE U Z b)).bind λy=>Bw op x y
 |.cmp2 op op' a b c=>(top Z a (evE U Z a)).bind λx=>(top Z b (evE U Z b)).bind λy=>(Bw op x y).bind λz=>(DM z).bind λk=>if k=Aa then (top Z c (evE U Z c)).bind λu=>Bw op' y u else .ok (.bl Ae)
 |.ite c a b=>(top Z c (evE U Z c)).bind λx=>(BY x).bind λk=>if k=Aa then evE U Z a else evE U Z b
 |.call f as=>(evB U Z as).bind λxs=>(U.F f xs).bind λd=>if FD Z as=Aa then .ok d else if KB (U.fr f) d=Aa then .ok d else .bad
 |.bi b as=>(evB U Z as).bind λxs=>biD b xs
 |.isi a ks=>(top Z a (evE U Z a)).bind λx=>Hc U.up ks x
 |.idx a i=>(top Z a (evE U Z a)).bind λx=>(top Z i (evE U Z i)).bind λy=>Ec x y
 |.sl a lo hi=>(top Z a (evE U Z a)).bind λx=>(top Z lo (evE U Z lo)).bind λl=>(slE lo l).bind λl'=>(top Z hi (evE U Z hi)).bind λh=>(slE hi h).bind λh'=>slD x l' h'
 |.tup es=>(evA U Z es).bind λxs=>.ok (.tup xs)
 |.lst es=>(evA U Z es).bind λxs=>.ok (.lst xs)
 |.comp elt t it c=>(evI U Z it).bind λxs=>(noX (BN (λx=>(top (Z.set t (Ab (x,Ae))) c (evE U (Z.set t (Ab (x,Ae))) c)).bind BY) (λx=>evE U (Z.set t (Ab (x,Ae))) elt) xs)).bind λys=>.ok (.lst ys)
 |.compT elt ts it c=>(evI U Z it).bind λxs=>(noX (BN (λx=>(FB ts x Z).bind λZ'=>(top Z' c (evE U Z' c)).bind BY) (λx=>(FB ts x Z).bind λZ'=>evE U Z' elt) xs)).bind λys=>.ok (.lst ys)
 |.tupI it=>(evI U Z it).bind λxs=>.ok (.tup xs)
 |.dget i k x=>(DT Z i).bind λd=>(Ph d).bind λkvs=>(top Z k (evE U Z k)).bind λa=>(EF a).bind λj=>(evE U Z x).bind λy=>.ok ((Cu kvs j).getD y)
 |.fld o f=>(top Z o (evE U Z o)).bind λx=>UB x f
noncomputable def evN(U:Gam)(Z:Rho):Es->R D
 |.nil=>.bad
 |.cons e .nil=>evE U Z e
 |.cons e (.cons e' es)=>(evE U Z e).bind λx=>(DM x).bind λc=>if c=Aa then evN U Z (.cons e' es) else .ok (.bl Ae)
noncomputable def evO(U:Gam)(Z:Rho):Es->R D
 |.nil=>.bad
 |.cons e .nil=>evE U Z e
 |.cons e (.cons e' es)=>(evE U Z e).bind λx=>(DM x).bind λc=>if c=Aa then .ok (.bl Aa) else evO U Z (.cons e' es)
noncomputable def evA(U:Gam)(Z:Rho):Es->R (Ac D)
 |.nil=>.ok []
 |.cons e es=>(evE U Z e).bind λx=>(evA U Z es).bind λxs=>.ok (x::xs)
noncomputable def evB(U:Gam)(Z:Rho):Es->R (Ac D)
 |.nil=>.ok []
 |.cons e es=>(top Z e (evE U Z e)).bind λx=>(evB U Z es).bind λxs=>.ok (x::xs)
noncomputable def evI(U:Gam)(Z:Rho):I->R (Ac D)
 |.e a=>(evE U Z a).bind Cm
 |.rng a=>(top Z a (evE U Z a)).bind λx=>(EG x).bind λj=>Cq 0 j
 |.rng2 a b=>(top Z a (evE U Z a)).bind λx=>(top Z b (evE U Z b)).bind λy=>(EG x).bind λi=>(EG y).bind λj=>Cq i j
 |.zip a b=>(evE U Z a).bind λx=>(evE U Z b).bind λy=>(Cm x).bind λxs=>(Cm y).bind λys=>.ok (Fh xs ys)
 |.zip3 a b c=>(evE U Z a).bind λx=>(evE U Z b).bind λy=>(evE U Z c).bind λz=>Tp x y z
 |.enm a=>(evE U Z a).bind λx=>(Cm x).bind λxs=>.ok (El 0 xs)
end
noncomputable def CM(U:Gam):E->Ai
 |.lst _=>Aa
 |.comp _ _ _ _=>Aa
 |.compT _ _ _ _=>Aa
 |.bin .Add _ _=>Aa
 |.bi .list _=>Aa
 |.bi .sorted _=>Aa
 |.sl _ _ _=>Aa
 |.call f _=>U.fr f
 |_=>Ae
noncomputable def G7:D->Ai
 |.tup _=>Ae
 |_=>Aa
mutual
inductive S where
 |pass
 /-- x=e;fresh: x alone holds the new list -/
 |asg (i:Ag) (fresh:Ai) (e:E)
 /-- a,b,..=e -/
 |asgT (ts:Ac Ag) (e:E)
 |expr (e:E)
 |ret (e:E)|retN
 |ife (c:E) (a b:Ss)
 |fors (t:Ag) (it:I) (body:Ss)
 |forT (ts:Ac Ag) (it:I) (body:Ss)
 |whl (c:E) (body:Ss)
 /-- raise C(e,..) -/
 |rais (c:Ag) (as:Es)
 /-- try: body except C as x: h -/
 |tryx (body:Ss) (c:Ag) (x:Ag) (h:Ss)
 /-- .. except C as x: h,except C' as x: h',else: els -/
 |try2 (body:Ss) (c:Ag) (x:Ag) (h:Ss) (c':Ag) (h' els:Ss)
 /-- x.append(e),x.extend(e),x.insert(k,e),x.reverse(),x.clear() -/
 |app (i:Ag) (e:E)|ext (i:Ag) (e:E)|ins (i:Ag) (k e:E)|rev (i:Ag)|clr (i:Ag)
 /-- d={},d[k]=e,d.setdefault(k,e) -/
 |dnw (i:Ag)|dput (i:Ag) (k e:E)|dsd (i:Ag) (k e:E)
 /-- x[k]=e -/
 |put (i:Ag) (k e:E)
 /-- x[k],x[l]=x[l],x[k] -/
 |swp (i k l:Ag)
 /-- x.append(y.pop(e)) -/
 |apop (j i:Ag) (e:E)
 |brk|cont
 /-- return (a,..): a list within is new,or a name held it alone -/
 |retT (es:Es)
 /-- x=f(..) or x,y=f(..);pre;if c: a else: b;x[k].append(e) or y.append(e): the names are let go -/
 |blk (ts:Ac Ag) (f:Ag) (as:Es) (pre:Ss) (c:E) (a b:Ss) (k:Ag) (e:E)
 /-- nothing: from here on x is no longer changed -/
 |rel (i:Ag)
inductive Ss where
 |nil|cons (s:S) (ss:Ss)
end
inductive O where
 |next (Z:Rho)|ret (d:D) (fr:Ai)|brk (Z:Rho)|cont (Z:Rho)|exn (x:Ex) (Z:Rho)|bad
 deriving Inhabited
noncomputable def O.of{α:Type}(Z:Rho)(r:R α)(f:α->O):O:=match r with
  |.ok a=>f a
  |.exn x=>.exn x Z
  |.bad=>.bad
@[simp]theorem O.of_ok(Z:Rho)(a:α)(f:α->O):O.of Z (.ok a) f=f a:=rfl
@[simp]theorem O.of_exn(Z:Rho)(x:Ex)(f:α->O):O.of Z (.exn x:R α) f=.exn x Z:=rfl
@[simp]theorem O.of_bad(Z:Rho)(f:α->O):O.of Z (.bad:R α) f=.bad:=rfl
noncomputable def Fl(U:Gam)(Z:Rho)(i:I):R (Ac D):=evI U Z i
noncomputable def CD(Z:Rho)(i:Ag):R (Ac D):=match Z[i]? with
  |some (Ab (.lst xs,Aa))=>.ok xs
  |_=>.bad
noncomputable def Gk(Z:Rho)(i:Ag):R (Ac (Ac Ad×D)):=match Z[i]? with
  |some (Ab (.dic xs,Aa))=>.ok xs
  |_=>.bad
noncomputable def TB:Ag:=4096
noncomputable def O.seq(o:O)(f:Rho->O):O:=match o with
  |.next Z=>f Z
  |.ret d b=>.ret d b
  |.brk Z=>.brk Z
  |.cont Z=>.cont Z
  |.exn x Z=>.exn x Z
  |.bad=>.bad
noncomputable def O.turn(o:O)(f:Rho->O):O:=match o with
  |.next Z=>f Z
  |.cont Z=>f Z
  |.brk Z=>.next Z
  |.ret d b=>.ret d b
  |.exn x Z=>.exn x Z
  |.bad=>.bad
noncomputable def BH(body:D->Rho->O):Ac D->Rho->O
 |[],Z=>.next Z
 |x::xs,Z=>(body x Z).turn (BH body xs)
noncomputable def Po(c:Rho->R Ai)(body:Rho->O):Ag->Rho->O
 |0,_=>.bad
 |n+1,Z=>O.of Z (c Z) λb=>if b=Aa then (body Z).turn (Po c body n) else .next Z
noncomputable def TV(Z:Rho)(k:Ag):R Ad:=(Fi Z k).bind EG
noncomputable def XV(Z:Rho)(d:D)(i k l:Ag):O:=match d with
  |.tup [x,y]=>O.of Z (CD Z i) λxs=>O.of Z (TV Z k) λa=>O.of Z (TV Z l) λb=>match plD xs.length a,plD xs.length b with
    |some m,Ab n=>.next (Z.set i (Ab (.lst ((xs.set m x).set n y),Aa)))
    |_,_=>.bad
  |_=>.bad
noncomputable def apD(Z:Rho)(j i:Ag)(ys xs:Ac D)(n:Ad):O:=match plD xs.length n with
  | some m=>(match xs[m]? with
    |some d=>if (j != i&&(B4 xs.length&&B4 (ys.length+1)))=Aa then .next ((Z.set i (Ab (.lst (xs.eraseIdx m),Aa))).set j (Ab (.lst (ys++[d]),Aa))) else .bad
    | none=>.bad)
  |none=>.bad
noncomputable def Ps(Z:Rho)(e:E):Ai:=match e with
  | .var i=>(match Z[i]? with
    |some (Ab (_,o))=>o
    | _=>Ae)
  |_=>Ae
noncomputable def Ku(x:D×Ai):Ai:=match x.1 with
  |.lst _=>x.2
  |.dic _=>Ae
  |_=>Aa
noncomputable def evP(U:Gam)(Z:Rho):Es->R (Ac (D×Ai))
 |.nil=>.ok []
 |.cons e es=>(noX (top Z e (evE U Z e))).bind λd=>(evP U Z es).bind λxs=>.ok ((d,CM U e||Ps Z e)::xs)
noncomputable def Js(ts:Ac Ag)(d:D)(Z:Rho):R Rho:=match ts with
  |[x]=>.ok (Z.set x (Ab (d,Ae)))
  | [x,y]=>(match d with
    |.tup [d1,d2]=>if (x==y)=Aa then .bad else .ok ((Z.set x (Ab (d1,Ae))).set y (Ab (d2,Ae)))
    | _=>.bad)
  |_=>.bad
noncomputable def Hy(ts:Ac Ag)(Z:Rho):Rho:=match ts with
  |[x]=>Z.set x Af
  |[x,y]=>(Z.set x Af).set y Af
  |_=>Z
noncomputable def Lj(ts:Ac Ag)(d:D)(k:Ag)(r:R D)(Z1 Z:Rho):O:=match d with
  | .tup ds=>(match ds[k]? with
    |some (.lst xs)=>O.of Z (noX r) λ_=>if (B4 (xs.length+1)&&decide (k<2)&&ts.all (λi=>decide (i<Z.length)))=Aa then .next Z1 else .bad
    | _=>.bad)
  |_=>.bad
noncomputable def JG(ts:Ac Ag)(r:R D)(k:Ag)(pre a b:Rho->O)(c:Rho->R Ai)(e:Rho->R D)(Z:Rho):O:=
 O.of Z (noX r) λd=>O.of Z (Js ts d Z) λZ1=>(pre Z1).seq λ_=>O.of Z1 (noX (c Z1)) λq=>(if q=Aa then a Z1 else (b Z1).seq λ_=>Lj ts d k (e Z1) Z1 Z).seq λ_=>.next (Hy ts Z)
noncomputable def hdO(i:Ag)(y:Ex)(Z':Rho)(fh:Rho->O):O:=match fh (Z'.set i (Ab (.exc y.c y.fs,Ae))) with
  |.next Z''=>.next (Z''.set i Af)
  |.ret d f=>.ret d f
  |_=>.bad
mutual
noncomputable def evS(U:Gam)(Z:Rho):S->O
  |.pass=>.next Z
  | .asg i fresh e=>O.of Z (evE U Z e) λd=>if fresh=Aa then (if CM U e=Aa then (match d with
      |.lst xs=>.next (Z.set i (Ab (.lst xs,Aa)))
      | _=>.bad) else .bad) else .next (Z.set i (Ab (d,Ae)))
  |.asgT ts e=>O.of Z (evE U Z e) λd=>O.of Z (ME ts d Z) λZ'=>.next Z'
  |.expr e=>O.of Z (evE U Z e) λ_=>.next Z
  |.ret e=>O.of Z (top Z e (evE U Z e)) λd=>.ret d (CM U e&&G7 d||(match e with | .var i=>(match Z[i]? with|some (Ab (_,o))=>o|_=>Ae)|_=>Ae))
  |.retN=>.ret .non Ae
  |.ife c a b=>O.of Z ((top Z c (evE U Z c)).bind BY) λk=>if k=Aa then evSs U Z a else evSs U Z b
  |.fors t it body=>O.of Z (Fl U Z it) λxs=>BH (λx Z'=>evSs U (Z'.set t (Ab (x,Ae))) body) xs Z
  |.forT ts it body=>O.of Z (Fl U Z it) λxs=>BH (λx Z'=>O.of Z' (FB ts x Z') λZ''=>evSs U Z'' body) xs Z
  |.whl c body=>Po (λZ'=>(top Z' c (evE U Z' c)).bind BY) (λZ'=>evSs U Z' body) TB Z
  |.rais c as=>O.of Z (noX (evA U Z as)) λxs=>O.of Z (U.xn c xs) λx=>.exn x Z
  |.tryx body c x h=>match evSs U Z body with
      | .exn y Z'=>if (U.up y.c).contains c=Aa then (match evSs U (Z'.set x (Ab (.exc y.c y.fs,Ae))) h with
          |.next Z''=>.next (Z''.set x Af)
          |.ret d f=>.ret d f
          | _=>.bad) else .bad
      |o=>o
  |.try2 body c x h c' h' els=>match evSs U Z body with
      |.exn y Z'=>if (U.up y.c).contains c=Aa then hdO x y Z' (λr=>evSs U r h) else if (U.up y.c).contains c'=Aa then hdO x y Z' (λr=>evSs U r h') else .bad
      |.next Z'=>evSs U Z' els
      |o=>o
  |.app i e=>O.of Z (CD Z i) λxs=>O.of Z (evE U Z e) λd=>if B4 (xs.length+1)=Aa then .next (Z.set i (Ab (.lst (xs++[d]),Aa))) else .bad
  |.ext i e=>O.of Z (CD Z i) λxs=>O.of Z (evE U Z e) λd=>O.of Z (Kw d) λys=>if B4 (xs.length+ys.length)=Aa then .next (Z.set i (Ab (.lst (xs++ys),Aa))) else .bad
  |.ins i k e=>O.of Z (CD Z i) λxs=>O.of Z ((top Z k (evE U Z k)).bind EG) λj=>O.of Z (evE U Z e) λd=>if (B4 (xs.length+1)&&decide (0<=j)&&decide (j<=xs.length))=Aa then .next (Z.set i (Ab (.lst (xs.take j.toNat++d::xs.drop j.toNat),Aa))) else .bad
  |.rev i=>O.of Z (CD Z i) λxs=>.next (Z.set i (Ab (.lst xs.reverse,Aa)))
  |.clr i=>O.of Z (CD Z i) λ_=>.next (Z.set i (Ab (.lst [],Aa)))
  |.dnw i=>.next (Z.set i (Ab (.dic [],Aa)))
  |.dput i k e=>O.of Z (evE U Z e) λd=>O.of Z (Gk Z i) λxs=>O.of Z ((top Z k (evE U Z k)).bind EF) λj=>if B4 (xs.length+1)=Aa then .next (Z.set i (Ab (.dic (FA xs j d),Aa))) else .bad
  |.dsd i k e=>O.of Z (Gk Z i) λxs=>O.of Z ((top Z k (evE U Z k)).bind EF) λj=>O.of Z (evE U Z e) λd=>if B4 (xs.length+1)=Aa then .next (Z.set i (Ab (.dic (if (xs.any λp=>p.1==j)=Aa then xs else FA xs j d),Aa))) else .bad
  |.put i k e=>O.of Z (evE U Z e) λd=>O.of Z (CD Z i) λxs=>O.of Z ((top Z k (evE U Z k)).bind EG) λj=>match plD xs.length j with
      |some n=>.next (Z.set i (Ab (.lst (xs.set n d),Aa)))
      |none=>.bad
  |.swp i k l=>O.of Z (evE U Z (.tup (.cons (.idx (.var i) (.var l)) (.cons (.idx (.var i) (.var k)) .nil)))) λd=>XV Z d i k l
  |.apop j i e=>O.of Z (CD Z j) λys=>O.of Z (CD Z i) λxs=>O.of Z (evE U Z e) λd=>O.of Z (EG d) λn=>apD Z j i ys xs n
  |.brk=>.brk Z
  |.cont=>.cont Z
  |.retT es=>O.of Z (noX (evP U Z es)) λxs=>if xs.all Ku=Aa then .ret (.tup (xs.map (·.1))) Aa else .bad
  |.blk ts f as pre c a b k e=>if (U.fr f&&FD Z as)=Aa then JG ts (evE U Z (.call f as)) k (λZ=>evSs U Z pre) (λZ=>evSs U Z a) (λZ=>evSs U Z b) (λZ=>(top Z c (evE U Z c)).bind BY) (λZ=>evE U Z e) Z else .bad
  |.rel i=>match Z[i]? with
      |some (Ab (d,Aa))=>.next (Z.set i (Ab (d,Ae)))
      |_=>.next Z
noncomputable def evSs(U:Gam)(Z:Rho):Ss->O
 |.nil=>.next Z
 |.cons s ss=>(evS U Z s).seq λZ'=>evSs U Z' ss
end
structure Df where
 n:Ag
 fr:Ai
 body:Ss
noncomputable def BZ(n:Ag)(ds:Ac D):Rho:=ds.map (λd=>Ab (d,Ae))++F8 (n-ds.length) Af
noncomputable def G6:D->Ai
 |.lst _=>Aa
 |_=>Ae
noncomputable def isL:D->Ai
 |.lst _=>Aa
 |.dic _=>Aa
 |.tup ds=>ds.any G6
 |_=>Ae
noncomputable def O.ans(fr:Ai)(o:O):R D:=match o with
  |.ret d b=>if (fr&&(!b&&isL d))=Aa then .bad else .ok d
  |.next _=>if fr=Aa then .bad else .ok .non
  |.exn x _=>.exn x
  |_=>.bad
noncomputable def Df.run(U:Gam)(f:Df)(ds:Ac D):R D:=(evSs U (BZ f.n ds) f.body).ans f.fr
structure Prg where
 xs:Ai
 defs:Ag->Df
 G:Ag->D
 up:Ag->Ac Ag
 xn:Ag->Ac D->R Ex
noncomputable def GI(xs:Ai)(r:R D):R D:=match xs with
  |true=>r
  |false=>noX r
noncomputable def gam(P:Prg):Ag->Gam
 |0=>⟨λ_ _=>.bad,P.G,P.up,λi=>(P.defs i).fr,P.xn⟩
 |n+1=>⟨λi ds=>GI P.xs ((P.defs i).run (gam P n) ds),P.G,P.up,λi=>(P.defs i).fr,P.xn⟩
end Ov
end
section
namespace Ov
open PySem
variable{α:Type}{lo:Ad}{n:Ag}{x:D}
section
variable(U:Gam)(Z:Rho)
@[simp]theorem ZxM:evE U Z .non=.ok .non:=rfl
@[simp]theorem ZzM(b):evE U Z (.bl b)=.ok (.bl b):=rfl
@[simp]theorem ZxQ(b):evE U Z (.int b)=.ok (.int b):=rfl
@[simp]theorem ZxL(b):evE U Z (.str b)=.ok (.str b):=rfl
@[simp]theorem ZxK(i):evE U Z (.var i)=Fi Z i:=rfl
@[simp]theorem Zul(i):evE U Z (.glob i)=.ok (U.G i):=rfl
@[simp]theorem fM(op a b):evE U Z (.bin op a b)=(top Z a (evE U Z a)).bind λx=>(top Z b (evE U Z b)).bind λy=>C5 op x y:=rfl
@[simp]theorem ZzI(op a):evE U Z (.un op a)=(top Z a (evE U Z a)).bind λx=>unD op x:=rfl
@[simp]theorem ZzL(a):evE U Z (.no a)=(top Z a (evE U Z a)).bind λx=>(DM x).bind λb=>.ok (.bl (!b)):=rfl
@[simp]theorem ZxU(es):evE U Z (.and es)=evN U Z es:=rfl
@[simp]theorem ZzK(es):evE U Z (.or es)=evO U Z es:=rfl
@[simp]theorem ZxH(e):evN U Z (.cons e .nil)=evE U Z e:=rfl
@[simp]theorem Zug(e e' es):evN U Z (.cons e (.cons e' es))=(evE U Z e).bind λx=>(DM x).bind λc=>if c=Aa then evN U Z (.cons e' es) else .ok (.bl Ae):=rfl
@[simp]theorem ZxG(e):evO U Z (.cons e .nil)=evE U Z e:=rfl
@[simp]theorem Zuf(e e' es):evO U Z (.cons e (.cons e' es))=(evE U Z e).bind λx=>(DM x).bind λc=>if c=Aa then .ok (.bl Aa) else evO U Z (.cons e' es):=rfl
@[simp]theorem ZxT(op a b):evE U Z (.cmp op a b)=(top Z a (evE U Z a)).bind λx=>(top Z b (evE U Z b)).bind λy=>Bw op x y:=rfl
@[simp]theorem Zuo(op op' a b c):evE U Z (.cmp2 op op' a b c)=(top Z a (evE U Z a)).bind λx=>(top Z b (evE U Z b)).bind λy=>(Bw op x y).bind λz=>(DM z).bind λk=>if k=Aa then (top Z c (evE U Z c)).bind λu=>Bw op' y u else .ok (.bl Ae):=rfl
@[simp]theorem ZxO(c a b):evE U Z (.ite c a b)=(top Z c (evE U Z c)).bind λx=>(BY x).bind λk=>if k=Aa then evE U Z a else evE U Z b:=rfl
@[simp]theorem ZX(f as):evE U Z (.call f as)=(evB U Z as).bind λxs=>(U.F f xs).bind λd=>if FD Z as=Aa then .ok d else if KB (U.fr f) d=Aa then .ok d else .bad:=rfl
@[simp]theorem nN(f as):evE U Z (.bi f as)=(evB U Z as).bind λxs=>biD f xs:=rfl
@[simp]theorem ZxP(a ks):evE U Z (.isi a ks)=(top Z a (evE U Z a)).bind λx=>Hc U.up ks x:=rfl
@[simp]theorem ZxR(a i):evE U Z (.idx a i)=(top Z a (evE U Z a)).bind λx=>(top Z i (evE U Z i)).bind λy=>Ec x y:=rfl
@[simp]theorem ZzJ(a lo hi):evE U Z (.sl a lo hi)=(top Z a (evE U Z a)).bind λx=>(top Z lo (evE U Z lo)).bind λl=>(slE lo l).bind λl'=>(top Z hi (evE U Z hi)).bind λh=>(slE hi h).bind λh'=>slD x l' h':=rfl
@[simp]theorem fL(es):evE U Z (.tup es)=(evA U Z es).bind λxs=>.ok (.tup xs):=rfl
@[simp]theorem ZxN(es):evE U Z (.lst es)=(evA U Z es).bind λxs=>.ok (.lst xs):=rfl
noncomputable def cG(U:Gam)(Z:Rho)(t:Ag)(c:E):D->R Ai:=λx=>(top (Z.set t (Ab (x,Ae))) c (evE U (Z.set t (Ab (x,Ae))) c)).bind BY
noncomputable def cF(U:Gam)(Z:Rho)(t:Ag)(elt:E):D->R D:=λx=>evE U (Z.set t (Ab (x,Ae))) elt
noncomputable def mkL(r:R (Ac D)):R D:=(noX r).bind λys=>.ok (.lst ys)
@[simp]theorem Zzf(ys):mkL (.ok ys)=.ok (.lst ys):=rfl
@[simp]theorem Zun(elt t it c):evE U Z (.comp elt t it c)=(evI U Z it).bind λxs=>mkL (BN (cG U Z t c) (cF U Z t elt) xs):=rfl
noncomputable def cGT(U:Gam)(Z:Rho)(ts:Ac Ag)(c:E):D->R Ai:=λx=>(FB ts x Z).bind λZ'=>(top Z' c (evE U Z' c)).bind BY
noncomputable def cFT(U:Gam)(Z:Rho)(ts:Ac Ag)(elt:E):D->R D:=λx=>(FB ts x Z).bind λZ'=>evE U Z' elt
@[simp]theorem Zsk(elt ts it c):evE U Z (.compT elt ts it c)=(evI U Z it).bind λxs=>mkL (BN (cGT U Z ts c) (cFT U Z ts elt) xs):=rfl
@[simp]theorem Zuk(it):evE U Z (.tupI it)=(evI U Z it).bind λxs=>.ok (.tup xs):=rfl
@[simp]theorem Zum(i k x):evE U Z (.dget i k x)=(DT Z i).bind λd=>(Ph d).bind λkvs=>(top Z k (evE U Z k)).bind λa=>(EF a).bind λj=>(evE U Z x).bind λy=>.ok ((Cu kvs j).getD y):=rfl
@[simp]theorem ZxS(o f):evE U Z (.fld o f)=(top Z o (evE U Z o)).bind λx=>UB x f:=rfl
@[simp]theorem ZxW:evA U Z .nil=.ok []:=rfl
@[simp]theorem Rg(e es):evA U Z (.cons e es)=(evE U Z e).bind λx=>(evA U Z es).bind λxs=>.ok (x::xs):=rfl
@[simp]theorem ZxV:evB U Z .nil=.ok []:=rfl
@[simp]theorem Re(e es):evB U Z (.cons e es)=(top Z e (evE U Z e)).bind λx=>(evB U Z es).bind λxs=>.ok (x::xs):=rfl
@[simp]theorem ZAL(a):evI U Z (.e a)=(evE U Z a).bind Cm:=rfl
@[simp]theorem fK(a):evI U Z (.rng a)=(top Z a (evE U Z a)).bind λx=>(EG x).bind λj=>Cq 0 j:=rfl
@[simp]theorem ZW(a b):evI U Z (.rng2 a b)=(top Z a (evE U Z a)).bind λx=>(top Z b (evE U Z b)).bind λy=>(EG x).bind λi=>(EG y).bind λj=>Cq i j:=rfl
@[simp]theorem ZxI(a b):evI U Z (.zip a b)=(evE U Z a).bind λx=>(evE U Z b).bind λy=>(Cm x).bind λxs=>(Cm y).bind λys=>.ok (Fh xs ys):=rfl
@[simp]theorem Zuj(a b c):evI U Z (.zip3 a b c)=(evE U Z a).bind λx=>(evE U Z b).bind λy=>(evE U Z c).bind λz=>Tp x y z:=rfl
@[simp]theorem ZxJ(a):evI U Z (.enm a)=(evE U Z a).bind λx=>(Cm x).bind λxs=>.ok (El 0 xs):=rfl
@[simp]theorem Zuh(a b):Fl U Z (.zip a b)=evI U Z (.zip a b):=rfl
@[simp]theorem Zsj(a b c):Fl U Z (.zip3 a b c)=evI U Z (.zip3 a b c):=rfl
@[simp]theorem Zui(a):Fl U Z (.enm a)=evI U Z (.enm a):=rfl
@[simp]theorem ZzH(a):Fl U Z (.e a)=(evE U Z a).bind Cm:=rfl
@[simp]theorem Zm(a):Fl U Z (.rng a)=evI U Z (.rng a):=rfl
@[simp]theorem Zb(a b):Fl U Z (.rng2 a b)=evI U Z (.rng2 a b):=rfl
variable(r:R D)
@[simp]theorem ZuP(i):top Z (.var i) r=DT Z i:=rfl
@[simp]theorem ZuR:top Z .non r=r:=rfl
@[simp]theorem ZyN(b):top Z (.bl b) r=r:=rfl
@[simp]theorem ZuV(b):top Z (.int b) r=r:=rfl
@[simp]theorem ZuQ(b):top Z (.str b) r=r:=rfl
@[simp]theorem Ztr(b):top Z (.glob b) r=r:=rfl
@[simp]theorem cA(op a b):top Z (.bin op a b) r=r:=rfl
@[simp]theorem ZyJ(op a):top Z (.un op a) r=r:=rfl
@[simp]theorem ZyM(a):top Z (.no a) r=r:=rfl
@[simp]theorem ZuZ(a):top Z (.and a) r=r:=rfl
@[simp]theorem ZyL(a):top Z (.or a) r=r:=rfl
@[simp]theorem ZuY(op a b):top Z (.cmp op a b) r=r:=rfl
@[simp]theorem Ztu(op op' a b c):top Z (.cmp2 op op' a b c) r=r:=rfl
@[simp]theorem ZuT(a b c):top Z (.ite a b c) r=r:=rfl
@[simp]theorem Ztv(a b):top Z (.call a b) r=r:=rfl
@[simp]theorem jV(a b):top Z (.bi a b) r=r:=rfl
@[simp]theorem ZuU(a b):top Z (.isi a b) r=r:=rfl
@[simp]theorem ZuW(a b):top Z (.idx a b) r=r:=rfl
@[simp]theorem ZyK(a b c):top Z (.sl a b c) r=r:=rfl
@[simp]theorem bY(a):top Z (.tup a) r=r:=rfl
@[simp]theorem ZuS(a):top Z (.lst a) r=r:=rfl
@[simp]theorem Ztt(a b c d):top Z (.comp a b c d) r=r:=rfl
@[simp]theorem ZuX(a b):top Z (.fld a b) r=r:=rfl
@[simp]theorem Zqb(a b c d):top Z (.compT a b c d) r=r:=rfl
@[simp]theorem Ztq(a):top Z (.tupI a) r=r:=rfl
@[simp]theorem Zts(i k x):top Z (.dget i k x) r=r:=rfl
end
@[simp]theorem ZpY(x:D×Ai)(Z:Rho):DT (Ab x::Z) 0=.ok x.1:=rfl
@[simp]theorem ZpZ(x:D)(Z:Rho):Fi (Ab (x,Ae)::Z) 0=.ok x:=rfl
@[simp]theorem ZpC(x:Sl)(Z:Rho)(i:Ag)[NeZero i]:DT (x::Z) i=DT Z (i-1):=by
 obtain⟨j,rfl⟩:∃ j,i=j+1:=⟨i-1,by have:=KF i;omega⟩
 rfl
@[simp]theorem ZpD(x:Sl)(Z:Rho)(i:Ag)[NeZero i]:Fi (x::Z) i=Fi Z (i-1):=by
 obtain⟨j,rfl⟩:∃ j,i=j+1:=⟨i-1,by have:=KF i;omega⟩
 rfl
noncomputable def shV(Z:Rho)(i:Ag):Ai:=match Z[i]? with
    |some (Ab (_,Aa))=>Ae
    |_=>Aa
@[simp]theorem Ztx(x:D)(b:Ai)(Z:Rho):shV (Ab (x,b)::Z) 0=!b:=by cases b<;>rfl
@[simp]theorem ZqF(Z:Rho):shV (Af::Z) 0=Aa:=rfl
@[simp]theorem ZqG(x:Sl)(Z:Rho)(i:Ag)[NeZero i]:shV (x::Z) i=shV Z (i-1):=by
 obtain⟨j,rfl⟩:∃ j,i=j+1:=⟨i-1,by have:=KF i;omega⟩
 rfl
section
variable(Z:Rho)
@[simp]theorem Zvn(i):shE Z (.var i)=shV Z i:=rfl
@[simp]theorem Zvq:shE Z .non=Aa:=rfl
@[simp]theorem Zy1(b):shE Z (.bl b)=Aa:=rfl
@[simp]theorem Zvu(b):shE Z (.int b)=Aa:=rfl
@[simp]theorem Zvp(b):shE Z (.str b)=Aa:=rfl
@[simp]theorem ZtA(b):shE Z (.glob b)=Aa:=rfl
@[simp]theorem Zvy(op a b):shE Z (.bin op a b)=Aa:=rfl
@[simp]theorem ZyX(op a):shE Z (.un op a)=Aa:=rfl
@[simp]theorem Zy0(a):shE Z (.no a)=Aa:=rfl
@[simp]theorem Zvz(a):shE Z (.and a)=Aa:=rfl
@[simp]theorem ZyZ(a):shE Z (.or a)=Aa:=rfl
@[simp]theorem Zvx(op a b):shE Z (.cmp op a b)=Aa:=rfl
@[simp]theorem ZtD(op op' a b c):shE Z (.cmp2 op op' a b c)=Aa:=rfl
@[simp]theorem Zvs(a b c):shE Z (.ite a b c)=Aa:=rfl
@[simp]theorem ZtE(a b):shE Z (.call a b)=Aa:=rfl
@[simp]theorem Zy2(a b):shE Z (.bi a b)=Aa:=rfl
@[simp]theorem Zvt(a b):shE Z (.isi a b)=Aa:=rfl
@[simp]theorem Zvv(a b):shE Z (.idx a b)=Aa:=rfl
@[simp]theorem ZyY(a b c):shE Z (.sl a b c)=Aa:=rfl
@[simp]theorem Zvo(a):shE Z (.tup a)=Aa:=rfl
@[simp]theorem Zvr(a):shE Z (.lst a)=Aa:=rfl
@[simp]theorem ZtC(a b c d):shE Z (.comp a b c d)=Aa:=rfl
@[simp]theorem ZqH(a b c d):shE Z (.compT a b c d)=Aa:=rfl
@[simp]theorem Ztz(a):shE Z (.tupI a)=Aa:=rfl
@[simp]theorem ZtB(i k x):shE Z (.dget i k x)=Aa:=rfl
@[simp]theorem Zvw(a b):shE Z (.fld a b)=Aa:=rfl
@[simp]theorem Zty:FD Z .nil=Aa:=rfl
@[simp]theorem YR(e es):FD Z (.cons e es)=(shE Z e&&FD Z es):=rfl
end
@[simp]theorem ZpF(Z:Rho):Ew [] [] Z=Ab Z:=rfl
@[simp]theorem Zm4(t ts d ds)(Z:Rho):Ew (t::ts) (d::ds) Z=Ew ts ds (Z.set t (Ab (d,Ae))):=rfl
@[simp]theorem Zs1(ts ds)(Z:Rho):ME ts (.lst ds) Z=match Ew ts ds Z with
  |some Z'=>.ok Z'
  |none=>.bad:=rfl
@[simp]theorem Zs0(ts ds)(Z:Rho):ME ts (.tup ds) Z=FB ts (.tup ds) Z:=rfl
@[simp]theorem Qa(ts ds)(Z:Rho):FB ts (.tup ds) Z=match Ew ts ds Z with
  |some Z'=>.ok Z'
  |none=>.bad:=rfl
@[simp]theorem Zuw{β:Type}(c:Prop)[FF c](a b:R α)(f:α->R β):(if c then a else b).bind f=if c then a.bind f else b.bind f:=by split<;>rfl
@[simp]theorem Zzd(Z:Rho)(c:Prop)[FF c](a b:R α)(f:α->O):O.of Z (if c then a else b) f=if c then O.of Z a f else O.of Z b f:=by split<;>rfl
@[simp]theorem ZwK{β:Type}(Z:Rho)(a:R α)(g:α->R β)(f:β->O):O.of Z (a.bind g) f=O.of Z a λx=>O.of Z (g x) f:=by cases a<;>rfl
@[simp]theorem ZvB(c:Prop)[FF c](a b:O)(f:Rho->O):O.seq (if c then a else b) f=if c then a.seq f else b.seq f:=by split<;>rfl
@[simp]theorem Ztg(c:Prop)[FF c](a b:O)(f:Rho->O):O.turn (if c then a else b) f=if c then a.turn f else b.turn f:=by split<;>rfl
@[simp]theorem Zyn(fr:Ai)(c:Prop)[FF c](a b:O):O.ans fr (if c then a else b)=if c then a.ans fr else b.ans fr:=by split<;>rfl
@[simp]theorem ZtF(Z f):O.seq (.next Z) f=f Z:=rfl
@[simp]theorem ZvA(d b f):O.seq (.ret d b) f=.ret d b:=rfl
@[simp]theorem ZvD(Z f):O.seq (.brk Z) f=.brk Z:=rfl
@[simp]theorem ZtG(Z f):O.seq (.cont Z) f=.cont Z:=rfl
@[simp]theorem ZvC(x Z f):O.seq (.exn x Z) f=.exn x Z:=rfl
@[simp]theorem ZvE(f):O.seq .bad f=.bad:=rfl
@[simp]theorem Zp4(Z f):O.turn (.next Z) f=f Z:=rfl
@[simp]theorem Ztf(d b f):O.turn (.ret d b) f=.ret d b:=rfl
@[simp]theorem Zti(Z f):O.turn (.brk Z) f=.next Z:=rfl
@[simp]theorem Zp5(Z f):O.turn (.cont Z) f=f Z:=rfl
@[simp]theorem Zth(x Z f):O.turn (.exn x Z) f=.exn x Z:=rfl
@[simp]theorem Ztj(f):O.turn .bad f=.bad:=rfl
@[simp]theorem Zuy(Z):O.ans Ae (.next Z)=.ok .non:=rfl
@[simp]theorem Zym(d b):O.ans Ae (.ret d b)=.ok d:=rfl
@[simp]theorem Zux(d b):O.ans Aa (.ret d b)=if (!b&&isL d)=Aa then .bad else .ok d:=rfl
@[simp]theorem Zxh(d):isL (.lst d)=Aa:=rfl
@[simp]theorem Zxg(d):isL (.tup d)=d.any G6:=rfl
@[simp]theorem Zxi(d):isL (.int d)=Ae:=rfl
@[simp]theorem Zyo(fr x Z):O.ans fr (.exn x Z)=.exn x:=rfl
@[simp]theorem Zyp(fr):O.ans fr .bad=.bad:=rfl
@[simp]theorem ZzU(i j:Ad):C5 .Add (.int i) (.int j)=.ok (.int (i+j)):=rfl
@[simp]theorem ZyS(i j:Ad):C5 .Sub (.int i) (.int j)=.ok (.int (i-j)):=rfl
@[simp]theorem lA(i j:Ad):C5 .Mult (.int i) (.int j)=if (DL i j||GB i j)=Aa then .ok (.int (i*j)) else .bad:=rfl
@[simp]theorem fG(i j:Ad):C5 .FloorDiv (.int i) (.int j)=if 0<j/\j<1073741824 then .ok (.int (i/j)) else .bad:=rfl
@[simp]theorem lC(i j:Ad):C5 .Mod (.int i) (.int j)=if 0<j then .ok (.int (i%j)) else .bad:=rfl
@[simp]theorem lT(i j:Ad):C5 .Pow (.int i) (.int j)=if (0<=j/\j<=1000000)/\(-(18446744073709551616:Ad)<i/\i<18446744073709551616) then .ok (.int (i ^ j.toNat)) else .bad:=rfl
@[simp]theorem Sv(x y:Ak):C5 .Add (.str x) (.str y)=if B4 (x.length+y.length)=Aa then .ok (.str (x++y)) else .bad:=rfl
@[simp]theorem Sw(x y:Ac D):C5 .Add (.lst x) (.lst y)=if B4 (x.length+y.length)=Aa then .ok (.lst (x++y)) else .bad:=rfl
@[simp]theorem Su(x y:Ac D):C5 .Add (.tup x) (.tup y)=if (!x.isEmpty&&B4 (x.length+y.length))=Aa then .ok (.tup (x++y)) else .bad:=rfl
@[simp]theorem ZAr(i:Ad):unD .USub (.int i)=.ok (.int (-i)):=rfl
@[simp]theorem sN(x y:D):Bw .Eq x y=if (flD 5 x&&flD 5 y)=Aa then .ok (.bl (eqD x y)) else .bad:=rfl
@[simp]theorem qZ(x y:D):Bw .NotEq x y=if (flD 5 x&&flD 5 y)=Aa then .ok (.bl (!eqD x y)) else .bad:=rfl
@[simp]theorem ZAs(i j:Ad):Bw .Lt (.int i) (.int j)=.ok (.bl (decide (i<j))):=rfl
@[simp]theorem ZAv(i j:Ad):Bw .LtE (.int i) (.int j)=.ok (.bl (decide (i<=j))):=rfl
@[simp]theorem ZAF(i j:Ad):Bw .Gt (.int i) (.int j)=.ok (.bl (decide (j<i))):=rfl
@[simp]theorem ZAG(i j:Ad):Bw .GtE (.int i) (.int j)=.ok (.bl (decide (j<=i))):=rfl
@[simp]theorem Xl(x:D)(ys:Ac D):Bw .In x (.lst ys)=if (flD 5 x&&ys.all (flD 5))=Aa then .ok (.bl (ys.any λy=>eqD y x)) else .bad:=rfl
@[simp]theorem Xk(x:D)(ys:Ac D):Bw .In x (.tup ys)=if (flD 5 x&&ys.all (flD 5))=Aa then .ok (.bl (ys.any λy=>eqD y x)) else .bad:=rfl
@[simp]theorem qX(x:D)(ys:Ac D):Bw .NotIn x (.lst ys)=if (flD 5 x&&ys.all (flD 5))=Aa then .ok (.bl (!ys.any λy=>eqD y x)) else .bad:=rfl
@[simp]theorem qW(x:D)(ys:Ac D):Bw .NotIn x (.tup ys)=if (flD 5 x&&ys.all (flD 5))=Aa then .ok (.bl (!ys.any λy=>eqD y x)) else .bad:=rfl
@[simp]theorem Zzs:Bw .Is .non .non=.ok (.bl Aa):=rfl
@[simp]theorem Zzu(i):Bw .Is (.int i) .non=.ok (.bl Ae):=rfl
@[simp]theorem Zzr(i):Bw .Is (.tup i) .non=.ok (.bl Ae):=rfl
@[simp]theorem Zzt(i):Bw .Is (.lst i) .non=.ok (.bl Ae):=rfl
@[simp]theorem ZAx(a b):Bw .Is (.bl a) (.bl b)=.ok (.bl (a==b)):=rfl
@[simp]theorem Zzp(a b):Bw .IsNot (.bl a) (.bl b)=.ok (.bl (!(a==b))):=rfl
@[simp]theorem Zw5:Bw .IsNot .non .non=.ok (.bl Ae):=rfl
@[simp]theorem Zw7(i):Bw .IsNot (.int i) .non=.ok (.bl Aa):=rfl
@[simp]theorem Zw4(i):Bw .IsNot (.tup i) .non=.ok (.bl Aa):=rfl
@[simp]theorem Zw6(i):Bw .IsNot (.lst i) .non=.ok (.bl Aa):=rfl
@[simp]theorem Zx2(i j:Ad):eqD (.int i) (.int j)=(i==j):=rfl
@[simp]theorem ZzN(i j:Ai):eqD (.bl i) (.bl j)=(i==j):=rfl
@[simp]theorem ZxZ(i j:Ak):eqD (.str i) (.str j)=(i==j):=rfl
@[simp]theorem ZxY(i j:Ac D):eqD (.tup i) (.tup j)=eqDs i j:=rfl
@[simp]theorem Zx1(i j:Ac D):eqD (.lst i) (.lst j)=eqDs i j:=rfl
@[simp]theorem Zx0:eqD .non .non=Aa:=rfl
@[simp]theorem ZoL(i):eqD .non (.int i)=Ae:=rfl
@[simp]theorem ZoM(i):eqD (.int i) .non=Ae:=rfl
@[simp]theorem Zup:eqDs [] []=Aa:=rfl
@[simp]theorem NO(x y:D)(xs ys:Ac D):eqDs (x::xs) (y::ys)=(eqD x y&&eqDs xs ys):=rfl
@[simp]theorem Zxv(n)(i:Ad):flD n (.int i)=Aa:=by cases n<;>rfl
@[simp]theorem ZzG(n)(i:Ai):flD n (.bl i)=Aa:=by cases n<;>rfl
@[simp]theorem Zxt(n)(i:Ak):flD n (.str i)=Aa:=by cases n<;>rfl
@[simp]theorem Zxu(n):flD n .non=Aa:=by cases n<;>rfl
@[simp]theorem ZtV(i):flD 5 (.tup i)=i.all (flD 4):=rfl
@[simp]theorem Zt0(i):flD 5 (.lst i)=i.all (flD 4):=rfl
@[simp]theorem ZtW(i):flD 4 (.tup i)=i.all (flD 3):=rfl
@[simp]theorem Zt1(i):flD 4 (.lst i)=i.all (flD 3):=rfl
@[simp]theorem ZtX(i):flD 3 (.tup i)=i.all (flD 2):=rfl
@[simp]theorem Zt2(i):flD 3 (.lst i)=i.all (flD 2):=rfl
@[simp]theorem ZtY(i):flD 2 (.tup i)=i.all (flD 1):=rfl
@[simp]theorem Zt3(i):flD 2 (.lst i)=i.all (flD 1):=rfl
@[simp]theorem ZtZ(i):flD 1 (.tup i)=i.all (flD 0):=rfl
@[simp]theorem Zt4(i):flD 1 (.lst i)=i.all (flD 0):=rfl
@[simp]theorem ZuN(b):BY (.bl b)=.ok b:=rfl
@[simp]theorem Ztn(i):BY (.int i)=.ok (i != 0):=rfl
@[simp]theorem Ztm(i):BY (.lst i)=.ok (!i.isEmpty):=rfl
@[simp]theorem Ztk(i):BY (.tup i)=.ok (!i.isEmpty):=rfl
@[simp]theorem Ztl:BY .non=.ok Ae:=rfl
@[simp]theorem ZuO(b):FZ (.bl b)=.ok b:=rfl
@[simp]theorem Ztp(i):FZ (.int i)=.ok (i != 0):=rfl
@[simp]theorem Zto:FZ .non=.ok Ae:=rfl
@[simp]theorem Zs7:FC []=.ok Aa:=rfl
@[simp]theorem NB(x r):FC (x::r)=(FZ x).bind λb=>(FC r).bind λc=>.ok (b&&c):=rfl
@[simp]theorem Zs6:IJ []=.ok Ae:=rfl
@[simp]theorem ZpR(x r):IJ (x::r)=(FZ x).bind λb=>(IJ r).bind λc=>.ok (b||c):=rfl
@[simp]theorem Zya(b)(d):GI b (.ok d)=.ok d:=by cases b<;>rfl
@[simp]theorem Zur(b):GI b .bad=.bad:=by cases b<;>rfl
@[simp]theorem Zuq(x):GI Aa (.exn x)=.exn x:=rfl
@[simp]theorem ZpN(r):GI Ae r=noX r:=rfl
@[simp]theorem ZwN(a:α):noX (.ok a)=.ok a:=rfl
@[simp]theorem ZwP:noX (.bad:R α)=.bad:=rfl
@[simp]theorem ZwO(x):noX (.exn x:R α)=.bad:=rfl
@[simp]theorem Zyk(b):DM (.bl b)=.ok b:=rfl
@[simp]theorem NY(b):EG (.int b)=.ok b:=rfl
@[simp]theorem Qv(b):Kw (.lst b)=.ok b:=rfl
@[simp]theorem Zs3(b):Cm (.lst b)=.ok b:=rfl
@[simp]theorem Zs2(b):Cm (.tup b)=.ok b:=rfl
@[simp]theorem sS(xs i):Ec (.lst xs) (.int i)=CN xs i:=rfl
@[simp]theorem sR(xs i):Ec (.tup xs) (.int i)=CN xs i:=rfl
@[simp]theorem ZAu(xs):biD .len [.lst xs]=.ok (.int xs.length):=rfl
@[simp]theorem ZAt(xs):biD .len [.tup xs]=.ok (.int xs.length):=rfl
@[simp]theorem ZAT(i):biD .abs [.int i]=.ok (.int (if i<0 then -i else i)):=rfl
@[simp]theorem Zzi(i j):biD .max [.int i,.int j]=.ok (.int (if i<j then j else i)):=rfl
@[simp]theorem Zzg(i j):biD .min [.int i,.int j]=.ok (.int (if j<i then j else i)):=rfl
@[simp]theorem ZAy(i):biD .int [.int i]=.ok (.int i):=rfl
@[simp]theorem ZAz(i):biD .int [.bl i]=.ok (.int (b2i i)):=rfl
@[simp]theorem Zzn(i):biD .list [.lst i]=.ok (.lst i):=rfl
@[simp]theorem Zzm(i):biD .list [.tup i]=.ok (.lst i):=rfl
@[simp]theorem ZuM(i):biD .tuple [.lst i]=.ok (.tup i):=rfl
@[simp]theorem ZuL(i):biD .tuple [.tup i]=.ok (.tup i):=rfl
@[simp]theorem tH(i):biD .all [.lst i]=(FC i).bind λb=>.ok (.bl b):=rfl
@[simp]theorem ZAS(i):biD .any [.lst i]=(IJ i).bind λb=>.ok (.bl b):=rfl
@[simp]theorem ZAR(i):biD .any [.tup i]=(IJ i).bind λb=>.ok (.bl b):=rfl
@[simp]theorem ZAi(i):biD .sum [.lst i]=(GD 0 i).bind λb=>.ok (.int b):=rfl
@[simp]theorem ZAh(i):biD .sum [.tup i]=(GD 0 i).bind λb=>.ok (.int b):=rfl
@[simp]theorem Ztw(i):biD .sorted [.lst i]=(RQ i).bind λb=>.ok (.lst b):=rfl
@[simp]theorem ZAj(xs k):biD .stp [.lst xs,.int k]=.ok (.lst (Uz k.toNat xs)):=rfl
@[simp]theorem ZAn(xs):biD .rvs [.lst xs]=.ok (.lst xs.reverse):=rfl
@[simp]theorem Zzk(xs):biD .lset [.lst xs]=TN xs:=rfl
@[simp]theorem ZyO(x y):biD .tmin [x,y]=mmD Ae x y:=rfl
@[simp]theorem Zz5(x y):biD .tlt [x,y]=Uw x y:=rfl
@[simp]theorem ZyP(x y):biD .tmax [x,y]=mmD Aa x y:=rfl
@[simp]theorem Zyb(xs x):biD .count [.lst xs,x]=if (flD 5 x&&xs.all (flD 5))=Aa then .ok (.int ((xs.filter λy=>eqD y x).length:Ag)) else .bad:=rfl
@[simp]theorem XY(xs lo hi):slD (.tup xs) lo hi=if (Gj xs.length 0 lo==0&&Gj xs.length xs.length hi==xs.length)=Aa then .bad else .ok (.tup (KA xs lo hi)):=rfl
@[simp]theorem ZA2(xs lo hi):slD (.lst xs) lo hi=.ok (.lst (KA xs lo hi)):=rfl
@[simp]theorem Zvk(d):slE .non d=.ok Af:=rfl
@[simp]theorem Zvl(k i):slE (.int k) (.int i)=.ok (Ab i):=rfl
@[simp]theorem Zvj(k i):slE (.var k) (.int i)=.ok (Ab i):=rfl
@[simp]theorem Zvm(op a b i):slE (.bin op a b) (.int i)=.ok (Ab i):=rfl
@[simp]theorem ZyV(op a i):slE (.un op a) (.int i)=.ok (Ab i):=rfl
@[simp]theorem ZyW(b as i):slE (.bi b as) (.int i)=.ok (Ab i):=rfl
@[simp]theorem Zxa(up ks):Hc up ks .non=if ks.any ET=Aa then .bad else .ok (.bl (ks.any λk=>kiD up k .non)):=rfl
@[simp]theorem Zzq(up ks b):Hc up ks (.bl b)=if ks.any ET=Aa then .bad else .ok (.bl (ks.any λk=>kiD up k (.bl b))):=rfl
@[simp]theorem Zxc(up ks b):Hc up ks (.int b)=if ks.any ET=Aa then .bad else .ok (.bl (ks.any λk=>kiD up k (.int b))):=rfl
@[simp]theorem Zw9(up ks b):Hc up ks (.str b)=if ks.any ET=Aa then .bad else .ok (.bl (ks.any λk=>kiD up k (.str b))):=rfl
@[simp]theorem Zw8(up ks b):Hc up ks (.tup b)=if ks.any ET=Aa then .bad else .ok (.bl (ks.any λk=>kiD up k (.tup b))):=rfl
@[simp]theorem Zxb(up ks b):Hc up ks (.lst b)=if ks.any ET=Aa then .bad else .ok (.bl (ks.any λk=>kiD up k (.lst b))):=rfl
@[simp]theorem Zxd(up ks c f):Hc up ks (.exc c f)=if ks.all ET=Aa then .ok (.bl (ks.any λk=>kiD up k (.exc c f))) else .bad:=rfl
@[simp]theorem Zuu(c):ET (.cls c)=Aa:=rfl
@[simp]theorem ZsB:ET .verr=Aa:=rfl
@[simp]theorem Zut:ET .int=Ae:=rfl
@[simp]theorem ZsD:ET .bool=Ae:=rfl
@[simp]theorem Zus:ET .str=Ae:=rfl
@[simp]theorem ZsC:ET .list=Ae:=rfl
@[simp]theorem ZpP:ET .tuple=Ae:=rfl
@[simp]theorem ZpJ(up i):kiD up .int (.int i)=Aa:=rfl
@[simp]theorem ZpI(up):kiD up .int .non=Ae:=rfl
@[simp]theorem Zor(up i):kiD up .bool (.int i)=Ae:=rfl
@[simp]theorem ZpH(up i):kiD up .int (.tup i)=Ae:=rfl
@[simp]theorem ZpL(up i):kiD up .bool (.bl i)=Aa:=rfl
@[simp]theorem Zoq(up):kiD up .bool .non=Ae:=rfl
@[simp]theorem Zop(up i):kiD up .list (.lst i)=Aa:=rfl
@[simp]theorem ZlP(up i):kiD up .tuple (.tup i)=Aa:=rfl
@[simp]theorem ZlQ(up):kiD up .tuple .non=Ae:=rfl
@[simp]theorem ZpK(up c k f):kiD up (.cls c) (.exc k f)=(up k).contains c:=rfl
@[simp]theorem Zoo(up k f):kiD up .verr (.exc k f)=Aa:=rfl
theorem Zh(xs:Ac D)(k:Ag)(h:k<xs.length):CN xs (k:Ad)=.ok (xs[k]):=by
 unfold CN plD;have h1:(0:Ad)<=k:=Int.natCast_nonneg k;have h2:(k:Ad)<(xs.length:Ag):=by omega
 rw[Ax h1,Ax h2];simp[h]
theorem N6{xs:Ac D}{i:Ad}{d:D}(h0:0<=i)(h:xs[i.toNat]?=Ab d):CN xs i=.ok d:=by
 unfold CN plD;obtain⟨h1,_⟩:=AU.mp h;rw[Ax h0,Ax (by omega)]
 dsimp only;rw[h]
section
variable(U:Gam)(Z:Rho)
@[simp]theorem Zt5:evSs U Z .nil=.next Z:=rfl
noncomputable def Fk(U:Gam)(ss:Ss)(o:O):O:=o.seq λZ'=>evSs U Z' ss
@[simp]theorem JW(s ss):evSs U Z (.cons s ss)=Fk U ss (evS U Z s):=rfl
@[simp]theorem fB(ss):Fk U ss (.next Z)=evSs U Z ss:=rfl
@[simp]theorem Zzz(ss d b):Fk U ss (.ret d b)=.ret d b:=rfl
@[simp]theorem ZzC(ss):Fk U ss (.brk Z)=.brk Z:=rfl
@[simp]theorem Zxp(ss):Fk U ss (.cont Z)=.cont Z:=rfl
@[simp]theorem ZzB(ss x):Fk U ss (.exn x Z)=.exn x Z:=rfl
@[simp]theorem ZzD(ss):Fk U ss .bad=.bad:=rfl
@[simp]theorem ZzA(ss)(c:Prop)[FF c](a b:O):Fk U ss (if c then a else b)=if c then Fk U ss a else Fk U ss b:=by split<;>rfl
@[simp]theorem kQ(o:O):Fk U .nil o=o:=by cases o<;>rfl
noncomputable def AQ(U:Gam)(t:Ag)(body:Ss):D->Rho->O:=λx Z'=>evSs U (Z'.set t (Ab (x,Ae))) body
noncomputable def whC(U:Gam)(c:E):Rho->R Ai:=λZ'=>(top Z' c (evE U Z' c)).bind BY
noncomputable def whB(U:Gam)(body:Ss):Rho->O:=λZ'=>evSs U Z' body
noncomputable def UA(U:Gam)(t:Ag)(body:Ss)(Z:Rho)(r:R (Ac D)):O:=O.of Z r λxs=>BH (AQ U t body) xs Z
@[simp]theorem Og(t body xs):UA U t body Z (.ok xs)=BH (AQ U t body) xs Z:=rfl
@[simp]theorem Zua:evS U Z .pass=.next Z:=rfl
@[simp]theorem ZxE(i e):evS U Z (.asg i Ae e)=O.of Z (evE U Z e) λd=>.next (Z.set i (Ab (d,Ae))):=rfl
@[simp]theorem Zub(e):evS U Z (.expr e)=O.of Z (evE U Z e) λ_=>.next Z:=rfl
@[simp]theorem Sc(e):evS U Z (.ret e)=O.of Z (top Z e (evE U Z e)) λd=>.ret d (CM U e&&G7 d||(match e with | .var i=>(match Z[i]? with|some (Ab (_,o))=>o|_=>Ae)|_=>Ae)):=rfl
@[simp]theorem ZtP(d):G6 (.tup d)=Ae:=rfl
@[simp]theorem ZtT(d):G6 (.int d)=Ae:=rfl
@[simp]theorem ZtQ(d):G6 (.str d)=Ae:=rfl
@[simp]theorem ZtS(d):G6 (.lst d)=Aa:=rfl
@[simp]theorem ZtR:G6 .non=Ae:=rfl
@[simp]theorem ZtM:G7 .non=Aa:=rfl
@[simp]theorem ZwM(b):G7 (.bl b)=Aa:=rfl
@[simp]theorem ZtO(i):G7 (.int i)=Aa:=rfl
@[simp]theorem ZtN(ds):G7 (.lst ds)=Aa:=rfl
@[simp]theorem ZtL(ds):G7 (.tup ds)=Ae:=rfl
theorem Zk(es):evS U Z (.retT es)=O.of Z (noX (evP U Z es)) λxs=>if xs.all Ku=Aa then .ret (.tup (xs.map (·.1))) Aa else .bad:=rfl
theorem L8(ts f as pre c a b k e):evS U Z (.blk ts f as pre c a b k e)=if (U.fr f&&FD Z as)=Aa then JG ts (evE U Z (.call f as)) k (λZ=>evSs U Z pre) (λZ=>evSs U Z a) (λZ=>evSs U Z b) (λZ=>(top Z c (evE U Z c)).bind BY) (λZ=>evE U Z e) Z else .bad:=rfl
@[simp]theorem Zt8:evS U Z .retN=.ret .non Ae:=rfl
@[simp]theorem Zxz(c a b):evS U Z (.ife c a b)=O.of Z ((top Z c (evE U Z c)).bind BY) λk=>if k=Aa then evSs U Z a else evSs U Z b:=rfl
@[simp]theorem N7(t it body):evS U Z (.fors t it body)=UA U t body Z (Fl U Z it):=rfl
noncomputable def D5(U:Gam)(ts:Ac Ag)(body:Ss):D->Rho->O:=λx Z'=>O.of Z' (FB ts x Z') λZ''=>evSs U Z'' body
noncomputable def T8(U:Gam)(ts:Ac Ag)(body:Ss)(Z:Rho)(r:R (Ac D)):O:=O.of Z r λxs=>BH (D5 U ts body) xs Z
@[simp]theorem Q7(t body xs):T8 U t body Z (.ok xs)=BH (D5 U t body) xs Z:=rfl
@[simp]theorem Rc(t it body):evS U Z (.forT t it body)=T8 U t body Z (Fl U Z it):=rfl
@[simp]theorem Zue(ts e):evS U Z (.asgT ts e)=O.of Z (evE U Z e) λd=>O.of Z (ME ts d Z) λZ'=>.next Z':=rfl
theorem Zl(i e):evS U Z (.asg i Aa e)=O.of Z (evE U Z e) λd=>if CM U e=Aa then (match d with
      |.lst xs=>.next (Z.set i (Ab (.lst xs,Aa)))
      | _=>.bad) else .bad:=rfl
noncomputable def setF(Z:Rho)(i:Ag):D->O
 |.lst xs=>.next (Z.set i (Ab (.lst xs,Aa)))
 |_=>.bad
@[simp]theorem Zy3(i xs):setF Z i (.lst xs)=.next (Z.set i (Ab (.lst xs,Aa))):=rfl
@[simp]theorem Zsi(i e):evS U Z (.asg i Aa e)=O.of Z (evE U Z e) λd=>if CM U e=Aa then setF Z i d else .bad:=by
 rw[Zl]
 congr 1
@[simp]theorem ZxF(i e):evS U Z (.app i e)=O.of Z (CD Z i) λxs=>O.of Z (evE U Z e) λd=>if B4 (xs.length+1)=Aa then .next (Z.set i (Ab (.lst (xs++[d]),Aa))) else .bad:=rfl
@[simp]theorem fJ(i e):evS U Z (.ext i e)=O.of Z (CD Z i) λxs=>O.of Z (evE U Z e) λd=>O.of Z (Kw d) λys=>if B4 (xs.length+ys.length)=Aa then .next (Z.set i (Ab (.lst (xs++ys),Aa))) else .bad:=rfl
@[simp]theorem Zuc(i k e):evS U Z (.dput i k e)=O.of Z (evE U Z e) λd=>O.of Z (Gk Z i) λxs=>O.of Z ((top Z k (evE U Z k)).bind EF) λj=>if B4 (xs.length+1)=Aa then .next (Z.set i (Ab (.dic (FA xs j d),Aa))) else .bad:=rfl
@[simp]theorem ZxA(i k e):evS U Z (.dsd i k e)=O.of Z (Gk Z i) λxs=>O.of Z ((top Z k (evE U Z k)).bind EF) λj=>O.of Z (evE U Z e) λd=>if B4 (xs.length+1)=Aa then .next (Z.set i (Ab (.dic (if (xs.any λp=>p.1==j)=Aa then xs else FA xs j d),Aa))) else .bad:=rfl
@[simp]theorem ZxB(i):evS U Z (.dnw i)=.next (Z.set i (Ab (.dic [],Aa))):=rfl
@[simp]theorem Zxy(i):evS U Z (.rev i)=O.of Z (CD Z i) λxs=>.next (Z.set i (Ab (.lst xs.reverse,Aa))):=rfl
@[simp]theorem ZxC(i):evS U Z (.clr i)=O.of Z (CD Z i) λ_=>.next (Z.set i (Ab (.lst [],Aa))):=rfl
theorem Oj(i k e):evS U Z (.put i k e)=O.of Z (evE U Z e) λd=>O.of Z (CD Z i) λxs=>O.of Z ((top Z k (evE U Z k)).bind EG) λj=>match plD xs.length j with
      |some n=>.next (Z.set i (Ab (.lst (xs.set n d),Aa)))
      |none=>.bad:=rfl
@[simp]theorem Zt6(body c x h):evS U Z (.tryx body c x h)=match evSs U Z body with
      | .exn y Z'=>if (U.up y.c).contains c=Aa then (match evSs U (Z'.set x (Ab (.exc y.c y.fs,Ae))) h with
          |.next Z''=>.next (Z''.set x Af)
          |.ret d f=>.ret d f
          | _=>.bad) else .bad
      |o=>o:=rfl
@[simp]theorem Zt7(body c x h c' h' els):evS U Z (.try2 body c x h c' h' els)=match evSs U Z body with
      |.exn y Z'=>if (U.up y.c).contains c=Aa then hdO x y Z' (λr=>evSs U r h) else if (U.up y.c).contains c'=Aa then hdO x y Z' (λr=>evSs U r h') else .bad
      |.next Z'=>evSs U Z' els
      |o=>o:=rfl
@[simp]theorem Zxx(c body):evS U Z (.whl c body)=Po (whC U c) (whB U body) TB Z:=rfl
@[simp]theorem Zt9(c as):evS U Z (.rais c as)=O.of Z (noX (evA U Z as)) λxs=>O.of Z (U.xn c xs) λx=>.exn x Z:=rfl
@[simp]theorem ZxD:evS U Z .brk=.brk Z:=rfl
@[simp]theorem Zud:evS U Z .cont=.cont Z:=rfl
end
end Ov
namespace Ov
open PySem
theorem Q8{body:D->Rho->O}(P:Rho->Prop):∀(xs:Ac D)(Z:Rho),P Z->(∀ x∈xs,∀ Z,P Z->∃ Z',body x Z=.next Z'/\P Z')->∃ Z',BH body xs Z=.next Z'/\P Z'
 |[],Z,h,_=>⟨Z,rfl,h⟩
 |x::xs,Z,h,k=>by
  obtain⟨Z1,e1,h1⟩:=k x Aw Z h;obtain⟨Z2,e2,h2⟩:=Q8 P xs Z1 h1 λy hy=>k y (Au _ hy)
  exact⟨Z2,by show (body x Z).turn _=_;rw[e1];exact e2,h2⟩
theorem Nx{body:D->Rho->O}(P:Ag->Rho->Prop):∀(xs:Ac D)(n:Ag)(Z:Rho),P n Z->(∀ i x,xs[i]?=Ab x->∀ Z,P (n+i) Z->∃ Z',body x Z=.next Z'/\P (n+i+1) Z')->∃ Z',BH body xs Z=.next Z'/\P (n+xs.length) Z'
 |[],n,Z,h,_=>⟨Z,rfl,h⟩
 |x::xs,n,Z,h,k=>by
  obtain⟨Z1,e1,h1⟩:=k 0 x rfl Z h;obtain⟨Z2,e2,h2⟩:=Nx P xs (n+1) Z1 h1 λi y hy Z hρ=>by
   have:=k (i+1) y (by simpa using hy) Z (by rw[show n+(i+1)=n+1+i by omega];exact hρ)
   rw[show n+(i+1)=n+1+i by omega]at this
   exact this
  exact⟨Z2,by show (body x Z).turn _=_;rw[e1];exact e2,by rw[show n+(x::xs).length=n+1+xs.length by simp;omega];exact h2⟩
theorem Zv(h:x∈Ce lo n):∃ k:Ag,k<n/\x=.int (lo+(k:Ad)):=by
 obtain⟨k,hk,e⟩:=Br.mp h;exact⟨k,A4.mp hk,e.symm⟩
theorem KP(lo:Ad)(n:Ag):(Ce lo n).length=n:=by simp[Ce]
theorem N5{i:Ag}(h:(Ce lo n)[i]?=Ab x):i<n/\x=.int (lo+(i:Ad)):=by
 have hl:=(AU.mp h).1;rw[KP]at hl;unfold Ce at h;rw[Dm,List.getElem?_range hl]at h;cases h;exact⟨hl,rfl⟩
noncomputable def Ss.take:Ag->Ss->Ss
 |0,_=>.nil
 |_,.nil=>.nil
 |n+1,.cons s ss=>.cons s (ss.take n)
noncomputable def Ss.drop:Ag->Ss->Ss
 |0,ss=>ss
 |_,.nil=>.nil
 |n+1,.cons _ ss=>ss.drop n
theorem Rb(U:Gam):∀(n:Ag)(ss:Ss)(Z:Rho),evSs U Z ss=Fk U (ss.drop n) (evSs U Z (ss.take n))
 |0,_,_=>rfl
 |_+1,.nil,_=>rfl
 |n+1,.cons s ss,Z=>by
  show (evS U Z s).seq (λZ'=>evSs U Z' ss)=Fk U (ss.drop n) ((evS U Z s).seq λZ'=>evSs U Z' (ss.take n))
  cases evS U Z s with
  |next Z'=>exact Rb U n ss Z'
  |_=>rfl
end Ov
end
section
namespace Ov
noncomputable def xfD:Ag->D->Ai
 |0,.int i=>decide (0<=i)&&decide (i<100)
 |n+1,.tup ds=>C7 ds.length 8&&ds.all (xfD n)
 |_,_=>Ae
noncomputable def mkX(c:Ag)(f:PySem.Str):Ac D->R Ex
 |[d]=>if (xfD 1 d||xfD 2 d)=Aa then .ok ⟨c,[(f,d)]⟩ else .bad
 |_=>.bad
end Ov
end
section
namespace OvC
open PySem Ov PyProof.Rows
noncomputable abbrev scr(ns:Ac Ad):D:=.lst (ns.map .int)
noncomputable abbrev sh(d:D):Sl:=Ab (d,Ae)
noncomputable abbrev si(i:Ad):Sl:=Ab (.int i,Ae)
def P4(p:Ad):Prop:=p=3\/p=5\/p=7\/p=11
theorem P4.pos{p}(h:P4 p):0<p:=by rcases h with rfl|rfl|rfl|rfl<;>decide
theorem P4.lo{p}(h:P4 p):3<=p:=by rcases h with rfl|rfl|rfl|rfl<;>decide
theorem P4.hi{p}(h:P4 p):p<=11:=by rcases h with rfl|rfl|rfl|rfl<;>decide
theorem Hu{i j:Ad}(h0:-18446744073709551616<i)(h1:i<18446744073709551616):DL i j=Aa:=by simp[DL];left;exact⟨h0,h1⟩
theorem Od{i j:Ad}(h0:-18446744073709551616<j)(h1:j<18446744073709551616):DL i j=Aa:=by simp[DL];right;exact⟨h0,h1⟩
noncomputable def OH:Df:=⟨2,Ae,(.cons (.ret (.bin .Mod (.var 1) (.var 0))) .nil)⟩
def Kj(U:Gam):Prop:=∀ p n:Ad,0<p->U.F 1 [.int p,.int n]=.ok (.int (n%p))
theorem iU(U:Gam)(p n:Ad)(h:0<p):OH.run U [.int p,.int n]=.ok (.int (n%p)):=by simp[OH,Df.run,BZ,h]
end OvC
end
namespace Ov
open PySem PySem.Spec PyProof.Rows L2
variable{A A' B:Ah->Prop}{H H' H1 H0:Hp}{a ka b l q:Ah}{xs:Ac V}{k' k:Ac Ad}{v:V}{d:D}{o:HO}{K:Fg}{Z:Rho}{Y:L2.St}{i n j:Ag}{Rp Rq:Hp->V->D->Prop}{r:R D}{Q:VK}{X:Cx}{e c tg iter elt:Al}{x:Ex}{g:D->D->R D}{op:Db}{h' h h2:AJ}{ys:Ac (Ac Ad×Ah×Aj)}{y u:Aj}{pos p p2 pos' pos2 spos tpos:AK}{pI:Pn}{s:Aq}{items2 its items:Bb Aj}{its2:Ac Aj}{es ifs:Ac Al}{fs fi:Rho->R (Ac D)}{Q':Ao Ad->Hp->Prop}{T:CG}{f fc:Rho->R Ai}{α:Type}{Fz:Ah->HO->Prop}{D':Ends}{as:D->Rho->R Rho}{up:Ag->Ac Ag}{prog P:AM}{w:Ay}{scope:B0}{env:Cf}{cl:Ac (Ak×Ah)}{N':Ac Ak}{ts:Ac Ag}{fp:Ac Ah}{tt:TT}{te:TE}{J:It}{wi:TI}{t:Ai}{ta:TA}
abbrev ClA:=Ag->Ao Ah
variable{CL:ClA}
def KL(K:Fg)(a:Ah)(xs:Ac V):Prop:=∃(o:Dp)(its:Bb Aj)(n:Ag),K.lookup a=Ab o/\o.cls=.type "list"/\o.dict=Af/\o.data=.seq its n/\its.size<=sizeLine/\A9 xs its.toList
def KT(K:Fg)(a:Ah)(xs:Ac V):Prop:=∃(o:Dp)(its:Bb Aj)(n:Ag),K.lookup a=Ab o/\o.cls=.type "tuple"/\o.data=.seq its n/\its.size<=sizeLine/\A9 xs its.toList
noncomputable abbrev TK(P:AM)(w:Ay):HeapKind P w (Ac Ad):=tupleKind (intKind P w)
def F0(P:AM)(w:Ay)(a:Ah)(xs:Ac (Ac Ad×Ah×Aj))(h:AJ):Prop:=(a==DS)=Ae/\∃ o es ep,h.get? a=Ab o/\o.ExactDict/\o.data=.dict es ep/\es.toList=xs.map (HV (TK P w))/\(xs.map (·.1)).Nodup
inductive ValE:Ac (Ac Ad×Ah×V)->Ac (Ac Ad×Ah×Aj)->Prop
 |nil:ValE [] []
 |cons {k:Ac Ad} {a:Ah} {v:V} {y:Aj} {xs:Ac (Ac Ad×Ah×V)} {ys:Ac (Ac Ad×Ah×Aj)}:Bv v y->ValE xs ys->ValE ((k,a,v)::xs) ((k,a,y)::ys)
def Dc(a:Ah)(xs:Ac (Ac Ad×Ah×V)):AJ->Prop:=λh=>∃ ys,ValE xs ys/\∀ P w,F0 P w a ys h
def Dx(K:Fg)(H:Hp)(A:Ah->Prop)(a:Ah)(k:Ac Ad):Prop:=∃ xs,(¬ A a\/KT K a xs)/\SqT K H a xs/\xs=k.map V.int
section
variable(K:Fg)(CL:ClA)(H:Hp)(A:Ah->Prop)
mutual
def Rep:V->D->Prop
 |v,.non=>v=.non
 |v,.bl b=>v=.bl b
 |v,.int i=>v=.int i
 |v,.str x=>v=.str x
 |v,.tup ds=>∃ a xs,v=.ref a/\(¬ A a\/KT K a xs)/\SqT K H a xs/\Reps xs ds
 |v,.lst ds=>∃ a xs,v=.ref a/\(¬ A a\/KL K a xs)/\SqL K H a xs/\Reps xs ds
 |v,.obj c fs=>∃ a C dx vs,v=.ref a/\¬ A a/\CL c=Ab C/\H a=Ab (.ins C dx vs)/\Repf vs fs
 |v,.dic kvs=>∃ a es,v=.ref a/\¬ A a/\H a=Ab (.ext (Dc a es))/\Repk es kvs
 |v,.exc c fs=>∃ a C φ,v=.ref a/\¬ A a/\CL c=Ab C/\H a=Ab (.ext φ)/\(∀ h,φ h->∃ o,h.get? a=Ab o/\o.cls=.ref C)/\(fs=[]\/∃ dx vs,¬ A dx/\H dx=Ab (.xd vs)/\Repf vs fs/\∀ h,φ h->∃ o,h.get? a=Ab o/\o.dict=Ab dx/\∃ us,o.data=.fields us)
def Reps:Ac V->Ac D->Prop
 |[],[]=>GW
 |v::vs,d::ds=>Rep v d/\Reps vs ds
 |_,_=>Bk
def Repf:Ac (Ak×V)->Ac (Ak×D)->Prop
 |[],[]=>GW
 |v::vs,d::ds=>Repp v d/\Repf vs ds
 |_,_=>Bk
def Repp:Ak×V->Ak×D->Prop
 |v,(n,d)=>v.1=n/\Rep v.2 d
def Repk:Ac (Ac Ad×Ah×V)->Ac (Ac Ad×D)->Prop
 |[],[]=>GW
 |v::vs,d::ds=>Repe v d/\Repk vs ds
 |_,_=>Bk
def Repe:Ac Ad×Ah×V->Ac Ad×D->Prop
 |v,(k,d)=>v.1=k/\Dx K H A v.2.1 k/\Rep v.2.2 d
end
def CP(a:Ah)(o:HO)(d:D):Prop:=(∃ xs ds,o=.lst xs/\d=.lst ds/\Reps K CL H A xs ds)\/∃ es kvs,o=.ext (Dc a es)/\d=.dic kvs/\Repk K CL H A es kvs
def Cv(v:V)(d:D):Prop:=Rep K CL H A v d\/∃ a o,v=.ref a/\H a=Ab o/\CP K CL H A a o d
end
def OwK(a:Ah)(o:HO):Prop:=(∃ xs,o=.lst xs)\/∃ es,o=.ext (Dc a es)
def Kp(A:Ah->Prop)(H H':Hp):Prop:=∀ b o,H b=Ab o->¬ A b->H' b=Ab o
def AOk(H:Hp)(A:Ah->Prop):Prop:=∀ a,A a->∃ o,H a=Ab o/\OwK a o
theorem Kp.of(h:AB H H'):Kp A H H':=λb o e _=>h b o e
theorem AOk.same(h:AOk H A)(s:AB H H'):AOk H' A:=λa ha=>let ⟨xs,e,k⟩:=h a ha;⟨xs,s _ _ e,k⟩
theorem AOk.new{p:Ah}(h:AOk H A)(e:H p=Af):¬ A p:=λha=>by
 obtain⟨xs,q,_⟩:=h p ha;rw[e]at q;cases q
section
variable{K:Fg}{CL:ClA}{H H':Hp}{A B:Ah->Prop}
theorem Ts{u:HO}(k:Kp A H H')(na:¬ A a)(h:Rd H a u):Rd H' a u:=by
 rcases h with h|⟨o,h⟩
 .exact .inl (k _ _ h na)
 .exact .inr ⟨o,k _ _ h na⟩
theorem Mc(k:Kp A H H')(na:¬ A a\/KL K a xs)(h:SqL K H a xs):SqL K H' a xs:=na.elim (λna=>h.imp (Ts k na) id) .inr
theorem Ke(k:Kp A H H')(na:¬ A a\/KT K a xs)(h:SqT K H a xs):SqT K H' a xs:=na.elim (λna=>h.imp (Ts k na) id) .inr
theorem Dx.kp(k:Kp A H H')(h:Dx K H A a k'):Dx K H' A a k':=by
 obtain⟨xs,na,s,e⟩:=h;exact⟨xs,na,Ke k na s,e⟩
theorem Dx.sub(k:∀ a,B a->A a)(h:Dx K H A a k'):Dx K H B a k':=by
 obtain⟨xs,na,s,e⟩:=h;exact⟨xs,na.imp (λna z=>na (k _ z)) id,s,e⟩
theorem Dx.wide(hp:∀ a,B a->A a\/H a=Af)(h:Dx K H A a k'):Dx K H B a k':=by
 obtain⟨xs,na,s,e⟩:=h;refine⟨xs,?_,s,e⟩;rcases s with s|s
 .refine na.imp (λna z=>(hp _ z).elim na λe=>?_) id
  rcases s with s|⟨o,s⟩<;>rw[e]at s<;>cases s
 .exact .inr s
mutual
theorem Rep.kp(k:Kp A H H'):∀{v:V}(d:D),Rep K CL H A v d->Rep K CL H' A v d
 |_,.non,h=>h
 |_,.bl _,h=>h
 |_,.int _,h=>h
 |_,.str _,h=>h
 |_,.dic kvs,h=>by
  obtain⟨a,es,e,na,s,r⟩:=h;exact⟨a,es,e,na,k _ _ s na,Repk.kp k kvs r⟩
 |_,.tup ds,h=>by
  obtain⟨a,xs,e,na,s,r⟩:=h;exact⟨a,xs,e,na,by first|exact Ke k na s|exact Mc k na s,Reps.kp k ds r⟩
 |_,.lst ds,h=>by
  obtain⟨a,xs,e,na,s,r⟩:=h;exact⟨a,xs,e,na,by first|exact Ke k na s|exact Mc k na s,Reps.kp k ds r⟩
 |_,.obj c fs,h=>by
  obtain⟨a,C,dx,vs,e,na,c,s,r⟩:=h;exact⟨a,C,dx,vs,e,na,c,k _ _ s na,Repf.kp k fs r⟩
 |_,.exc c fs,h=>by
  obtain⟨a,C,φ,e,na,c,s,p,q⟩:=h;refine⟨a,C,φ,e,na,c,k _ _ s na,p,q.imp id ?_⟩;rintro⟨dx,vs,nx,s2,r,z⟩;exact⟨dx,vs,nx,k _ _ s2 nx,Repf.kp k fs r,z⟩
theorem Reps.kp(k:Kp A H H'):∀{vs:Ac V}(ds:Ac D),Reps K CL H A vs ds->Reps K CL H' A vs ds
 |[],[],h=>h
 |_::_,d::ds,h=>⟨Rep.kp k d h.1,Reps.kp k ds h.2⟩
 |[],_::_,h=>h.elim
 |_::_,[],h=>h.elim
theorem Repf.kp(k:Kp A H H'):∀{vs:Ac (Ak×V)}(ds:Ac (Ak×D)),Repf K CL H A vs ds->Repf K CL H' A vs ds
 |[],[],h=>h
 |_::_,d::ds,h=>⟨Repp.kp k d h.1,Repf.kp k ds h.2⟩
 |[],_::_,h=>h.elim
 |_::_,[],h=>h.elim
theorem Repp.kp(k:Kp A H H'):∀{v:Ak×V}(d:Ak×D),Repp K CL H A v d->Repp K CL H' A v d
 |_,(_,d),h=>⟨h.1,Rep.kp k d h.2⟩
theorem Repk.kp(k:Kp A H H'):∀{vs:Ac (Ac Ad×Ah×V)}(ds:Ac (Ac Ad×D)),Repk K CL H A vs ds->Repk K CL H' A vs ds
 |[],[],h=>h
 |_::_,d::ds,h=>⟨Repe.kp k d h.1,Repk.kp k ds h.2⟩
 |[],_::_,h=>h.elim
 |_::_,[],h=>h.elim
theorem Repe.kp(k:Kp A H H'):∀{v:Ac Ad×Ah×V}(d:Ac Ad×D),Repe K CL H A v d->Repe K CL H' A v d
 |_,(_,d),h=>⟨h.1,Dx.kp k h.2.1,Rep.kp k d h.2.2⟩
end
mutual
theorem Rep.sub(k:∀ a,B a->A a):∀{v:V}(d:D),Rep K CL H A v d->Rep K CL H B v d
 |_,.non,h=>h
 |_,.bl _,h=>h
 |_,.int _,h=>h
 |_,.str _,h=>h
 |_,.dic kvs,h=>by
  obtain⟨a,es,e,na,s,r⟩:=h;exact⟨a,es,e,λz=>na (k _ z),s,Repk.sub k kvs r⟩
 |_,.tup ds,h=>by
  obtain⟨a,xs,e,na,s,r⟩:=h;exact⟨a,xs,e,na.imp (λna z=>na (k _ z)) id,s,Reps.sub k ds r⟩
 |_,.lst ds,h=>by
  obtain⟨a,xs,e,na,s,r⟩:=h;exact⟨a,xs,e,na.imp (λna z=>na (k _ z)) id,s,Reps.sub k ds r⟩
 |_,.obj c fs,h=>by
  obtain⟨a,C,dx,vs,e,na,c,s,r⟩:=h;exact⟨a,C,dx,vs,e,λz=>na (k _ z),c,s,Repf.sub k fs r⟩
 |_,.exc c fs,h=>by
  obtain⟨a,C,φ,e,na,c,s,p,q⟩:=h;refine⟨a,C,φ,e,λz=>na (k _ z),c,s,p,q.imp id ?_⟩
  rintro⟨dx,vs,nx,s2,r,z⟩;exact⟨dx,vs,λz=>nx (k _ z),s2,Repf.sub k fs r,z⟩
theorem Reps.sub(k:∀ a,B a->A a):∀{vs:Ac V}(ds:Ac D),Reps K CL H A vs ds->Reps K CL H B vs ds
 |[],[],h=>h
 |_::_,d::ds,h=>⟨Rep.sub k d h.1,Reps.sub k ds h.2⟩
 |[],_::_,h=>h.elim
 |_::_,[],h=>h.elim
theorem Repf.sub(k:∀ a,B a->A a):∀{vs:Ac (Ak×V)}(ds:Ac (Ak×D)),Repf K CL H A vs ds->Repf K CL H B vs ds
 |[],[],h=>h
 |_::_,d::ds,h=>⟨Repp.sub k d h.1,Repf.sub k ds h.2⟩
 |[],_::_,h=>h.elim
 |_::_,[],h=>h.elim
theorem Repp.sub(k:∀ a,B a->A a):∀{v:Ak×V}(d:Ak×D),Repp K CL H A v d->Repp K CL H B v d
 |_,(_,d),h=>⟨h.1,Rep.sub k d h.2⟩
theorem Repk.sub(k:∀ a,B a->A a):∀{vs:Ac (Ac Ad×Ah×V)}(ds:Ac (Ac Ad×D)),Repk K CL H A vs ds->Repk K CL H B vs ds
 |[],[],h=>h
 |_::_,d::ds,h=>⟨Repe.sub k d h.1,Repk.sub k ds h.2⟩
 |[],_::_,h=>h.elim
 |_::_,[],h=>h.elim
theorem Repe.sub(k:∀ a,B a->A a):∀{v:Ac Ad×Ah×V}(d:Ac Ad×D),Repe K CL H A v d->Repe K CL H B v d
 |_,(_,d),h=>⟨h.1,Dx.sub k h.2.1,Rep.sub k d h.2.2⟩
end
mutual
theorem Rep.wide(hp:∀ a,B a->A a\/H a=Af):∀{v:V}(d:D),Rep K CL H A v d->Rep K CL H B v d
 |_,.non,h=>h
 |_,.bl _,h=>h
 |_,.int _,h=>h
 |_,.str _,h=>h
 |_,.dic kvs,h=>by
  obtain⟨a,es,e,na,s,r⟩:=h;exact⟨a,es,e,(λz=>(hp _ z).elim na λe=>by rw[e]at s;cases s),s,Repk.wide hp kvs r⟩
 |_,.tup ds,h=>by
  obtain⟨a,xs,e,na,s,r⟩:=h;refine⟨a,xs,e,?_,s,Reps.wide hp ds r⟩;rcases s with s|s
  .refine na.imp (λna z=>(hp _ z).elim na λe=>?_) id
   rcases s with s|⟨o,s⟩<;>rw[e]at s<;>cases s
  .exact .inr s
 |_,.lst ds,h=>by
  obtain⟨a,xs,e,na,s,r⟩:=h;refine⟨a,xs,e,?_,s,Reps.wide hp ds r⟩;rcases s with s|s
  .refine na.imp (λna z=>(hp _ z).elim na λe=>?_) id
   rcases s with s|⟨o,s⟩<;>rw[e]at s<;>cases s
  .exact .inr s
 |_,.obj c fs,h=>by
  obtain⟨a,C,dx,vs,e,na,c,s,r⟩:=h;exact⟨a,C,dx,vs,e,(λz=>(hp _ z).elim na λe=>by rw[e]at s;cases s),c,s,Repf.wide hp fs r⟩
 |_,.exc c fs,h=>by
  obtain⟨a,C,φ,e,na,c,s,p,q⟩:=h;refine⟨a,C,φ,e,(λz=>(hp _ z).elim na λe=>by rw[e]at s;cases s),c,s,p,q.imp id ?_⟩
  rintro⟨dx,vs,nx,s2,r,z⟩;exact⟨dx,vs,(λz=>(hp _ z).elim nx λe=>by rw[e]at s2;cases s2),s2,Repf.wide hp fs r,z⟩
theorem Reps.wide(hp:∀ a,B a->A a\/H a=Af):∀{vs:Ac V}(ds:Ac D),Reps K CL H A vs ds->Reps K CL H B vs ds
 |[],[],h=>h
 |_::_,d::ds,h=>⟨Rep.wide hp d h.1,Reps.wide hp ds h.2⟩
 |[],_::_,h=>h.elim
 |_::_,[],h=>h.elim
theorem Repf.wide(hp:∀ a,B a->A a\/H a=Af):∀{vs:Ac (Ak×V)}(ds:Ac (Ak×D)),Repf K CL H A vs ds->Repf K CL H B vs ds
 |[],[],h=>h
 |_::_,d::ds,h=>⟨Repp.wide hp d h.1,Repf.wide hp ds h.2⟩
 |[],_::_,h=>h.elim
 |_::_,[],h=>h.elim
theorem Repp.wide(hp:∀ a,B a->A a\/H a=Af):∀{v:Ak×V}(d:Ak×D),Repp K CL H A v d->Repp K CL H B v d
 |_,(_,d),h=>⟨h.1,Rep.wide hp d h.2⟩
theorem Repk.wide(hp:∀ a,B a->A a\/H a=Af):∀{vs:Ac (Ac Ad×Ah×V)}(ds:Ac (Ac Ad×D)),Repk K CL H A vs ds->Repk K CL H B vs ds
 |[],[],h=>h
 |_::_,d::ds,h=>⟨Repe.wide hp d h.1,Repk.wide hp ds h.2⟩
 |[],_::_,h=>h.elim
 |_::_,[],h=>h.elim
theorem Repe.wide(hp:∀ a,B a->A a\/H a=Af):∀{v:Ac Ad×Ah×V}(d:Ac Ad×D),Repe K CL H A v d->Repe K CL H B v d
 |_,(_,d),h=>⟨h.1,Dx.wide hp h.2.1,Rep.wide hp d h.2.2⟩
end
theorem Rep.same(s:AB H H')(h:Rep K CL H A v d):Rep K CL H' A v d:=Rep.kp (Kp.of s) d h
theorem Reps.same{v:Ac V}{d:Ac D}(s:AB H H')(h:Reps K CL H A v d):Reps K CL H' A v d:=Reps.kp (Kp.of s) d h
theorem CP.map(f:∀{vs:Ac V}{ds:Ac D},Reps K CL H A vs ds->Reps K CL H' A' vs ds)(g:∀{vs:Ac (Ac Ad×Ah×V)}{ds:Ac (Ac Ad×D)},Repk K CL H A vs ds->Repk K CL H' A' vs ds)(h:CP K CL H A a o d):CP K CL H' A' a o d:=
 h.imp (λ⟨xs,ds,e1,e2,r⟩=>⟨xs,ds,e1,e2,f r⟩) λ⟨xs,ds,e1,e2,r⟩=>⟨xs,ds,e1,e2,g r⟩
theorem CP.kp{a:Ah}{o:HO}{d:D}(k:Kp A H H')(h:CP K CL H A a o d):CP K CL H' A a o d:=h.map (Reps.kp k _) (Repk.kp k _)
theorem CP.sub{a:Ah}{o:HO}{d:D}(k:∀ a,B a->A a)(h:CP K CL H A a o d):CP K CL H B a o d:=h.map (Reps.sub k _) (Repk.sub k _)
theorem CP.wide{a:Ah}{o:HO}{d:D}(k:∀ a,B a->A a\/H a=Af)(h:CP K CL H A a o d):CP K CL H B a o d:=h.map (Reps.wide k _) (Repk.wide k _)
theorem CP.same(s:AB H H')(h:CP K CL H A a o d):CP K CL H' A a o d:=h.kp (Kp.of s)
theorem CP.owk(h:CP K CL H A a o d):OwK a o:=h.imp (λ⟨xs,_,e,_⟩=>⟨xs,e⟩) λ⟨xs,_,e,_⟩=>⟨xs,e⟩
theorem CP.lst{ds:Ac D}(h:Reps K CL H A xs ds):CP K CL H A a (.lst xs) (.lst ds):=.inl ⟨xs,ds,rfl,rfl,h⟩
theorem CP.dic{xs:Ac (Ac Ad×Ah×V)}{ds:Ac (Ac Ad×D)}(h:Repk K CL H A xs ds):CP K CL H A a (.ext (Dc a xs)) (.dic ds):=.inr ⟨xs,ds,rfl,rfl,h⟩
theorem CP.lst_of{ds:Ac D}(h:CP K CL H A a o (.lst ds)):∃ xs,o=.lst xs/\Reps K CL H A xs ds:=by
 rcases h with ⟨xs,ds',e,e2,r⟩|⟨_,_,_,e,_⟩
 .cases e2;exact⟨xs,e,r⟩
 .cases e
theorem CP.dic_of{ds:Ac (Ac Ad×D)}(h:CP K CL H A a o (.dic ds)):∃ xs,o=.ext (Dc a xs)/\Repk K CL H A xs ds:=by
 rcases h with ⟨_,_,_,e,_⟩|⟨xs,ds',e,e2,r⟩
 .cases e
 .cases e2;exact⟨xs,e,r⟩
theorem Cv.same{v:V}{d:D}(s:AB H H')(h:Cv K CL H A v d):Cv K CL H' A v d:=by
 rcases h with h|⟨a,o,e,q,r⟩
 .exact .inl (h.same s)
 .exact .inr ⟨a,o,e,s _ _ q,r.same s⟩
theorem Reps.length:∀{vs:Ac V}{ds:Ac D},Reps K CL H A vs ds->vs.length=ds.length
 |[],[],_=>rfl
 |_::_,_::_,h=>congrArg (· + 1) (Reps.length h.2)
 |[],_::_,h=>h.elim
 |_::_,[],h=>h.elim
theorem Reps.append:∀{vs ws:Ac V}{ds es:Ac D},Reps K CL H A vs ds->Reps K CL H A ws es->Reps K CL H A (vs++ws) (ds++es)
 |[],_,[],_,_,h=>h
 |_::_,_,_::_,_,h,g=>⟨h.1,Reps.append h.2 g⟩
 |[],_,_::_,_,h,_=>h.elim
 |_::_,_,[],_,h,_=>h.elim
theorem Reps.get:∀{vs:Ac V}{ds:Ac D}{i:Ag}{d:D},Reps K CL H A vs ds->ds[i]?=Ab d->∃ v,vs[i]?=Ab v/\Rep K CL H A v d
 |[],[],_,_,_,e=>by simp at e
 |v::_,_::_,0,_,h,e=>by simp at e;subst e;exact⟨v,rfl,h.1⟩
 |_::_,_::_,i+1,_,h,e=>by
  obtain⟨v,q,r⟩:=Reps.get (i:=i) h.2 (by simpa using e)
  exact⟨v,by simpa using q,r⟩
 |[],_::_,_,_,h,_=>h.elim
 |_::_,[],_,_,h,_=>h.elim
theorem Reps.take:∀{vs:Ac V}{ds:Ac D}(n:Ag),Reps K CL H A vs ds->Reps K CL H A (vs.take n) (ds.take n)
 |_,_,0,_=>trivial
 |[],[],_+1,_=>trivial
 |_::_,_::_,n+1,h=>⟨h.1,Reps.take n h.2⟩
 |[],_::_,_+1,h=>h.elim
 |_::_,[],_+1,h=>h.elim
theorem Reps.drop:∀{vs:Ac V}{ds:Ac D}(n:Ag),Reps K CL H A vs ds->Reps K CL H A (vs.drop n) (ds.drop n)
 |_,_,0,h=>h
 |[],[],_+1,_=>trivial
 |_::_,_::_,n+1,h=>Reps.drop n h.2
 |[],_::_,_+1,h=>h.elim
 |_::_,[],_+1,h=>h.elim
theorem Reps.set{x:V}{e:D}(r:Rep K CL H A x e):∀{vs:Ac V}{ds:Ac D}(n:Ag),Reps K CL H A vs ds->Reps K CL H A (vs.set n x) (ds.set n e)
 |[],[],_,_=>trivial
 |_::_,_::_,0,h=>⟨r,h.2⟩
 |_::_,_::_,n+1,h=>⟨h.1,Reps.set r n h.2⟩
 |[],_::_,_,h=>h.elim
 |_::_,[],_,h=>h.elim
end
structure Good (K:Fg) (CL:ClA) (A:Ah->Prop) (Z:Rho) (Y:L2.St) (H:Hp):Prop where
 sh:∀(i:Ag)(d:D),Z[i]?=Ab (Ab (d,Ae))->∃ v,Y[i]?=Ab (Ab v)/\Rep K CL H A v d
 ow:∀(i:Ag)(d:D),Z[i]?=Ab (Ab (d,Aa))->∃ a o,Y[i]?=Ab (Ab (.ref a))/\A a/\H a=Ab o/\CP K CL H A a o d
 len:Z.length=Y.length
theorem Good.same{K:Fg}{CL:ClA}{A:Ah->Prop}{Z:Rho}{Y:L2.St}{H H':Hp}(g:Good K CL A Z Y H)(s:AB H H'):Good K CL A Z Y H':=
 ⟨λi d e=>let ⟨v,q,r⟩:=g.sh i d e;⟨v,q,r.same s⟩,λi d e=>let ⟨a,o,q,na,h,r⟩:=g.ow i d e;⟨a,o,q,na,s _ _ h,r.same s⟩,g.len⟩
theorem Good.owL(g:Good K CL A Z Y H){ds:Ac D}(e:Z[i]?=Ab (Ab (.lst ds,Aa))):∃ a xs ds',Y[i]?=Ab (Ab (.ref a))/\D.lst ds=.lst ds'/\A a/\H a=Ab (.lst xs)/\Reps K CL H A xs ds':=by
 obtain⟨a,o,q,na,h,r⟩:=g.ow i _ e;obtain⟨xs,rfl,r'⟩:=r.lst_of;exact⟨a,xs,ds,q,rfl,na,h,r'⟩
theorem Good.owK(g:Good K CL A Z Y H){ds:Ac (Ac Ad×D)}(e:Z[i]?=Ab (Ab (.dic ds,Aa))):∃ a xs,Y[i]?=Ab (Ab (.ref a))/\A a/\H a=Ab (.ext (Dc a xs))/\Repk K CL H A xs ds:=by
 obtain⟨a,o,q,na,h,r⟩:=g.ow i _ e;obtain⟨xs,rfl,r'⟩:=r.dic_of;exact⟨a,xs,q,na,h,r'⟩
abbrev XW:=Ex->Hp->Prop
variable{W:XW}
def Bf(Rp:Hp->V->D->Prop)(W:XW)(H:Hp)(r:R D)(Q:VK):Prop:=match r with
  |.ok d=>∀ v H',AB H H'->Rp H' v d->Q v H'
  |.exn x=>∀ H',AB H H'->W x H'
  |.bad=>Bk
def G5(Rp:Hp->Ac V->Ac D->Prop)(W:XW)(H:Hp)(r:R (Ac D))(Q:Ac V->Hp->Prop):Prop:=match r with
  |.ok d=>∀ v H',AB H H'->Rp H' v d->Q v H'
  |.exn x=>∀ H',AB H H'->W x H'
  |.bad=>Bk
def C1(W:XW)(H:Hp)(r:R Ai)(Q:Ai->Hp->Prop):Prop:=match r with
  |.ok b=>∀ H',AB H H'->Q b H'
  |.exn x=>∀ H',AB H H'->W x H'
  |.bad=>Bk
theorem Bf.same(s:AB H H')(h:Bf Rp W H r Q):Bf Rp W H' r Q:=by
 cases r with
 |ok d=>exact λv H2 s2 q=>h v H2 (s.trans s2) q
 |exn x=>exact λH2 s2=>h H2 (s.trans s2)
 |bad=>exact h
theorem C1.same{r:R Ai}{Q:Ai->Hp->Prop}(s:AB H H')(h:C1 W H r Q):C1 W H' r Q:=by
 cases r with
 |ok d=>exact λH2 s2=>h H2 (s.trans s2)
 |exn x=>exact λH2 s2=>h H2 (s.trans s2)
 |bad=>exact h
theorem Bf.bind{f:D->R D}{Q':VK}(h:Bf Rq W H (r.bind f) Q)(k:∀ d v H',r=.ok d->AB H H'->Rp H' v d->Bf Rq W H' (f d) Q->Q' v H'):Bf Rp W H r Q':=by
 cases r with
 |ok d=>exact λv H2 s2 q=>k d v H2 rfl s2 q (Bf.same s2 h)
 |exn x=>exact h
 |bad=>exact h
section
variable(X:Cx)(CL:ClA)(W:XW)
def SE(e:Al)(f:Rho->R D):Prop:=∀ A,PE X e (λY H Q=>AOk H A/\∃ Z,Good X.K CL A Z Y H/\Bf (λH=>Rep X.K CL H A) W H (f Z) Q)
def ST(e:Al)(f:Rho->R D):Prop:=∀ A,PE X e (λY H Q=>AOk H A/\∃ Z,Good X.K CL A Z Y H/\Bf (λH=>Cv X.K CL H A) W H (f Z) Q)
def SB(e:Al)(f:Rho->R Ai):Prop:=∀ A,PT X e (λY H Q=>AOk H A/\∃ Z,Good X.K CL A Z Y H/\C1 W H (f Z) Q)
def SA(es:Ac Al)(f:Rho->R (Ac D)):Prop:=∀ A,PA X es (λY H Q=>AOk H A/\∃ Z,Good X.K CL A Z Y H/\G5 (λH=>Reps X.K CL H A) W H (f Z) Q)
end
theorem PE.weak{t t':TE}(h:PE X e t)(k:∀ Y H Q,t' Y H Q->t Y H Q):PE X e t':=λpI s Y H Q I q=>h pI s Y H Q I (k _ _ _ q)
theorem PT.weak{t t':TT}(h:PT X e t)(k:∀ Y H Q,t' Y H Q->t Y H Q):PT X e t':=λpI s Y H Q I q=>h pI s Y H Q I (k _ _ _ q)
theorem PA.weak{e:Ac Al}{t t':TA}(h:PA X e t)(k:∀ Y H Q,t' Y H Q->t Y H Q):PA X e t':=λpos pI s Y H Q I q=>h pos pI s Y H Q I (k _ _ _ q)
noncomputable def OpD(X:Cx)(CL:ClA)(W:XW)(f:Aj->Aj->Sem Aj)(g:D->D->R D):Prop:=
 ∀ A,OpR X f (λx y H Q=>AOk H A/\∃ dx dy,Cv X.K CL H A x dx/\Cv X.K CL H A y dy/\Bf (λH=>Rep X.K CL H A) W H (g dx dy) Q)
section
variable{X:Cx}{CL:ClA}{W:XW}{a b c:Al}{fa fb fc:Rho->R D}{pos:AK}
theorem SE.st(h:SE X CL W a fa):ST X CL W a fa:=λA=>PE.weak (h A) λY H Q ⟨hA,Z,g,p⟩=>⟨hA,Z,g,by
 cases e:fa Z with
 |ok d=>rw[e]at p;exact λv H' s r=>p v H' s (.inl r)
 |exn x=>rw[e]at p;exact p
 | bad=>rw[e]at p;exact p⟩
theorem SE.congr{f g:Rho->R D}(h:SE X CL W a f)(e:∀ Z,g Z=f Z):SE X CL W a g:=λA=>PE.weak (h A) λY H Q ⟨hA,Z,q,p⟩=>⟨hA,Z,q,by rw[<-e];exact p⟩
theorem MA(h:PE X a (tC v))(r:∀ H A,AOk H A->Rep X.K CL H A v d):SE X CL W a (λ_=>.ok d):=λA=>PE.weak h λY H Q ⟨hA,Z,g,p⟩=>p v H (AB.refl H) (r H A hA)
theorem jK{i j}:SE X CL W (.Constant (.int i) j pos) (λ_=>.ok (.int i)):=MA SJ λ_ _ _=>rfl
theorem pG{b j}:SE X CL W (.Constant (.bool b) j pos) (λ_=>.ok (.bl b)):=MA sD λ_ _ _=>rfl
theorem jI{j}:SE X CL W (.Constant .none j pos) (λ_=>.ok .non):=MA mB λ_ _ _=>rfl
theorem jG{x j}:SE X CL W (.Constant (.str x) j pos) (λ_=>.ok (.str x)):=MA lX λ_ _ _=>rfl
theorem bT(h:Fi Z i=.ok d):Z[i]?=Ab (Ab (d,Ae)):=by
 unfold Fi at h;split at h
 .rename_i e;cases h;exact e
 .cases h
theorem N2(h:DT Z i=.ok d):∃ o,Z[i]?=Ab (Ab (d,o)):=by
 unfold DT at h;split at h
 .rename_i e;cases h;exact⟨_,e⟩
 .cases h
theorem Y_6(h:Fi Z i=.exn x):Bk:=by
 unfold Fi at h;split at h<;>cases h
theorem NL(h:DT Z i=.exn x):Bk:=by
 unfold DT at h;split at h<;>cases h
theorem jE(h:PE X a (Gi i)):SE X CL W a (λZ=>Fi Z i):=λA=>PE.weak h λY H Q ⟨hA,Z,g,p⟩=>by
 dsimp only at p;cases e:Fi Z i with
 |ok d=>
  rw[e]at p;obtain⟨v,q,r⟩:=g.sh i d (bT e);exact⟨v,q,p v H (AB.refl H) r⟩
 |exn x=>exact(Y_6 e).elim
 |bad=>rw[e]at p;exact p.elim
theorem Th(h:PE X a (Gi i)):ST X CL W a (λZ=>DT Z i):=λA=>PE.weak h λY H Q ⟨hA,Z,g,p⟩=>by
 dsimp only at p;cases e:DT Z i with
 |ok d=>
  rw[e]at p;obtain⟨o,e⟩:=N2 e;cases o with
  |false=>
   obtain⟨v,q,r⟩:=g.sh i d e;exact⟨v,q,p v H (AB.refl H) (.inl r)⟩
  |true=>
   obtain⟨x,o,q,ha,hh,r⟩:=g.ow i d e;exact⟨_,q,p _ H (AB.refl H) (.inr ⟨x,o,rfl,hh,r⟩)⟩
 |exn x=>exact(NL e).elim
 |bad=>rw[e]at p;exact p.elim
theorem op2(h:AOk H A/\∃ Z,Good X.K CL A Z Y H/\Bf Rq W H ((fa Z).bind λx=>(fb Z).bind λy=>g x y) Q):AOk H A/\∃ Z,Good X.K CL A Z Y H/\Bf (λH=>Cv X.K CL H A) W H (fa Z) (λx H1=>AOk H1 A/\∃ Z,Good X.K CL A Z Y H1/\Bf (λH=>Cv X.K CL H A) W H1 (fb Z) (λy H2=>AOk H2 A/\∃ dx dy,Cv X.K CL H2 A x dx/\Cv X.K CL H2 A y dy/\Bf Rq W H2 (g dx dy) Q)):=by
 obtain⟨hA,Z,gd,p⟩:=h;refine⟨hA,Z,gd,Bf.bind p λdx x H1 _ s1 r1 p1=>⟨hA.same s1,Z,gd.same s1,Bf.bind p1 λdy y H2 _ s2 r2 p2=>⟨(hA.same s1).same s2,dx,dy,r1.same s2,r2,p2⟩⟩⟩
theorem Sz{op:Fu}(ho:OpD X CL W (B1 op) g)(ha:ST X CL W a fa)(hb:ST X CL W b fb):SE X CL W (.BinOp a op b pos) (λZ=>(fa Z).bind λx=>(fb Z).bind λy=>g x y):=
 λA=>PE.weak (TW (ho A) (ha A) (hb A)) λY H Q h=>op2 h
theorem jM(ho:OpD X CL W (B9 op) g)(ha:ST X CL W a fa)(hb:ST X CL W b fb)(hm:Gw op b=Ae):SE X CL W (.Compare a [op] [b] pos) (λZ=>(fa Z).bind λx=>(fb Z).bind λy=>g x y):=
 λA=>PE.weak (cS (ho A) (ha A) (hb A) hm) λY H Q h=>op2 h
theorem Cv.int_of{i:Ad}(h:Cv K CL H A v (.int i)):v=.int i:=by
 rcases h with h|⟨_,_,_,_,⟨_,_,_,e,_⟩|⟨_,_,_,e,_⟩⟩
 .exact h
 .cases e
 .cases e
theorem Cv.str_of{i:Ak}(h:Cv K CL H A v (.str i)):v=.str i:=by
 rcases h with h|⟨_,_,_,_,⟨_,_,_,e,_⟩|⟨_,_,_,e,_⟩⟩
 .exact h
 .cases e
 .cases e
theorem Cv.bl_of{i:Ai}(h:Cv K CL H A v (.bl i)):v=.bl i:=by
 rcases h with h|⟨_,_,_,_,⟨_,_,_,e,_⟩|⟨_,_,_,e,_⟩⟩
 .exact h
 .cases e
 .cases e
theorem Cv.non_of(h:Cv K CL H A v .non):v=.non:=by
 rcases h with h|⟨_,_,_,_,⟨_,_,_,e,_⟩|⟨_,_,_,e,_⟩⟩
 .exact h
 .cases e
 .cases e
theorem Cv.lst_of{K:Fg}{H:Hp}{A:Ah->Prop}{v:V}{ds:Ac D}(h:Cv K CL H A v (.lst ds)):∃ a xs,v=.ref a/\SqL K H a xs/\Reps K CL H A xs ds:=by
 rcases h with ⟨a,xs,e,_,s,r⟩|⟨a,o,rfl,s,r⟩
 .exact⟨a,xs,e,s,r⟩
 .obtain⟨xs,rfl,r'⟩:=r.lst_of;exact⟨a,xs,rfl,SqL.of s,r'⟩
theorem Cv.dic_of{K:Fg}{H:Hp}{A:Ah->Prop}{v:V}{ds:Ac (Ac Ad×D)}(h:Cv K CL H A v (.dic ds)):∃ a es,v=.ref a/\H a=Ab (.ext (Dc a es))/\Repk K CL H A es ds:=by
 rcases h with ⟨a,xs,e,_,s,r⟩|⟨a,o,rfl,s,r⟩
 .exact⟨a,xs,e,s,r⟩
 .obtain⟨xs,rfl,r'⟩:=r.dic_of;exact⟨a,xs,rfl,s,r'⟩
theorem Cv.tup_of{ds:Ac D}(h:Cv K CL H A v (.tup ds)):∃ a xs,v=.ref a/\(¬ A a\/KT K a xs)/\SqT K H a xs/\Reps K CL H A xs ds:=by
 rcases h with ⟨a,xs,e,n,s,r⟩|⟨_,_,_,_,⟨_,_,_,e,_⟩|⟨_,_,_,e,_⟩⟩
 .exact⟨a,xs,e,n,s,r⟩
 .cases e
 .cases e
theorem gI{i j:Ad}(h:DL i j=Aa):MP i j:=by
 unfold DL at h;simp only[Ca,Ap,AW]at h;unfold MP;omega
theorem RZ{a:Ad}(h:a.natAbs<2 ^ 2000):VR a<=2 ^ 20:=by
 unfold VR;split
 .omega
 .rename_i hz;have h0:a.natAbs≠0:=by intro z;exact hz (by rw[Int.natAbs_eq_zero.mp z];rfl)
  have:=(Nat.log2_lt h0).mpr h;omega
theorem gH{i j:Ad}(h:(DL i j||GB i j)=Aa):KJ i j:=by
 rcases Bool.or_eq_true_iff.mp h with h|h
 .exact(gI h).ok
 .unfold GB at h;rw[Ap,AW,AW]at h;exact .of_bits (RZ h.1) (RZ h.2)
theorem dH:OpR X (B1 .Mult) (rI KJ λi j=>.int (i*j)):=opI λ_ _ _ _ _ _ _ hc q=>mul_int q hc
theorem Ga(h:B4 n=Aa):n<=sizeLine:=by
 unfold B4 at h;rw[EO];have:=Ep h;omega
theorem Ru{p:Ah}{ds:Ac D}(hA:AOk H A)(hp:H p=Af)(r:Reps K CL H A xs ds):Rep K CL (upd H p (.lst xs)) A (.ref p) (.lst ds):=
 ⟨p,xs,rfl,.inl (hA.new hp),SqL.of G0,r.same λb o e=>by rw[CK (Fx e hp)];exact e⟩
theorem Ji{p:Ah}{ds:Ac D}(hA:AOk H A)(hp:H p=Af)(r:Reps K CL H A xs ds):Rep K CL (upd H p (.tup xs)) A (.ref p) (.tup ds):=
 ⟨p,xs,rfl,.inl (hA.new hp),SqT.of G0,r.same λb o e=>by rw[CK (Fx e hp)];exact e⟩
theorem Fe{p:Ah}(h:H p=Af)(o:HO):AB H (upd H p o):=λb u q=>by rw[CK (Fx q h)];exact q
def rX(K:Fg):R2:=λx y H Q=>∃ l b xs zs,x=.ref l/\y=.ref b/\SqL K H l xs/\SqL K H b zs/\xs.length+zs.length<=sizeLine/\∀ p,H p=Af->Q (.ref p) (upd H p (.lst (xs++zs)))
end
section
variable{P:AM}{w:Ay}{a:Ah}{xs:Ac (Ac Ad×Ah×Aj)}{h:AJ}
theorem F0.of(d:F0 P w a xs h)(k:∀ x∈xs,(TK P w).is h x.1 x.2.1):h.DictOfH (TK P w) a xs:=by
 obtain⟨_,o,es,ep,h1,h2,h3,h4,h5⟩:=d;exact⟨o,es,ep,h1,h2,h3,h4,k,h5⟩
theorem F0.to(hs:(a==DS)=Ae)(d:h.DictOfH (TK P w) a xs):F0 P w a xs h:=by
 obtain⟨o,es,ep,h1,h2,h3,h4,k,h5⟩:=d;exact⟨hs,o,es,ep,h1,h2,h3,h4,h5⟩
theorem F0.keep(d:F0 P w a xs h)(k:∀ o,h.get? a=Ab o->h'.get? a=Ab o):F0 P w a xs h':=by
 obtain⟨hs,o,es,ep,h1,r⟩:=d;exact⟨hs,o,es,ep,k o h1,r⟩
theorem F0.any(d:F0 P w a xs h):∀ P w,F0 P w a xs h:=λ_ _=>d
theorem Dc.keep{h':AJ}{es:Ac (Ac Ad×Ah×V)}(d:Dc a es h)(k:∀ o,h.get? a=Ab o->h'.get? a=Ab o):Dc a es h':=let ⟨ys,v,d⟩:=d;⟨ys,v,λP w=>(d P w).keep k⟩
theorem ValE.length{es:Ac (Ac Ad×Ah×V)}(v:ValE es ys):es.length=ys.length:=by
 induction v with
 |nil=>rfl
 |cons _ _ ih=>exact congrArg (· + 1) ih
theorem YF:∀{k:Ac Ad}{its:Ac Aj},A9 (k.map V.int) its->ItemsAre (intKind P w) k its:=by
 intro k
 induction k with
 |nil=>intro its v;cases v;exact .nil
 |cons i k ih=>
  intro its v;cases v with
  |cons v1 v2=>
   obtain⟨t,rfl⟩:=v1;exact .cons (intKind_is _ _ _ _) (ih v2)
end
section
variable{K:Fg}{CL:ClA}{H:Hp}{A:Ah->Prop}
theorem Zy:∀{ds:Ac D}{k:Ac Ad}{xs:Ac V},Eb.keyDs ds=Ab k->Reps K CL H A xs ds->xs=k.map V.int:=by
 intro ds
 induction ds with
 |nil=>
  intro k xs e r;cases e;cases xs with
  |nil=>rfl
  |cons=>exact r.elim
 |cons d ds ih=>
  intro k xs e r;cases xs with
  |nil=>exact r.elim
  |cons x xs=>
   cases d with
   |int i=>
    have e':(Eb.keyDs ds).map (i :: ·)=Ab k:=e;cases e1:Eb.keyDs ds with
    |none=>rw[e1]at e';cases e'
    |some k'=>
     rw[e1]at e';cases e';have ex:x=.int i:=r.1;rw[ex,ih e1 r.2];rfl
   |_=>exact nomatch (show Af=Ab k from e)
theorem dY(r:Rep K CL H A v d)(e:Eb d=Ab k):∃ a,v=.ref a/\Dx K H A a k:=by
 cases d with
 |tup ds=>
  obtain⟨a,xs,ev,na,sq,rs⟩:=r;exact⟨a,ev,xs,na,sq,Zy e rs⟩
 |_=>exact nomatch (show Af=Ab k from e)
theorem J6(r:Cv K CL H A v d)(e:Eb d=Ab k):∃ a,v=.ref a/\Dx K H A a k:=by
 rcases r with r|⟨_,_,_,_,⟨_,_,_,rfl,_⟩|⟨_,_,_,rfl,_⟩⟩
 .exact dY r e
 .exact nomatch (show Af=Ab k from e)
 .exact nomatch (show Af=Ab k from e)
theorem Repk.length:∀{es:Ac (Ac Ad×Ah×V)}{kvs:Ac (Ac Ad×D)},Repk K CL H A es kvs->es.length=kvs.length
 |[],[],_=>rfl
 |_::_,_::_,h=>congrArg (· + 1) (Repk.length h.2)
 |[],_::_,h=>h.elim
 |_::_,[],h=>h.elim
theorem Ju{es:Ac (Ac Ad×Ah×V)}(v:ValE es ys)(k:Ac Ad):∀{kvs:Ac (Ac Ad×D)},Repk K CL H A es kvs->(Go ys k=Af/\Cu kvs k=Af/\(kvs.any λp=>p.1==k)=Ae)\/∃ p x d,Go ys k=Ab p/\Cu kvs k=Ab d/\(kvs.any λp=>p.1==k)=Aa/\Bv x p.2/\Rep K CL H A x d:=by
 induction v with
 |nil=>
  intro kvs r;cases kvs with
  |nil=>exact .inl ⟨rfl,rfl,rfl⟩
  |cons=>exact r.elim
 | @cons k' a x y xs ys rv _ ih=>
  intro kvs r;cases kvs with
  |nil=>exact r.elim
  |cons q kvs=>
   obtain⟨k2,d⟩:=q;obtain⟨⟨e1,_,rd⟩,r2⟩:=r;cases (show k'=k2 from e1)
   by_cases hk:k'=k
   .refine .inr ⟨(a,y),x,d,?_,?_,?_,rv,rd⟩
    .simp[Go,hk]
    .simp[Cu,hk]
    .simp[hk]
   .have h0:(k'==k)=Ae:=Co.mpr hk;rcases ih r2 with ⟨z1,z2,z3⟩|⟨p,x',d',z1,z2,z3,z4⟩
    .refine .inl ⟨?_,?_,?_⟩
     .simpa [Go,DB,hk] using z1
     .simpa [Cu,DB,h0] using z2
     .rw[Ik,z3];simp[h0]
    .refine .inr ⟨p,x',d',?_,?_,?_,z4⟩
     .simpa [Go,DB,hk] using z1
     .simpa [Cu,DB,h0] using z2
     .rw[Ik,z3];simp
theorem RU{es:Ac (Ac Ad×Ah×V)}(v:ValE es ys){x:V}(kr:Dx K H A ka k)(rx:Bv x y)(rd:Rep K CL H A x d):∀{kvs:Ac (Ac Ad×D)},Repk K CL H A es kvs->∃ es',ValE es' (ys++[(k,ka,y)])/\Repk K CL H A es' (kvs++[(k,d)]):=by
 induction v with
 |nil=>
  intro kvs r;cases kvs with
  |nil=>exact⟨[(k,ka,x)],.cons rx .nil,⟨rfl,kr,rd⟩,trivial⟩
  |cons=>exact r.elim
 | @cons k' a x y xs ys rv _ ih=>
  intro kvs r;cases kvs with
  |nil=>exact r.elim
  |cons q kvs=>
   obtain⟨es',h1,h2⟩:=ih r.2;exact⟨(k',a,x)::es',.cons rv h1,r.1,h2⟩
theorem dX{es:Ac (Ac Ad×Ah×V)}(v:ValE es ys){x:V}(rx:Bv x y)(rd:Rep K CL H A x d):∀{kvs:Ac (Ac Ad×D)},Repk K CL H A es kvs->∃ es',ValE es' (ys.map (putAt k y))/\Repk K CL H A es' (kvs.map λp=>if (p.1==k)=Aa then (k,d) else p):=by
 induction v with
 |nil=>
  intro kvs r;cases kvs with
  |nil=>exact⟨[],.nil,trivial⟩
  |cons=>exact r.elim
 | @cons k' a x' y' xs ys rv _ ih=>
  intro kvs r;cases kvs with
  |nil=>exact r.elim
  |cons q kvs=>
   obtain⟨es',h1,h2⟩:=ih r.2;obtain⟨k2,d'⟩:=q;obtain⟨⟨e1,kr,rd'⟩,r2⟩:=r;cases (show k'=k2 from e1)
   by_cases hk:k'=k
   .refine⟨(k',a,x)::es',?_,?_⟩
    .rw[Ba,show putAt k y (k',a,y')=(k',a,y) from Ax hk]
     exact .cons rx h1
    .rw[Ba,Ax (show ((k'==k)=Aa) from A7.mpr hk)]
     exact⟨⟨hk,hk ▸ kr,rd⟩,h2⟩
   .refine⟨(k',a,x')::es',?_,?_⟩
    .rw[Ba,show putAt k y (k',a,y')=(k',a,y') from AF hk]
     exact .cons rv h1
    .rw[Ba,AF (show ¬ ((k'==k)=Aa) from λz=>hk (A7.mp z))]
     exact⟨⟨rfl,kr,rd'⟩,h2⟩
theorem dW{es:Ac (Ac Ad×Ah×V)}(v:ValE es ys){x:V}(kr:Dx K H A ka k)(rx:Bv x y)(rd:Rep K CL H A x d){kvs:Ac (Ac Ad×D)}(r:Repk K CL H A es kvs):∃ es',ValE es' (storedH ys k ka y)/\Repk K CL H A es' (FA kvs k d):=by
 unfold FA;rcases Ju v k r with ⟨z1,_,z3⟩|⟨p,_,_,z1,_,z3,_⟩
 .rw[storedH_new z1,AF (by rw[z3];exact AA)]
  exact RU v kr rx rd r
 .rw[storedH_old z1,Ax z3];exact dX v rx rd r
end
section
variable{X:Cx}{pI:Pn}{Y:L2.St}{H:Hp}{s:Aq}{a ka:Ah}{k:Ac Ad}{CL:ClA}{A:Ah->Prop}{es:Ac (Ac Ad×Ah×V)}{kvs:Ac (Ac Ad×D)}
theorem Jp(I:Inv X pI Y H s)(r:Dx X.K H A ka k):(TK X.prog X.w).is s.heap k ka:=by
 obtain⟨xs,_,sq,rfl⟩:=r;obtain⟨its,vs,⟨o,ho,hc,n,hd⟩,_⟩:=I.tuple sq;exact⟨o,its.toArray,n,ho,hc,hd,YF vs⟩
theorem gO(I:Inv X pI Y H s)(v:ValE es ys):∀{kvs:Ac (Ac Ad×D)},Repk X.K CL H A es kvs->∀ x∈ys,(TK X.prog X.w).is s.heap x.1 x.2.1:=by
 induction v with
 |nil=>intro kvs r x hx;cases hx
 | @cons k' a x y xs ys rv _ ih=>
  intro kvs r z hz;cases kvs with
  |nil=>exact r.elim
  |cons q kvs=>
   obtain⟨k2,d⟩:=q;obtain⟨⟨e1,kr,rd⟩,r2⟩:=r;cases (show k'=k2 from e1)
   rcases AE.mp hz with rfl|hz
   .exact Jp I kr
   .exact ih r2 z hz
theorem dic_of(I:Inv X pI Y H s)(hH:H a=Ab (.ext (Dc a es)))(r:Repk X.K CL H A es kvs):∃ ys,ValE es ys/\(a==DS)=Ae/\s.heap.DictOfH (TK X.prog X.w) a ys:=by
 obtain⟨ys,ve,d⟩:=(I.hok a _ hH).1;have d:=d X.prog X.w;exact⟨ys,ve,d.1,d.of (gO I ve r)⟩
theorem fP{x:V}{v:Aj}{Q:Hr->Aq->Prop}{E:Vq}(hu:X.A.units+1<Bz)(I:Inv X pI Y H s)(hH:H a=Ab (.ext (Dc a es)))(r:Repk X.K CL H A es kvs)(hk:Dx X.K H A ka k)(rx:Bv x v)(rd:Rep X.K CL H A x d)(hz:kvs.length<=sizeLine)(q:∀ s' es',Repk X.K CL H A es' (FA kvs k d)->Inv X pI Y (upd H a (.ext (Dc a es'))) s'->Q () s'):AC (model X.prog X.w) X.A (IS (.ref a) (.ref ka) v) Q E s:=by
 obtain⟨ys,ve,hs,m⟩:=dic_of I hH r;obtain⟨es',ve',r'⟩:=dW ve hk rx rd r;refine wpAny_setItem_heap (knd:=TK X.prog X.w) (hsz:=by rw[<-ve.length,r.length];exact hz) (Dy hu) (Jp I hk) m λh' m sb=>q _ es' r' ?_
 obtain⟨o,_,_,h1,_⟩:=id m;exact I.write (x:=a) (e:=a) (by rw[hH];exact trivial) (.inl rfl) (λb u hb hu=>(sb.2 b hb).trans hu) ⟨o,h1⟩ ⟨⟨_,ve',(F0.to hs m).any⟩,⟨o,h1⟩,λh1 h2 d k=>d.keep k⟩
theorem nS{Q:Vq}{E:Vq}(hu:X.A.units+1<Bz)(I:Inv X pI Y H s)(hH:H a=Ab (.ext (Dc a es)))(r:Repk X.K CL H A es kvs)(hk:Dx X.K H A ka k)(q:∀ s',Inv X pI Y H s'->Q (.bool (kvs.any λp=>p.1==k)) s'):AC (model X.prog X.w) X.A (B9 .In (.ref ka) (.ref a)) Q E s:=by
 obtain⟨ys,ve,hs,m⟩:=dic_of I hH r;refine wpAny_in_heap (knd:=TK X.prog X.w) (Dy hu) (Jp I hk) hs m ?_;have e:(Go ys k).isSome=(kvs.any λp=>p.1==k):=by
  rcases Ju ve k r with ⟨z1,_,z3⟩|⟨p,_,_,z1,_,z3,_⟩<;>rw[z1,z3]<;>rfl
 rw[e];exact q _ (I.kept λb o e=>e)
theorem fQ{Q:Vq}{E:Vq}(hu:X.A.units+1<Bz)(I:Inv X pI Y H s)(hH:H a=Ab (.ext (Dc a es)))(r:Repk X.K CL H A es kvs)(hk:Dx X.K H A ka k)(q:∀ s',Inv X pI Y H s'->Q (.bool (!(kvs.any λp=>p.1==k))) s'):AC (model X.prog X.w) X.A (B9 .NotIn (.ref ka) (.ref a)) Q E s:=by
 obtain⟨ys,ve,hs,m⟩:=dic_of I hH r;refine wpAny_notIn_heap (knd:=TK X.prog X.w) (Dy hu) (Jp I hk) hs m ?_;have e:(Go ys k).isSome=(kvs.any λp=>p.1==k):=by
  rcases Ju ve k r with ⟨z1,_,z3⟩|⟨p,_,_,z1,_,z3,_⟩<;>rw[z1,z3]<;>rfl
 rw[e];exact q _ (I.kept λb o e=>e)
theorem Zd(d:Ah)(hd:(d==DS)=Ae):MeetsIn X.prog X.w (Builtin.«dict.__len__» ⟨[.ref d],[]⟩) (λ_ R s=>∃ ys,s.heap.DictOfH (TK X.prog X.w) d ys/\R (.ok (.ret (.int ys.length s.toks))) {s with toks:=s.toks+1}):=
 .of_wp λA R s ⟨ys,hm,h⟩=>by
  obtain⟨o,es,ep,ho,hc,hdat,hk,_,_⟩:=hm;show AC _ _ (dictSize d >>= _) _ _ s;unfold dictSize;refine Am (Am (Xc ho hdat (AD ?_)));show AC _ _ (Builtin.Dict.pendingCount d >>= _) _ _ s;refine Am (wpAny_pendingCount_other hd ?_);refine wpAny_ret_mkInt ?_;have:es.size=ys.length:=by rw[<-ER,hk,Bl]
  rw[Nat.add_zero,this];exact h
theorem fU{Q:Vq}{E:Vq}(I:Inv X pI Y H s)(hH:H a=Ab (.ext (Dc a es)))(r:Repk X.K CL H A es kvs)(hz:kvs.length<=sizeLine)(q:∀ s' t,Inv X pI Y H s'->Q (.int kvs.length t) s'):AC (model X.prog X.w) X.A (call (.builtin "len") [.ref a]) Q E s:=by
 obtain⟨ys,ve,hs,m⟩:=dic_of I hH r;have el:ys.length=kvs.length:=by rw[<-ve.length,r.length]
 have hf:(ys.length:Ad)<2 ^ 63:=by have:=Jn;omega
 refine Calls.call_function_entry kind_len plain_len entry_len (args_len1 _) ?_;unfold Builtin.«len»;refine Am (m:=oneArg "len" _) (AD ?_);refine Am (m:=Iq (.ref a) (AV "__len__")) (CF (name:=AV "__len__") m.typeIs Wx
  (Ir Wx m.typeIs F.entry_dict_len (F.args_dict_len_1 _) (Zd a hs) ⟨ys,m,?_⟩))
 show AC _ _ _ _ _ {s with toks:=s.toks+1}
 refine Am (Cz (AD ?_));refine Am (Hq ?_);show AC _ _ (if ((ys.length:Ag):Ad)<0 then _ else _) _ _ _
 rw[AF (by omega)]
 show AC _ _ (if ((ys.length:Ag):Ad) ≥ 2 ^ 63 then _ else _) _ _ _
 rw[AF (by omega)]
 refine Am (wpAny_mkInt (AD ⟨_,rfl,?_⟩));rw[el];exact q _ _ (I.kept λb o e=>e)
theorem fS:PE X (.Dict [] [] pos) (λ_ H Q=>∀ a,H a=Af->Q (.ref a) (upd H a (.ext (Dc a [])))):=λpI s Y H Q I h=>by
 have big:DS<s.heap.objs.size:=Nat.lt_trans (by decide) (I.mod.glob.keeps I.bk).lt
 have at0:(s.heap.push { cls:=.type "dict",data:=.dict #[] }).get? s.heap.objs.size=Ab { cls:=.type "dict",data:=.dict #[] }:=AH _ rfl;refine wpAny_Dict_empty ⟨.ref s.heap.objs.size,_,I.laid (a:=s.heap.objs.size) (t':=s.toks) (λ_ _ q=>Ar _ q) (AR _) ?_,rfl,h _ (I.hok.fresh (AR _))⟩
 exact⟨⟨[],.nil,F0.any (P:=X.prog) (w:=X.w) ⟨Co.mpr (DV (Bi big)),_,#[],0,at0,⟨rfl,rfl,rfl⟩,rfl,rfl,HC⟩⟩,⟨_,at0⟩,λh1 h2 d k=>d.keep k⟩
def UO(K:Fg)(CL:ClA)(A:Ah->Prop):R2:=λx y H Q=>∃ a ka es kvs k d,x=.ref a/\y=.ref ka/\H a=Ab (.ext (Dc a es))/\Repk K CL H A es kvs/\Dx K H A ka k/\Cu kvs k=Ab d/\∀ v,Rep K CL H A v d->Q v H
theorem lI(hu:X.A.units+1<Bz):IxR X (UO X.K CL A):=by
 intro value slice pI s Y H x y v u Q I rx ry h hs;obtain⟨a,ka,es,kvs,k,d,rfl,rfl,hH,r,hk,hp,q⟩:=h;cases rx;cases ry;obtain⟨ys,ve,_,m⟩:=dic_of I hH r;rcases Ju ve k r with ⟨_,z2,_⟩|⟨p,x,d',z1,z2,_,z4,z5⟩
 .rw[hp]at z2;cases z2
 .rw[hp]at z2;cases z2;exact Fn m.typeIs slot_dict_getitem.lookup (wpAny_getItem_heap (knd:=TK X.prog X.w) (Q:=λr s'=>r=p.2/\EP X pI Y Q r s') (Dy hu) (Jp I hk) m z1 ⟨rfl,x,H,I.kept λb o e=>e,z4,q x z5⟩) hs
end
section
variable{X:Cx}{CL:ClA}{W:XW}
theorem RC:OpR X (B1 .Add) (rX X.K):=by
 intro pI s Y H x y v u Q I rx ry h;obtain⟨l,b,xs,zs,rfl,rfl,hH,hB,hz,q⟩:=h;cases rx;cases ry;obtain⟨its,r,⟨o,n,e,c,dd,dt⟩,z⟩:=I.list hH;obtain⟨its2,r2,⟨o2,n2,e2,c2,dd2,dt2⟩,z2⟩:=I.list hB;have hl:=r.length;have hl2:=r2.length;obtain⟨cls,dd0,data,sl⟩:=o;obtain⟨cls2,dd02,data2,sl2⟩:=o2;simp only at c dd dt c2 dd2 dt2;subst c dd dt c2 dd2 dt2;have ea:its.toArray++its2.toArray=(its++its2).toArray:=by simp
 refine Iw ⟨_,e,rfl⟩ ⟨_,e2,rfl⟩ noFill_list_add seq_list_add PySem.F.slot_list_add PySem.F.entry_list_add (PySem.F.args_list_add_2 _ _) (list_addW l b its.toArray its2.toArray n n2 Af Af sl sl2 (by simp;omega)) ⟨e,e2,?_⟩
 rw[ea];exact⟨.ref _,_,I.lnew (t':=s.toks) (r.append r2) (by rw[Be];omega),rfl,q _ I.fresh⟩
theorem RB:OpD X CL W (B1 .Add) (C5 .Add):=by
 intro A pI s Y H x y v u Q I rx ry ⟨hA,dx,dy,hx,hy,p⟩;cases dx with
 |int i=>
  cases dy with
  |int j=>
   have ex:=hx.int_of;have ey:=hy.int_of
   subst ex ey;exact mJ pI s Y H _ _ v u Q I rx ry ⟨i,j,rfl,rfl,p _ H (AB.refl H) rfl⟩
  |_=>exact p.elim
 |str i=>
  cases dy with
  |str j=>
   have ex:=hx.str_of;have ey:=hy.str_of
   subst ex ey;simp only[Sv]at p;split at p
   .rename_i h;exact Yu pI s Y H _ _ v u Q I rx ry ⟨i,j,rfl,rfl,Ga h,p _ H (AB.refl H) rfl⟩
   .exact p.elim
  |_=>exact p.elim
 |lst ds=>
  cases dy with
  |lst es=>
   obtain⟨a,xs,rfl,s1,r1⟩:=hx.lst_of;obtain⟨b,ys,rfl,s2,r2⟩:=hy.lst_of;simp only[Sw]at p;split at p
   .rename_i h;refine RC pI s Y H _ _ v u Q I rx ry ⟨a,b,xs,ys,rfl,rfl,s1,s2,by rw[r1.length,r2.length];exact Ga h,λq hq=>?_⟩
    exact p _ _ (Fe hq _) (Ru hA hq (r1.append r2))
   .exact p.elim
  |_=>exact p.elim
 |tup ds=>
  cases dy with
  |tup es=>
   obtain⟨a,xs,rfl,na1,s1,r1⟩:=hx.tup_of;obtain⟨b,ys,rfl,_,s2,r2⟩:=hy.tup_of;simp only[Su]at p;split at p
   .rename_i h;simp only[Ap]at h;refine cE pI s Y H _ _ v u Q I rx ry ⟨a,b,xs,ys,rfl,rfl,s1,s2,?_,by rw[r1.length,r2.length];exact Ga h.2,λhy0=>?_,λ_ q hq=>?_⟩
    .rintro rfl;cases ds with
     |nil=>cases h.1
     |cons _ _=>exact r1.elim
    .subst hy0;cases es with
     |nil=>rw[BE]at p;exact p _ H (AB.refl H) ⟨a,xs,rfl,na1,s1,r1⟩
     |cons _ _=>exact r2.elim
    .exact p _ _ (Fe hq _) (Ji hA hq (r1.append r2))
   .exact p.elim
  |_=>exact p.elim
 |_=>exact p.elim
theorem LZ{op:Fu}{C:Ad->Ad->Prop}{g:Ad->Ad->Ad}(ho:OpR X (B1 op) (rI C λi j=>.int (g i j)))(hg:∀ dx dy,(∃ i j,dx=.int i/\dy=.int j/\((C i j/\C5 op dx dy=.ok (.int (g i j)))\/C5 op dx dy=.bad))\/C5 op dx dy=.bad):OpD X CL W (B1 op) (C5 op):=by
 intro A pI s Y H x y v u Q I rx ry ⟨hA,dx,dy,hx,hy,p⟩;rcases hg dx dy with ⟨i,j,rfl,rfl,⟨c,e⟩|e⟩|e
 .have ex:=hx.int_of;have ey:=hy.int_of
  subst ex ey;rw[e]at p;exact ho pI s Y H _ _ v u Q I rx ry ⟨i,j,rfl,rfl,c,p _ H (AB.refl H) rfl⟩
 .rw[e]at p;exact p.elim
 .rw[e]at p;exact p.elim
theorem dC:OpD X CL W (B1 .Sub) (C5 .Sub):=by
 intro A pI s Y H x y v u Q I rx ry ⟨hA,dx,dy,hx,hy,p⟩;cases dx with
 |int i=>
  cases dy with
  |int j=>
   have ex:=hx.int_of;have ey:=hy.int_of
   subst ex ey;exact mF pI s Y H _ _ v u Q I rx ry ⟨i,j,rfl,rfl,p _ H (AB.refl H) rfl⟩
  |_=>exact p.elim
 |_=>exact p.elim
theorem dE:OpD X CL W (B1 .Mult) (C5 .Mult):=LZ dH λdx dy=>by
 cases dx with
 |int i=>
  cases dy with
  |int j=>
   refine .inl ⟨i,j,rfl,rfl,?_⟩;rw[lA];split
   .rename_i h;exact .inl ⟨gH h,rfl⟩
   .exact .inr rfl
  |_=>exact .inr rfl
 |_=>exact .inr rfl
theorem ZT:OpD X CL W (B1 .FloorDiv) (C5 .FloorDiv):=LZ dI λdx dy=>by
 cases dx with
 |int i=>
  cases dy with
  |int j=>
   refine .inl ⟨i,j,rfl,rfl,?_⟩;rw[fG];split
   .rename_i h;exact .inl ⟨h,rfl⟩
   .exact .inr rfl
  |_=>exact .inr rfl
 |_=>exact .inr rfl
theorem dF:OpD X CL W (B1 .Mod) (C5 .Mod):=LZ mH λdx dy=>by
 cases dx with
 |int i=>
  cases dy with
  |int j=>
   refine .inl ⟨i,j,rfl,rfl,?_⟩;rw[lC];split
   .rename_i h;exact .inl ⟨h,rfl⟩
   .exact .inr rfl
  |_=>exact .inr rfl
 |_=>exact .inr rfl
theorem dD:OpD X CL W (B1 .Pow) (C5 .Pow):=LZ mG λdx dy=>by
 cases dx with
 |int i=>
  cases dy with
  |int j=>
   refine .inl ⟨i,j,rfl,rfl,?_⟩;rw[lT];split
   .rename_i h;exact .inl ⟨⟨h.1.1,h.1.2,by omega⟩,rfl⟩
   .exact .inr rfl
  |_=>exact .inr rfl
 |_=>exact .inr rfl
theorem RA(op:Fu):OpD X CL W (B1 op) (C5 op):=by
 cases op with
 |Add=>exact RB
 |Sub=>exact dC
 |Mult=>exact dE
 |FloorDiv=>exact ZT
 |Mod=>exact dF
 |Pow=>exact dD
 |_=>
  intro A pI s Y H x y v u Q I rx ry ⟨hA,dx,dy,hx,hy,p⟩;exact p.elim
noncomputable abbrev A0:Ah->Prop:=λ_=>Bk
theorem Cv.plain(h:Cv K CL H A v d):Rep K CL H A0 v d:=by
 rcases h with h|⟨a,o,rfl,e,⟨xs,ds,rfl,rfl,r⟩|⟨es,ds,rfl,rfl,r⟩⟩
 .exact Rep.sub (λ_ z=>z.elim) d h
 .exact⟨a,xs,rfl,.inl λz=>z.elim,SqL.of e,Reps.sub (λ_ z=>z.elim) ds r⟩
 .exact⟨a,es,rfl,λz=>z.elim,e,Repk.sub (λ_ z=>z.elim) ds r⟩
mutual
theorem LU:∀(n:Ag)(d:D),flD n d=Aa->eqD d d=Aa
 |_,.non,_=>rfl
 |_,.bl b,_=>by simp
 |_,.int i,_=>by simp
 |_,.str x,_=>by simp
 |n+1,.tup ds,h=>by
  show eqDs ds ds=Aa;exact eqDs_refl n ds h
 |n+1,.lst ds,h=>by
  show eqDs ds ds=Aa;exact eqDs_refl n ds h
 |0,.tup ds,h=>by cases h
 |0,.lst ds,h=>by cases h
 |n,.obj _ _,h=>by cases n<;>cases h
 |n,.exc _ _,h=>by cases n<;>cases h
 |n,.dic _,h=>by cases n<;>cases h
theorem eqDs_refl:∀(n:Ag)(ds:Ac D),ds.all (flD n)=Aa->eqDs ds ds=Aa
 |_,[],_=>rfl
 |n,d::ds,h=>by
  simp only[Gu,Ap]at h;simp only[NO,Ap];exact⟨LU n d h.1,eqDs_refl n ds h.2⟩
end
theorem Qc{ys:Ac V}(I:Inv X pI Y H s)(h:SqL X.K H a xs)(h':SqT X.K H a ys):Bk:=by
 obtain⟨its,r,⟨o,n,e,c,_,_⟩,_⟩:=I.list h;obtain⟨its',r',⟨o',e',c',_⟩,_⟩:=I.tuple h';rw[e]at e';cases e';rw[c]at c'
 injection c' with z
 exact absurd z (by decide)
mutual
theorem L5{pI:Pn}{Y:L2.St}{H:Hp}{s:Aq}(I:Inv X pI Y H s):∀(n:Ag)(d e:D){v:V},flD n d=Aa->flD n e=Aa->Rep X.K CL H A0 v d->Rep X.K CL H A0 v e->d=e
 |n,.tup ds,e,v,hd,he,r,q=>by
  obtain⟨a,xs,rfl,_,s1,r1⟩:=r;cases e with
  |tup es=>
   obtain⟨b,ys,e,_,s2,r2⟩:=q;cases e;have z:=I.tuple_inj s1 s2;subst z;cases n with
   |zero=>cases hd
   |succ n=>rw[reps_inj I n ds es hd he r1 r2]
  |lst es=>
   obtain⟨b,ys,e,_,s2,r2⟩:=q;cases e;exact(Qc I s2 s1).elim
  |obj=>cases n<;>cases he
  |exc=>cases n<;>cases he
  |dic=>cases n<;>cases he
  |_=>cases q
 |n,.lst ds,e,v,hd,he,r,q=>by
  obtain⟨a,xs,rfl,_,s1,r1⟩:=r;cases e with
  |lst es=>
   obtain⟨b,ys,e,_,s2,r2⟩:=q;cases e;have z:=I.list_inj s1 s2;subst z;cases n with
   |zero=>cases hd
   |succ n=>rw[reps_inj I n ds es hd he r1 r2]
  |tup es=>
   obtain⟨b,ys,e,_,s2,r2⟩:=q;cases e;exact(Qc I s1 s2).elim
  |obj=>cases n<;>cases he
  |exc=>cases n<;>cases he
  |dic=>cases n<;>cases he
  |_=>cases q
 |n,.obj _ _,e,v,hd,he,r,q=>by cases n<;>cases hd
 |n,.exc _ _,e,v,hd,he,r,q=>by cases n<;>cases hd
 |n,.dic _,e,v,hd,he,r,q=>by cases n<;>cases hd
 |n,.non,e,v,hd,he,r,q=>by
  cases r;cases e with
  |tup=>obtain⟨_,_,z,_⟩:=q;cases z
  |lst=>obtain⟨_,_,z,_⟩:=q;cases z
  |obj=>cases n<;>cases he
  |exc=>cases n<;>cases he
  |dic=>cases n<;>cases he
  |_=>cases q<;>rfl
 |n,.bl b,e,v,hd,he,r,q=>by
  cases r;cases e with
  |tup=>obtain⟨_,_,z,_⟩:=q;cases z
  |lst=>obtain⟨_,_,z,_⟩:=q;cases z
  |obj=>cases n<;>cases he
  |exc=>cases n<;>cases he
  |dic=>cases n<;>cases he
  |_=>cases q<;>rfl
 |n,.int b,e,v,hd,he,r,q=>by
  cases r;cases e with
  |tup=>obtain⟨_,_,z,_⟩:=q;cases z
  |lst=>obtain⟨_,_,z,_⟩:=q;cases z
  |obj=>cases n<;>cases he
  |exc=>cases n<;>cases he
  |dic=>cases n<;>cases he
  |_=>cases q<;>rfl
 |n,.str b,e,v,hd,he,r,q=>by
  cases r;cases e with
  |tup=>obtain⟨_,_,z,_⟩:=q;cases z
  |lst=>obtain⟨_,_,z,_⟩:=q;cases z
  |obj=>cases n<;>cases he
  |exc=>cases n<;>cases he
  |dic=>cases n<;>cases he
  |_=>cases q<;>rfl
theorem reps_inj{pI:Pn}{Y:L2.St}{H:Hp}{s:Aq}(I:Inv X pI Y H s):∀(n:Ag)(ds es:Ac D){xs:Ac V},ds.all (flD n)=Aa->es.all (flD n)=Aa->Reps X.K CL H A0 xs ds->Reps X.K CL H A0 xs es->ds=es
 |_,[],[],_,_,_,_,_=>rfl
 |n,d::ds,e::es,x::xs,hd,he,r,q=>by
  simp only[Gu,Ap]at hd he;rw[L5 I n d e hd.1 he.1 r.1 q.1,reps_inj I n ds es hd.2 he.2 r.2 q.2]
 |_,[],_::_,[],_,_,_,q=>q.elim
 |_,[],_::_,_::_,_,_,r,_=>r.elim
 |_,_::_,[],[],_,_,r,_=>r.elim
 |_,_::_,[],_::_,_,_,_,q=>q.elim
 |_,_::_,_::_,[],_,_,r,_=>r.elim
end
theorem KU:∀{ds es:Ac D},ds.length≠es.length->eqDs ds es=Ae
 |[],[],h=>absurd rfl h
 |[],_::_,_=>rfl
 |_::_,[],_=>rfl
 |d::ds,e::es,h=>by
  simp only[NO,KU (ds:=ds) (es:=es) (by simpa using h),E8]
theorem PR(n:Ag)(f:Ag->Ai):(AS (n+1)).all f=(f 0&&(AS n).all λj=>f (j+1)):=by
 rw[Fm,Gu,List.all_map];rfl
theorem KW:∀{ds es:Ac D},ds.length=es.length->eqDs ds es=(AS ds.length).all λj=>eqD (ds.getD j .non) (es.getD j .non)
 |[],[],_=>rfl
 |d::ds,e::es,h=>by
  rw[NO,KW (ds:=ds) (es:=es) (by simpa using h),Bj,PR]
  rfl
 |[],_::_,h=>by cases h
 |_::_,[],h=>by cases h
theorem Jt{ds:Ac D}{its:Ac Aj}(r:Reps K CL H A0 xs ds)(rv:A9 xs its)(h:j<its.length):∃ x,Rep K CL H A0 x (ds.getD j .non)/\Bv x its[j]:=by
 have e1:=rv.length;have e2:=r.length;have hd:ds[j]?=Ab (ds.getD j .non):=by
  rw[DE,BV (by omega)];rfl
 obtain⟨x,hx,q⟩:=r.get hd;obtain⟨u,hu,ru⟩:=rv.get hx;refine⟨x,q,?_⟩;rw[BV h]at hu;cases hu;exact ru
theorem Jm{ds:Ac D}(h:ds.all (flD n)=Aa)(j:Ag):flD n (ds.getD j .non)=Aa:=by
 rw[DE];cases e:ds[j]? with
 |none=>cases n<;>rfl
 |some d=>exact Dr.mp h d (DP e)
def Cn(B:A2)(s:Aq)(u t:Aj)(k:Ai):Prop:=JI B s u t k/\FU B s u t k/\Ip B s u t (!k)
section
variable{B:A2}{s:Aq}
open SeqAt
theorem pX:Cn B s .none .none Aa:=⟨RcAt.none_none,EqAt.same _,RcNeAt.none_none⟩
theorem rK(a b:Ai):Cn B s (.bool a) (.bool b) (a==b):=⟨RcAt.bool_bool _ _,EqAt.bool_bool _ _,RcNeAt.bool_bool _ _⟩
theorem qA(b:Ai):Cn B s .none (.bool b) Ae:=⟨RcAt.none_bool _,EqAt.none_bool _,RcNeAt.none_bool _⟩
theorem rG(b:Ai):Cn B s (.bool b) .none Ae:=⟨RcAt.bool_none _,EqAt.bool_none _,RcNeAt.bool_none _⟩
theorem pD(a:Ad)(t:Ds)(b:Ad)(u:Ds):Cn B s (.int a t) (.int b u) (a==b):=⟨RcAt.int_int _ _ _ _,EqAt.int_int _ _ _ _,RcNeAt.int_int _ _ _ _⟩
theorem pQ(a:Ak)(t:Ds)(b:Ak)(u:Ds):Cn B s (.str a t) (.str b u) (a==b):=⟨RcAt.str_str _ _ _ _,EqAt.str_str _ _ _ _,RcNeAt.str_str _ _ _ _⟩
theorem pA(a:Ad)(t:Ds)(b:Ak)(u:Ds):Cn B s (.int a t) (.str b u) Ae:=⟨RcAt.int_str _ _ _ _,EqAt.int_str _ _ _ _,RcNeAt.int_str _ _ _ _⟩
theorem pT(a:Ak)(t:Ds)(b:Ad)(u:Ds):Cn B s (.str a t) (.int b u) Ae:=⟨RcAt.str_int _ _ _ _,EqAt.str_int _ _ _ _,RcNeAt.str_int _ _ _ _⟩
theorem pZ(b:Ad)(u:Ds):Cn B s .none (.int b u) Ae:=⟨RcAt.none_int _ _,EqAt.none_int _ _,RcNeAt.none_int _ _⟩
theorem pB(b:Ad)(u:Ds):Cn B s (.int b u) .none Ae:=⟨RcAt.int_none _ _,EqAt.int_none _ _,RcNeAt.int_none _ _⟩
theorem pW(b:Ak)(u:Ds):Cn B s .none (.str b u) Ae:=⟨RcAt.none_str _ _,EqAt.none_str _ _,RcNeAt.none_str _ _⟩
theorem pR(b:Ak)(u:Ds):Cn B s (.str b u) .none Ae:=⟨RcAt.str_none _ _,EqAt.str_none _ _,RcNeAt.str_none _ _⟩
theorem rJ(a:Ai)(b:Ad)(u:Ds):Cn B s (.bool a) (.int b u) (b2i a==b):=⟨RcAt.bool_int _ _ _,EqAt.bool_int _ _ _,RcNeAt.bool_int _ _ _⟩
theorem pE(a:Ai)(b:Ad)(u:Ds):Cn B s (.int b u) (.bool a) (b==b2i a):=⟨RcAt.int_bool _ _ _,EqAt.int_bool _ _ _,RcNeAt.int_bool _ _ _⟩
theorem rF(a:Ai)(b:Ak)(u:Ds):Cn B s (.bool a) (.str b u) Ae:=⟨RcAt.bool_str _ _ _,EqAt.bool_str _ _ _,RcNeAt.bool_str _ _ _⟩
theorem pU(a:Ai)(b:Ak)(u:Ds):Cn B s (.str b u) (.bool a) Ae:=⟨RcAt.str_bool _ _ _,EqAt.str_bool _ _ _,RcNeAt.str_bool _ _ _⟩
variable{l:Ah}{items:Bb Aj}
theorem oW(h:s.heap.IsList l items)(hu:B.units<Bz):Cn B s (.ref l) .none Ae:=⟨RcAt.list_none h hu,EqAt.list_none h hu,RcNeAt.list_none h hu⟩
theorem pY(h:s.heap.IsList l items)(hu:B.units<Bz):Cn B s .none (.ref l) Ae:=⟨RcAt.none_list h hu,EqAt.none_list h hu,RcNeAt.none_list h hu⟩
theorem oY(b:Ai)(h:s.heap.IsList l items)(hu:B.units<Bz):Cn B s (.ref l) (.bool b) Ae:=⟨RcAt.list_bool b h hu,EqAt.list_bool b h hu,RcNeAt.list_bool b h hu⟩
theorem rH(b:Ai)(h:s.heap.IsList l items)(hu:B.units<Bz):Cn B s (.bool b) (.ref l) Ae:=⟨RcAt.bool_list b h hu,EqAt.bool_list b h hu,RcNeAt.bool_list b h hu⟩
theorem oX(b:Ad)(u:Ds)(h:s.heap.IsList l items)(hu:B.units<Bz):Cn B s (.ref l) (.int b u) Ae:=⟨RcAt.list_int b u h hu,EqAt.list_int b u h hu,RcNeAt.list_int b u h hu⟩
theorem pC(b:Ad)(u:Ds)(h:s.heap.IsList l items)(hu:B.units<Bz):Cn B s (.int b u) (.ref l) Ae:=⟨RcAt.int_list b u h hu,EqAt.int_list b u h hu,RcNeAt.int_list b u h hu⟩
theorem oV(b:Ak)(u:Ds)(h:s.heap.IsList l items)(hu:B.units<Bz):Cn B s (.ref l) (.str b u) Ae:=⟨RcAt.list_str b u h hu,EqAt.list_str b u h hu,RcNeAt.list_str b u h hu⟩
theorem pS(b:Ak)(u:Ds)(h:s.heap.IsList l items)(hu:B.units<Bz):Cn B s (.str b u) (.ref l) Ae:=⟨RcAt.str_list b u h hu,EqAt.str_list b u h hu,RcNeAt.str_list b u h hu⟩
theorem pK(h:s.heap.IsTuple l items)(hu:B.units<Bz):Cn B s (.ref l) .none Ae:=⟨RcAt.tuple_none h hu,EqAt.tuple_none h hu,RcNeAt.tuple_none h hu⟩
theorem pV(h:s.heap.IsTuple l items)(hu:B.units<Bz):Cn B s .none (.ref l) Ae:=⟨RcAt.none_tuple h hu,EqAt.none_tuple h hu,RcNeAt.none_tuple h hu⟩
theorem pO(b:Ai)(h:s.heap.IsTuple l items)(hu:B.units<Bz):Cn B s (.ref l) (.bool b) Ae:=⟨RcAt.tuple_bool b h hu,EqAt.tuple_bool b h hu,RcNeAt.tuple_bool b h hu⟩
theorem rE(b:Ai)(h:s.heap.IsTuple l items)(hu:B.units<Bz):Cn B s (.bool b) (.ref l) Ae:=⟨RcAt.bool_tuple b h hu,EqAt.bool_tuple b h hu,RcNeAt.bool_tuple b h hu⟩
theorem pM(b:Ad)(u:Ds)(h:s.heap.IsTuple l items)(hu:B.units<Bz):Cn B s (.ref l) (.int b u) Ae:=⟨RcAt.tuple_int b u h hu,EqAt.tuple_int b u h hu,RcNeAt.tuple_int b u h hu⟩
theorem oZ(b:Ad)(u:Ds)(h:s.heap.IsTuple l items)(hu:B.units<Bz):Cn B s (.int b u) (.ref l) Ae:=⟨RcAt.int_tuple b u h hu,EqAt.int_tuple b u h hu,RcNeAt.int_tuple b u h hu⟩
theorem pJ(b:Ak)(u:Ds)(h:s.heap.IsTuple l items)(hu:B.units<Bz):Cn B s (.ref l) (.str b u) Ae:=⟨RcAt.tuple_str b u h hu,EqAt.tuple_str b u h hu,RcNeAt.tuple_str b u h hu⟩
theorem pP(b:Ak)(u:Ds)(h:s.heap.IsTuple l items)(hu:B.units<Bz):Cn B s (.str b u) (.ref l) Ae:=⟨RcAt.str_tuple b u h hu,EqAt.str_tuple b u h hu,RcNeAt.str_tuple b u h hu⟩
theorem qB(h:s.heap.IsList l items)(h2:s.heap.IsTuple b items2)(hu:B.units<Bz):Cn B s (.ref l) (.ref b) Ae:=⟨RcAt.list_tuple h h2 hu,EqAt.list_tuple h h2 hu,RcNeAt.list_tuple h h2 hu⟩
theorem pL(h:s.heap.IsTuple l items)(h2:s.heap.IsList b items2)(hu:B.units<Bz):Cn B s (.ref l) (.ref b) Ae:=⟨RcAt.tuple_list h h2 hu,EqAt.tuple_list h h2 hu,RcNeAt.tuple_list h h2 hu⟩
end
end
section
variable{X:Cx}{CL:ClA}{W:XW}
theorem IF(x:PlainL h a its):h.IsList a its:=let ⟨o,n,e,c,_,d⟩:=x;⟨o,e,c,n,d⟩
def XG(X:Cx)(CL:ClA)(H:Hp)(s:Aq)(d:D)(u:Aj):Prop:=match d with
  |.non=>u=.none
  |.bl b=>u=.bool b
  |.int i=>∃ t,u=.int i t
  |.str x=>∃ t,u=.str x t
  |.tup ds=>∃ a xs its,u=.ref a/\Reps X.K CL H A0 xs ds/\A9 xs its/\s.heap.IsTuple a its.toArray
  |.lst ds=>∃ a xs its,u=.ref a/\Reps X.K CL H A0 xs ds/\A9 xs its/\s.heap.IsList a its.toArray
  |_=>Bk
theorem RT(I:Inv X pI Y H s)(hd:flD n d=Aa)(r:Rep X.K CL H A0 v d)(q:Bv v u):XG X CL H s d u:=by
 cases d with
 |non=>cases r;exact q
 |bl b=>cases r;exact q
 |int b=>cases r;exact q
 |str b=>cases r;exact q
 |tup ds=>
  obtain⟨a,xs,rfl,_,sq,r⟩:=r;obtain⟨its,rv,p,_⟩:=I.tuple sq;cases q;exact⟨a,xs,its,rfl,r,rv,p⟩
 |lst ds=>
  obtain⟨a,xs,rfl,_,sq,r⟩:=r;obtain⟨its,rv,p,_⟩:=I.list sq;cases q;exact⟨a,xs,its,rfl,r,rv,IF p⟩
 |obj=>cases n<;>cases hd
 |exc=>cases n<;>cases hd
 |dic=>cases n<;>cases hd
theorem dQ{B:A2}{its:Ac Aj}{ds es:Ac D}(hl:s.heap.IsList l its.toArray)(hb:s.heap.IsList b its2.toArray)(e1:its.length=ds.length)(e2:its2.length=es.length)(hu:B.units<Bz)(hs:l=b->eqDs ds es=Aa)(he:∀ j (h1:j<its.length) (h2:j<its2.length),FU B.in1 s its[j] its2[j] (eqD (ds.getD j .non) (es.getD j .non))):Cn B s (.ref l) (.ref b) (eqDs ds es):=by
 have rc:JI B s (.ref l) (.ref b) (eqDs ds es):=by
  by_cases hz:its.length=its2.length
  .have q:=SeqAt.RcAt.lists (e:=λj=>eqD (ds.getD j .non) (es.getD j .non)) hl hb (by simpa using hz) hu (λj h1 h2=>by simpa using he j (by simpa using h1) (by simpa using h2))
   rw[KW (by omega)]
   have e:its.toArray.size=ds.length:=by simpa using e1
   rw[e]at q;exact q
  .rw[KU (by omega)]
   exact SeqAt.RcAt.lists_lengths hl hb (by simpa using hz) hu
 have ne:Ip B s (.ref l) (.ref b) (!eqDs ds es):=by
  by_cases hz:its.length=its2.length
  .have q:=SeqAt.RcNeAt.lists (e:=λj=>eqD (ds.getD j .non) (es.getD j .non)) hl hb (by simpa using hz) hu (λj h1 h2=>by simpa using he j (by simpa using h1) (by simpa using h2))
   rw[KW (by omega)]
   have e:its.toArray.size=ds.length:=by simpa using e1
   rw[e]at q;exact q
  .rw[KU (by omega)]
   exact SeqAt.RcNeAt.lists_lengths hl hb (by simpa using hz) hu
 refine⟨rc,?_,ne⟩;by_cases hlb:l=b
 .rw[hs hlb,hlb];exact WI _
 .exact WH hlb rc
theorem dP{B:A2}{its:Ac Aj}{ds es:Ac D}(hl:s.heap.IsTuple l its.toArray)(hb:s.heap.IsTuple b its2.toArray)(e1:its.length=ds.length)(e2:its2.length=es.length)(hu:B.units<Bz)(hs:l=b->eqDs ds es=Aa)(he:∀ j (h1:j<its.length) (h2:j<its2.length),FU B.in1 s its[j] its2[j] (eqD (ds.getD j .non) (es.getD j .non))):Cn B s (.ref l) (.ref b) (eqDs ds es):=by
 have rc:JI B s (.ref l) (.ref b) (eqDs ds es):=by
  have q:=SeqAt.RcAt.tuples (e:=λj=>eqD (ds.getD j .non) (es.getD j .non)) hl hb hu (λj h1 h2=>by simpa using he j (by simpa using h1) (by simpa using h2))
  have e:its.toArray.size=ds.length:=by simpa using e1
  have e':its2.toArray.size=es.length:=by simpa using e2
  rw[e,e']at q;by_cases hz:ds.length=es.length
  .rw[KW hz];rw[hz,VE,Cw,U_0]at q;rw[hz];exact q
  .rw[KU hz];rw[Co.mpr hz,E8]at q;exact q
 have ne:Ip B s (.ref l) (.ref b) (!eqDs ds es):=by
  have q:=SeqAt.RcNeAt.tuples (e:=λj=>eqD (ds.getD j .non) (es.getD j .non)) hl hb hu (λj h1 h2=>by simpa using he j (by simpa using h1) (by simpa using h2))
  have e:its.toArray.size=ds.length:=by simpa using e1
  have e':its2.toArray.size=es.length:=by simpa using e2
  rw[e,e']at q;by_cases hz:ds.length=es.length
  .rw[KW hz];rw[hz,VE,Cw,U_0]at q;rw[hz];exact q
  .rw[KU hz];rw[Co.mpr hz,E8]at q;exact q
 refine⟨rc,?_,ne⟩;by_cases hlb:l=b
 .rw[hs hlb,hlb];exact WI _
 .exact WH hlb rc
theorem Lb{pI:Pn}{Y:L2.St}{H:Hp}{s:Aq}(I:Inv X pI Y H s):∀(n:Ag)(d e:D)(v w':V)(u t:Aj)(B:A2),flD n d=Aa->flD n e=Aa->Rep X.K CL H A0 v d->Rep X.K CL H A0 w' e->Bv v u->Bv w' t->B.units+n<Bz->Cn B s u t (eqD d e)
  |n,d,e,v,w',u,t,B,hd,he,r,q,rv,rw',hu=>by
    have hu0:B.units<Bz:=by omega
    have sd:=RT I hd r rv;have se:=RT I he q rw'
    match d,e,sd,se with
    |.non,.non,s1,s2=>cases s1;cases s2;exact pX
    |.non,.bl b,s1,s2=>cases s1;cases s2;exact qA b
    |.non,.int b,s1,s2=>cases s1;obtain⟨_,rfl⟩:=s2;exact pZ b _
    |.non,.str b,s1,s2=>cases s1;obtain⟨_,rfl⟩:=s2;exact pW b _
    |.non,.tup es,s1,s2=>cases s1;obtain⟨_,_,_,rfl,_,_,p⟩:=s2;exact pV p hu0
    |.non,.lst es,s1,s2=>cases s1;obtain⟨_,_,_,rfl,_,_,p⟩:=s2;exact pY p hu0
    |.bl a,.non,s1,s2=>cases s1;cases s2;exact rG a
    |.bl a,.bl b,s1,s2=>cases s1;cases s2;exact rK a b
    |.bl a,.int b,s1,s2=>cases s1;obtain⟨_,rfl⟩:=s2;exact rJ a b _
    |.bl a,.str b,s1,s2=>cases s1;obtain⟨_,rfl⟩:=s2;exact rF a b _
    |.bl a,.tup es,s1,s2=>cases s1;obtain⟨_,_,_,rfl,_,_,p⟩:=s2;exact rE a p hu0
    |.bl a,.lst es,s1,s2=>cases s1;obtain⟨_,_,_,rfl,_,_,p⟩:=s2;exact rH a p hu0
    |.int a,.non,s1,s2=>obtain⟨_,rfl⟩:=s1;cases s2;exact pB a _
    |.int a,.bl b,s1,s2=>obtain⟨_,rfl⟩:=s1;cases s2;exact pE b a _
    |.int a,.int b,s1,s2=>obtain⟨_,rfl⟩:=s1;obtain⟨_,rfl⟩:=s2;exact pD a _ b _
    |.int a,.str b,s1,s2=>obtain⟨_,rfl⟩:=s1;obtain⟨_,rfl⟩:=s2;exact pA a _ b _
    |.int a,.tup es,s1,s2=>obtain⟨_,rfl⟩:=s1;obtain⟨_,_,_,rfl,_,_,p⟩:=s2;exact oZ a _ p hu0
    |.int a,.lst es,s1,s2=>obtain⟨_,rfl⟩:=s1;obtain⟨_,_,_,rfl,_,_,p⟩:=s2;exact pC a _ p hu0
    |.str a,.non,s1,s2=>obtain⟨_,rfl⟩:=s1;cases s2;exact pR a _
    |.str a,.bl b,s1,s2=>obtain⟨_,rfl⟩:=s1;cases s2;exact pU b a _
    |.str a,.int b,s1,s2=>obtain⟨_,rfl⟩:=s1;obtain⟨_,rfl⟩:=s2;exact pT a _ b _
    |.str a,.str b,s1,s2=>obtain⟨_,rfl⟩:=s1;obtain⟨_,rfl⟩:=s2;exact pQ a _ b _
    |.str a,.tup es,s1,s2=>obtain⟨_,rfl⟩:=s1;obtain⟨_,_,_,rfl,_,_,p⟩:=s2;exact pP a _ p hu0
    |.str a,.lst es,s1,s2=>obtain⟨_,rfl⟩:=s1;obtain⟨_,_,_,rfl,_,_,p⟩:=s2;exact pS a _ p hu0
    |.tup ds,.non,s1,s2=>cases s2;obtain⟨_,_,_,rfl,_,_,p⟩:=s1;exact pK p hu0
    |.tup ds,.bl b,s1,s2=>cases s2;obtain⟨_,_,_,rfl,_,_,p⟩:=s1;exact pO b p hu0
    |.tup ds,.int b,s1,s2=>obtain⟨_,rfl⟩:=s2;obtain⟨_,_,_,rfl,_,_,p⟩:=s1;exact pM b _ p hu0
    |.tup ds,.str b,s1,s2=>obtain⟨_,rfl⟩:=s2;obtain⟨_,_,_,rfl,_,_,p⟩:=s1;exact pJ b _ p hu0
    |.tup ds,.lst es,s1,s2=>obtain⟨_,_,_,rfl,_,_,p⟩:=s1;obtain⟨_,_,_,rfl,_,_,p2⟩:=s2;exact pL p p2 hu0
    |.lst ds,.non,s1,s2=>cases s2;obtain⟨_,_,_,rfl,_,_,p⟩:=s1;exact oW p hu0
    |.lst ds,.bl b,s1,s2=>cases s2;obtain⟨_,_,_,rfl,_,_,p⟩:=s1;exact oY b p hu0
    |.lst ds,.int b,s1,s2=>obtain⟨_,rfl⟩:=s2;obtain⟨_,_,_,rfl,_,_,p⟩:=s1;exact oX b _ p hu0
    |.lst ds,.str b,s1,s2=>obtain⟨_,rfl⟩:=s2;obtain⟨_,_,_,rfl,_,_,p⟩:=s1;exact oV b _ p hu0
    |.lst ds,.tup es,s1,s2=>obtain⟨_,_,_,rfl,_,_,p⟩:=s1;obtain⟨_,_,_,rfl,_,_,p2⟩:=s2;exact qB p p2 hu0
    |.tup ds,.tup es,s1,s2=>
      match n,hd,he,hu with
      |n+1,hd,he,hu=>
        obtain⟨a,xs,its,rfl,r1,v1,p1⟩:=s1;obtain⟨b,ys,its2,rfl,r2,v2,p2⟩:=s2;have l1:=v1.length;have l2:=r1.length;have l3:=v2.length;have l4:=r2.length
        refine dP p1 p2 (by omega) (by omega) hu0 (λhab=>?_) λj h1 h2=>?_
        · have e1:v=.ref a:=Bv.inj rv rfl;have e2:w'=.ref b:=Bv.inj rw' rfl;subst e1 e2 hab;have z:=L5 I (n+1) _ _ hd he r q
          injection z with z
          rw[z];exact eqDs_refl n es he
        · obtain⟨x,rx,qx⟩:=Jt r1 v1 h1;obtain⟨y,ry,qy⟩:=Jt r2 v2 h2;exact(Lb I n _ _ x y _ _ B.in1 (Jm hd j) (Jm he j) rx ry qx qy (by show B.units+1+n<Bz;omega)).2.1
    |.lst ds,.lst es,s1,s2=>
      match n,hd,he,hu with
      |n+1,hd,he,hu=>
        obtain⟨a,xs,its,rfl,r1,v1,p1⟩:=s1;obtain⟨b,ys,its2,rfl,r2,v2,p2⟩:=s2;have l1:=v1.length;have l2:=r1.length;have l3:=v2.length;have l4:=r2.length
        refine dQ p1 p2 (by omega) (by omega) hu0 (λhab=>?_) λj h1 h2=>?_
        · have e1:v=.ref a:=Bv.inj rv rfl;have e2:w'=.ref b:=Bv.inj rw' rfl;subst e1 e2 hab;have z:=L5 I (n+1) _ _ hd he r q
          injection z with z
          rw[z];exact eqDs_refl n es he
        · obtain⟨x,rx,qx⟩:=Jt r1 v1 h1;obtain⟨y,ry,qy⟩:=Jt r2 v2 h2;exact(Lb I n _ _ x y _ _ B.in1 (Jm hd j) (Jm he j) rx ry qx qy (by show B.units+1+n<Bz;omega)).2.1
    |.obj _ _,_,s1,_=>exact s1.elim
    |.exc _ _,_,s1,_=>exact s1.elim
    |.dic _,_,s1,_=>exact s1.elim
    |_,.obj _ _,_,s2=>exact s2.elim
    |_,.exc _ _,_,s2=>exact s2.elim
    |_,.dic _,_,s2=>exact s2.elim
end
section
variable{X:Cx}{CL:ClA}{W:XW}
theorem Mi(I:Inv X pI Y H s){ds:Ac D}{its:Ac Aj}(B:A2)(hd:flD n d=Aa)(hs:ds.all (flD n)=Aa)(r:Reps X.K CL H A0 xs ds)(rv:A9 xs its)(q:Rep X.K CL H A0 v d)(qv:Bv v u)(hu:B.units+n<Bz):∃ e:Aj->Ai,(∀ y,y∈its.toArray->FU B s y u (e y))/\its.toArray.any e=ds.any λy=>eqD y d:=by
 have l1:=rv.length;have l2:=r.length
 have key:∀ y,y∈its->∃ k:Ai,FU B s y u k/\∀ j (h:j<its.length),its[j]=y->eqD (ds.getD j .non) d=k:=λy hy=>by
  obtain⟨j,hj,rfl⟩:=F5 hy;obtain⟨x,rx,qx⟩:=Jt r rv hj;refine⟨eqD (ds.getD j .non) d,(Lb I n _ _ x v _ _ B (Jm hs j) hd rx q qx qv hu).2.1,λj' hj' e=>?_⟩
  obtain⟨x',rx',qx'⟩:=Jt r rv hj';rw[e]at qx';have z:=Bv.inj qx qx';subst z;rw[L5 I n _ _ (Jm hs j') (Jm hs j) rx' rx]
 have key2:∀ y,∃ k:Ai,y∈its->FU B s y u k/\∀ j (h:j<its.length),its[j]=y->eqD (ds.getD j .non) d=k:=λy=>by
  by_cases hy:y∈its
  .obtain⟨k,hk⟩:=key y hy;exact⟨k,λ_=>hk⟩
  .exact⟨Aa,λh=>absurd h hy⟩
 refine⟨λy=>U_4 (key2 y),λy hy=>(DA (key2 y) (by simpa using hy)).1,?_⟩
 rw[Cp];simp only[List.any_toArray,Cs];constructor
 .rintro⟨y,hy,hk⟩;obtain⟨j,hj,rfl⟩:=F5 hy;have z:=(DA (key2 its[j]) hy).2 j hj rfl;rw[hk]at z;refine⟨ds.getD j .non,?_,z⟩;rw[DE,BV (by omega)]
  exact C4 _
 .rintro⟨y,hy,hk⟩;obtain⟨j,hj,rfl⟩:=F5 hy;have hj':j<its.length:=by omega
  refine⟨its[j],C4 _,?_⟩;have z:=(DA (key2 its[j]) (C4 _)).2 j hj' rfl;rw[<-z,DE,BV hj];exact hk
theorem LO{g:Ad->Ad->Ai}(ho:OpR X (B9 op) (rI0 λi j=>.bl (g i j)))(hg:∀ dx dy,(∃ i j,dx=.int i/\dy=.int j/\Bw op dx dy=.ok (.bl (g i j)))\/Bw op dx dy=.bad):OpD X CL W (B9 op) (Bw op):=by
 intro A pI s Y H x y v u Q I rx ry ⟨hA,dx,dy,hx,hy,p⟩;rcases hg dx dy with ⟨i,j,rfl,rfl,e⟩|e
 .have ex:=hx.int_of;have ey:=hy.int_of
  subst ex ey;rw[e]at p;exact ho pI s Y H _ _ v u Q I rx ry ⟨i,j,rfl,rfl,p _ H (AB.refl H) rfl⟩
 .rw[e]at p;exact p.elim
theorem SZ{x:V}(h:Cv X.K CL H A x d)(hd:d≠.non):x≠.non:=by
 rintro rfl;have h:=h.plain;cases d with
 |non=>exact hd rfl
 |tup=>obtain⟨_,_,e,_⟩:=h;cases e
 |lst=>obtain⟨_,_,e,_⟩:=h;cases e
 |obj=>obtain⟨_,_,_,_,e,_⟩:=h;cases e
 |exc=>obtain⟨_,_,_,e,_⟩:=h;cases e
 |dic=>obtain⟨_,_,e,_⟩:=h;cases e
 |_=>cases h
theorem Kb(hu:X.A.units+64<Bz)(op:Db):OpD X CL W (B9 op) (Bw op):=by
 cases op with
 |Eq=>
  intro A pI s Y H x y v u Q I rx ry ⟨hA,dx,dy,hx,hy,p⟩;rw[sN]at p;split at p
  .rename_i h;simp only[Ap]at h;exact(Lb I 5 dx dy x y v u X.A h.1 h.2 hx.plain hy.plain rx ry (by omega)).1 X.prog X.w X.xe _ ⟨.bl _,H,I,rfl,p _ H (AB.refl H) rfl⟩
  .exact p.elim
 |NotEq=>
  intro A pI s Y H x y v u Q I rx ry ⟨hA,dx,dy,hx,hy,p⟩;rw[qZ]at p;split at p
  .rename_i h;simp only[Ap]at h;exact(Lb I 5 dx dy x y v u X.A h.1 h.2 hx.plain hy.plain rx ry (by omega)).2.2 X.prog X.w X.xe _ ⟨.bl _,H,I,rfl,p _ H (AB.refl H) rfl⟩
  .exact p.elim
 |Lt=>
  refine LO qQ λdx dy=>?_
  cases dx with
  |int i=>
   cases dy with
   |int j=>exact .inl ⟨i,j,rfl,rfl,rfl⟩
   |_=>exact .inr rfl
  |_=>exact .inr rfl
 |LtE=>
  refine LO qR λdx dy=>?_
  cases dx with
  |int i=>
   cases dy with
   |int j=>exact .inl ⟨i,j,rfl,rfl,rfl⟩
   |_=>exact .inr rfl
  |_=>exact .inr rfl
 |Gt=>
  refine LO qS λdx dy=>?_
  cases dx with
  |int i=>
   cases dy with
   |int j=>exact .inl ⟨i,j,rfl,rfl,rfl⟩
   |_=>exact .inr rfl
  |_=>exact .inr rfl
 |GtE=>
  refine LO qT λdx dy=>?_
  cases dx with
  |int i=>
   cases dy with
   |int j=>exact .inl ⟨i,j,rfl,rfl,rfl⟩
   |_=>exact .inr rfl
  |_=>exact .inr rfl
 |In=>
  intro A pI s Y H x y v u Q I rx ry ⟨hA,dx,dy,hx,hy,p⟩;cases dy with
  |lst es=>
   rw[Xl]at p;split at p
   .rename_i h;simp only[Ap]at h;obtain⟨a,xs,e,_,sq,r⟩:=hy.plain;subst e;cases ry;obtain⟨its,rv,pl,_⟩:=I.list sq;obtain⟨e,he,ha⟩:=Mi I (n:=5) X.A.in1 h.1 h.2 r rv hx.plain rx (by show X.A.units+1+5<Bz;omega)
    refine SeqAt.in_listAt e (IF pl) he ?_;rw[ha];exact⟨.bl _,H,I,rfl,p _ H (AB.refl H) rfl⟩
   .exact p.elim
  |tup es=>
   rw[Xk]at p;split at p
   .rename_i h;simp only[Ap]at h;obtain⟨a,xs,e,_,sq,r⟩:=hy.plain;subst e;cases ry;obtain⟨its,rv,pl,_⟩:=I.tuple sq;obtain⟨e,he,ha⟩:=Mi I (n:=5) X.A.in1 h.1 h.2 r rv hx.plain rx (by show X.A.units+1+5<Bz;omega)
    refine SeqAt.in_tupleAt e pl he ?_;rw[ha];exact⟨.bl _,H,I,rfl,p _ H (AB.refl H) rfl⟩
   .exact p.elim
  |dic kvs=>
   obtain⟨a,es,rfl,hH,rk⟩:=hy.dic_of;have p':Bf (λH=>Rep X.K CL H A) W H (match Eb dx with|some k=>.ok (.bl (kvs.any λp=>p.1==k))|none=>.bad) Q:=p
   cases ek:Eb dx with
   |none=>rw[ek]at p';exact p'.elim
   |some k=>
    rw[ek]at p';obtain⟨ka,rfl,hk⟩:=J6 hx ek;cases rx;cases ry;exact nS (by omega) I hH rk hk λs' I'=>⟨.bl _,H,I',rfl,p' _ H (AB.refl H) rfl⟩
  |_=>exact p.elim
 |NotIn=>
  intro A pI s Y H x y v u Q I rx ry ⟨hA,dx,dy,hx,hy,p⟩;cases dy with
  |lst es=>
   rw[qX]at p;split at p
   .rename_i h;simp only[Ap]at h;obtain⟨a,xs,e,_,sq,r⟩:=hy.plain;subst e;cases ry;obtain⟨its,rv,pl,_⟩:=I.list sq;obtain⟨e,he,ha⟩:=Mi I (n:=5) X.A.in1 h.1 h.2 r rv hx.plain rx (by show X.A.units+1+5<Bz;omega)
    refine SeqAt.notIn_listAt e (IF pl) he ?_;rw[ha];exact⟨.bl _,H,I,rfl,p _ H (AB.refl H) rfl⟩
   .exact p.elim
  |tup es=>
   rw[qW]at p;split at p
   .rename_i h;simp only[Ap]at h;obtain⟨a,xs,e,_,sq,r⟩:=hy.plain;subst e;cases ry;obtain⟨its,rv,pl,_⟩:=I.tuple sq;obtain⟨e,he,ha⟩:=Mi I (n:=5) X.A.in1 h.1 h.2 r rv hx.plain rx (by show X.A.units+1+5<Bz;omega)
    refine SeqAt.notIn_tupleAt e pl he ?_;rw[ha];exact⟨.bl _,H,I,rfl,p _ H (AB.refl H) rfl⟩
   .exact p.elim
  |dic kvs=>
   obtain⟨a,es,rfl,hH,rk⟩:=hy.dic_of;have p':Bf (λH=>Rep X.K CL H A) W H (match Eb dx with|some k=>.ok (.bl (!kvs.any λp=>p.1==k))|none=>.bad) Q:=p
   cases ek:Eb dx with
   |none=>rw[ek]at p';exact p'.elim
   |some k=>
    rw[ek]at p';obtain⟨ka,rfl,hk⟩:=J6 hx ek;cases rx;cases ry;exact fQ (by omega) I hH rk hk λs' I'=>⟨.bl _,H,I',rfl,p' _ H (AB.refl H) rfl⟩
  |_=>exact p.elim
 |Is=>
  intro A pI s Y H x y v u Q I rx ry ⟨hA,dx,dy,hx,hy,p⟩;cases dy with
  |non=>
   have ey:=hy.non_of;subst ey;refine mI pI s Y H _ _ v u Q I rx ry ⟨rfl,?_⟩;cases dx with
   |non=>
    have ex:=hx.non_of;subst ex;exact p _ H (AB.refl H) rfl
   |exc=>exact p.elim
   |dic=>exact p.elim
   |_=>rw[BK (SZ hx (by simp))];exact p _ H (AB.refl H) rfl
  |bl b=>
   cases dx with
   |bl a=>
    have ey:=hy.bl_of;have ex:=hx.bl_of;subst ex ey;cases rx;cases ry;refine wpAny_is_plain rfl ⟨.bl (a==b),H,I,?_,p _ H (AB.refl H) rfl⟩;cases a<;>cases b<;>rfl
   |_=>exact p.elim
  |_=>cases dx<;>exact p.elim
 |IsNot=>
  intro A pI s Y H x y v u Q I rx ry ⟨hA,dx,dy,hx,hy,p⟩;cases dy with
  |non=>
   have ey:=hy.non_of;subst ey;refine dG pI s Y H _ _ v u Q I rx ry ⟨rfl,?_⟩;cases dx with
   |non=>
    have ex:=hx.non_of;subst ex;exact p _ H (AB.refl H) rfl
   |exc=>exact p.elim
   |dic=>exact p.elim
   |_=>rw[BK (SZ hx (by simp))];exact p _ H (AB.refl H) rfl
  |bl b=>
   cases dx with
   |bl a=>
    have ey:=hy.bl_of;have ex:=hx.bl_of;subst ex ey;cases rx;cases ry;refine wpAny_isNot_plain rfl ⟨.bl (!(a==b)),H,I,?_,p _ H (AB.refl H) rfl⟩;cases a<;>cases b<;>rfl
   |_=>exact p.elim
  |_=>cases dx<;>exact p.elim
end
section
variable{X:Cx}{CL:ClA}{W:XW}{a b c:Al}{fa fb fc:Rho->R D}{pos:AK}
theorem C1.bind{f:D->R Ai}{Q:Ai->Hp->Prop}{Q':VK}(h:C1 W H (r.bind f) Q)(k:∀ d v H',r=.ok d->AB H H'->Rp H' v d->C1 W H' (f d) Q->Q' v H'):Bf Rp W H r Q':=by
 cases r with
 |ok d=>exact λv H2 s2 q=>k d v H2 rfl s2 q (C1.same s2 h)
 |exn x=>exact h
 |bad=>exact h
theorem C1.bindB{r:R Ai}{f:Ai->R Ai}{Q:Ai->Hp->Prop}{Q':Ai->Hp->Prop}(h:C1 W H (r.bind f) Q)(k:∀ b H',r=.ok b->AB H H'->C1 W H' (f b) Q->Q' b H'):C1 W H r Q':=by
 cases r with
 |ok d=>exact λH2 s2=>k d H2 rfl s2 (C1.same s2 h)
 |exn x=>exact h
 |bad=>exact h
theorem G5.bind{Rp:Hp->Ac V->Ac D->Prop}{r:R (Ac D)}{f:Ac D->R D}{Q':Ac V->Hp->Prop}(h:Bf Rq W H (r.bind f) Q)(k:∀ d v H',r=.ok d->AB H H'->Rp H' v d->Bf Rq W H' (f d) Q->Q' v H'):G5 Rp W H r Q':=by
 cases r with
 |ok d=>exact λv H2 s2 q=>k d v H2 rfl s2 q (Bf.same s2 h)
 |exn x=>exact h
 |bad=>exact h
theorem LD{f:Ai->R D}(h:Bf Rq W H ((DM d).bind f) Q):∃ c,d=.bl c/\Bf Rq W H (f c) Q:=by
 cases d with
 |bl c=>exact⟨c,rfl,h⟩
 |_=>exact h.elim
theorem jH(ha:ST X CL W a fa):SE X CL W (.UnaryOp .Not a pos) (λZ=>(fa Z).bind λx=>(DM x).bind λb=>.ok (.bl (!b))):=λA=>PE.weak (lZ (ha A)) λY H Q ⟨hA,Z,g,p⟩=>⟨hA,Z,g,Bf.bind p λd v H1 _ s1 r1 p1=>by
 obtain⟨c,rfl,p2⟩:=LD p1;exact⟨c,r1.bl_of,p2 _ H1 (AB.refl H1) rfl⟩⟩
theorem Sy{op}(ha:SE X CL W a fa):SE X CL W (.BoolOp op [a] pos) fa:=λA=>lY (ha A)
theorem jO{rest:Ac Al}(ha:SE X CL W a fa)(hb:SE X CL W (.BoolOp .And (b::rest) pos) fb):SE X CL W (.BoolOp .And (a::b::rest) pos) (λZ=>(fa Z).bind λx=>(DM x).bind λc=>if c=Aa then fb Z else .ok (.bl Ae)):=
 λA=>PE.weak (mD (ha A) (hb A)) λY H Q ⟨hA,Z,g,p⟩=>⟨hA,Z,g,Bf.bind p λd v H1 _ s1 r1 p1=>by
  obtain⟨c,rfl,p2⟩:=LD p1;refine⟨c,r1,?_⟩;cases c with
  |true=>exact⟨hA.same s1,Z,g.same s1,p2⟩
  | false=>exact p2 _ H1 (AB.refl H1) rfl⟩
theorem pF{rest:Ac Al}(ha:SE X CL W a fa)(hb:SE X CL W (.BoolOp .Or (b::rest) pos) fb):SE X CL W (.BoolOp .Or (a::b::rest) pos) (λZ=>(fa Z).bind λx=>(DM x).bind λc=>if c=Aa then .ok (.bl Aa) else fb Z):=
 λA=>PE.weak (sC (ha A) (hb A)) λY H Q ⟨hA,Z,g,p⟩=>⟨hA,Z,g,Bf.bind p λd v H1 _ s1 r1 p1=>by
  obtain⟨c,rfl,p2⟩:=LD p1;refine⟨c,r1,?_⟩;cases c with
  |false=>exact⟨hA.same s1,Z,g.same s1,p2⟩
  | true=>exact p2 _ H1 (AB.refl H1) rfl⟩
theorem ZA{op':Db}(hu:X.A.units+64<Bz)(ha:ST X CL W a fa)(hb:ST X CL W b fb)(hc:ST X CL W c fc)(hm:Ix [op,op'] [b,c]=Ae):SE X CL W (.Compare a [op,op'] [b,c] pos) (λZ=>(fa Z).bind λx=>(fb Z).bind λy=>(Bw op x y).bind λz=>(DM z).bind λk=>if k=Aa then (fc Z).bind λu=>Bw op' y u else .ok (.bl Ae)):=
 λA=>PE.weak (ZP (Kb hu op A) (Kb hu op' A) (ha A) (hb A) (hc A) hm) λY H Q ⟨hA,Z,g,p⟩=>⟨hA,Z,g,Bf.bind p λdx x H1 _ s1 r1 p1=>⟨hA.same s1,Z,g.same s1,Bf.bind p1 λdy y H2 _ s2 r2 p2=>
  ⟨(hA.same s1).same s2,dx,dy,r1.same s2,r2,Bf.bind p2 λdz z H3 _ s3 r3 p3=>by
   obtain⟨k,rfl,p4⟩:=LD p3;refine⟨k,r3,?_⟩;cases k with
   |false=>exact p4 _ H3 (AB.refl H3) rfl
   | true=>exact⟨((hA.same s1).same s2).same s3,Z,((g.same s1).same s2).same s3,Bf.bind p4 λdu u H4 _ s4 r4 p5=>⟨(((hA.same s1).same s2).same s3).same s4,dy,du,(r2.same s3).same s4,r4,p5⟩⟩⟩⟩⟩
theorem fF{xs:Ac D}{i:Ad}(h:CN xs i=.ok d):∃ k,plD xs.length i=Ab k/\xs[k]?=Ab d:=by
 unfold CN at h;split at h
 .rename_i k e;split at h
  .rename_i d' e';cases h;exact⟨k,e,e'⟩
  .cases h
 .cases h
theorem Q6{xs:Ac D}{i:Ad}(h:CN xs i=.exn x):Bk:=by
 unfold CN at h;split at h
 .split at h<;>cases h
 .cases h
theorem R0{ds:Ac D}{i:Ad}(r:Reps K CL H A xs ds)(h:CN ds i=.ok d):∃ v,atI xs i=Ab v/\Rep K CL H A v d:=by
 obtain⟨k,e,q⟩:=fF h;obtain⟨v,hv,rv⟩:=r.get q;refine⟨v,?_,rv⟩;unfold atI;have:ixN xs.length i=Ab k:=by rw[r.length];exact e
 rw[this];exact hv
theorem jL(hu:X.A.units+64<Bz)(hs:Oa b)(ha:ST X CL W a fa)(hb:ST X CL W b fb):SE X CL W (.Subscript a b pos) (λZ=>(fa Z).bind λx=>(fb Z).bind λy=>Ec x y):=
 λA=>PE.weak (TX (r:=λx y H Q=>(UN X.K x y H Q\/Um X.K x y H Q)\/UO X.K CL A x y H Q) ((gP.or SY).or (lI (by omega))) (ha A) (hb A) hs) λY H Q h=>by
  obtain⟨hA,Z,g,h⟩:=op2 h;refine⟨hA,Z,g,?_⟩;cases e:fa Z with
  |bad=>rw[e]at h;exact h
  |exn x=>rw[e]at h;exact h
  |ok dx0=>
   rw[e]at h;intro x H1 s1 r1;obtain⟨hA1,Z1,g1,h1⟩:=h x H1 s1 r1;refine⟨hA1,Z1,g1,?_⟩;cases e1:fb Z1 with
   |bad=>rw[e1]at h1;exact h1
   |exn x=>rw[e1]at h1;exact h1
   |ok dy0=>
    rw[e1]at h1;intro y H2 s2 r2;obtain⟨hA2,dx,dy,rx,ry,p⟩:=h1 y H2 s2 r2;cases dy with
    |int i=>
     have ey:=ry.int_of;subst ey;cases dx with
     |lst ds=>
      obtain⟨q,xs,rfl,sq,r⟩:=rx.lst_of;rw[sS]at p;cases e2:CN ds i with
      |ok d=>
       rw[e2]at p;obtain⟨v,hv,rv⟩:=R0 r e2;exact .inl (.inl ⟨q,xs,i,v,rfl,rfl,sq,hv,p v H2 (AB.refl H2) rv⟩)
      |exn x=>exact(Q6 e2).elim
      |bad=>rw[e2]at p;exact p.elim
     |tup ds=>
      obtain⟨q,xs,rfl,_,sq,r⟩:=rx.tup_of;rw[sR]at p;cases e2:CN ds i with
      |ok d=>
       rw[e2]at p;obtain⟨v,hv,rv⟩:=R0 r e2;exact .inl (.inr ⟨q,xs,i,v,rfl,rfl,sq,hv,p v H2 (AB.refl H2) rv⟩)
      |exn x=>exact(Q6 e2).elim
      |bad=>rw[e2]at p;exact p.elim
     |_=>exact p.elim
    |tup es=>
     cases dx with
     |dic kvs=>
      have p':Bf (λH=>Rep X.K CL H A) W H2 (match (Eb (.tup es)).bind (Cu kvs) with|some d=>.ok d|none=>.bad) Q:=p
      cases ek:Eb (.tup es) with
      |none=>rw[ek]at p';exact p'.elim
      |some k=>
       rw[ek]at p';have p2:Bf (λH=>Rep X.K CL H A) W H2 (match Cu kvs k with|some d=>.ok d|none=>.bad) Q:=p'
       cases eg:Cu kvs k with
       |none=>rw[eg]at p2;exact p2.elim
       |some d=>
        rw[eg]at p2;obtain⟨a,es',rfl,hH,rk⟩:=rx.dic_of;obtain⟨ka,rfl,hk⟩:=J6 ry ek;exact .inr ⟨a,ka,es',kvs,k,d,rfl,rfl,hH,rk,hk,eg,λv rv=>p2 v H2 (AB.refl H2) rv⟩
     |_=>exact p.elim
    |_=>cases dx<;>exact p.elim
theorem jS:SA X CL W [] (λ_=>.ok []):=λA=>PA.weak FX λY H Q ⟨hA,Z,g,p⟩=>p [] H (AB.refl H) trivial
theorem dJ(ha:SE X CL W a fa)(hs:SA X CL W es fs)(hst:Av (a::es) X.env=(Ae,eval a X.env)::Av es X.env):SA X CL W (a::es) (λZ=>(fa Z).bind λx=>(fs Z).bind λxs=>.ok (x::xs)):=
 λA=>PA.weak (ED (ha A) (hs A) hst) λY H Q ⟨hA,Z,g,p⟩=>by
  dsimp only at p;refine⟨hA,Z,g,?_⟩;cases e:fa Z with
  |bad=>rw[e]at p;exact p
  |exn x=>rw[e]at p;exact p
  |ok d=>
   rw[e]at p;intro v H1 s1 r1;refine⟨hA.same s1,Z,g.same s1,?_⟩;cases e1:fs Z with
   |bad=>rw[R.bind_ok,e1]at p;exact p
   |exn x=>rw[R.bind_ok,e1]at p;exact λH2 s2=>p H2 (s1.trans s2)
   |ok ds=>
    rw[R.bind_ok,e1]at p;exact λvs H2 s2 r2=>p (v::vs) H2 (s1.trans s2) ⟨r1.same s2,r2⟩
theorem jF{k:Ag}(hs:SA X CL W es fs)(hz:∀ Z ds,fs Z=.ok ds->ds.length<=100000):SE X CL W (.Tuple es k pos) (λZ=>(fs Z).bind λxs=>.ok (.tup xs)):=
 λA=>PE.weak (SH (hs A)) λY H Q ⟨hA,Z,g,p⟩=>⟨hA,Z,g,G5.bind p λds vs H1 e s1 r1 p1=>⟨by
  rw[r1.length,EO];have:=hz Z ds e;omega,λq hq=>p1 _ _ (Fe hq _) (Ji (hA.same s1) hq r1)⟩⟩
def JA(W:XW)(H:Hp)(r:R (Ao Ad))(Q:Ao Ad->Hp->Prop):Prop:=match r with
  |.ok o=>∀ H',AB H H'->Q o H'
  |.exn x=>∀ H',AB H H'->W x H'
  |.bad=>Bk
theorem JA.bind{r:R (Ao Ad)}{f:Ao Ad->R D}(h:Bf Rq W H (r.bind f) Q)(k:∀ o H',r=.ok o->AB H H'->Bf Rq W H' (f o) Q->Q' o H'):JA W H r Q':=by
 cases r with
 |ok d=>exact λH2 s2=>k d H2 rfl s2 (Bf.same s2 h)
 |exn x=>exact h
 |bad=>exact h
def SO(X:Cx)(CL:ClA)(W:XW)(e:Ao Al)(f:Rho->R (Ao Ad)):Prop:=∀ A,PO X e (λY H Q=>AOk H A/\∃ Z,Good X.K CL A Z Y H/\JA W H (f Z) Q)
theorem PO.weak{e:Ao Al}{t t':TO}(h:PO X e t)(k:∀ Y H Q,t' Y H Q->t Y H Q):PO X e t':=λpI s Y H Q I q=>h pI s Y H Q I (k _ _ _ q)
theorem bC:SO X CL W Af (λ_=>.ok Af):=λA=>PO.weak cP λY H Q ⟨hA,Z,g,p⟩=>p H (AB.refl H)
theorem aZ(ha:ST X CL W a fa):SO X CL W (Ab a) (λZ=>(fa Z).bind λd=>(EG d).bind λi=>.ok (Ab i)):=λA=>PO.weak (cO (ha A)) λY H Q ⟨hA,Z,g,p⟩=>by
 dsimp only at p;refine⟨hA,Z,g,?_⟩;cases e:fa Z with
 |bad=>rw[e]at p;exact p
 |exn x=>rw[e]at p;exact p
 |ok d=>
  rw[e]at p;intro v H1 s1 r1;cases d with
  |int i=>exact⟨i,r1.int_of,p H1 s1⟩
  |_=>exact p.elim
theorem Sg{ds:Ac D}(lo hi:Ao Ad)(r:Reps K CL H A xs ds):Reps K CL H A (IM xs lo hi) (KA ds lo hi):=by
 unfold IM KA;have e:∀ d o,HT.sIx xs.length d o=Gj ds.length d o:=λd o=>by rw[r.length];cases o<;>rfl
 rw[e,e,r.length];exact(r.drop _).take _
end
section
variable{X:Cx}{CL:ClA}{W:XW}{a b c:Al}{fa fb fc:Rho->R D}{pos:AK}
def Gf(K:Fg)(CL:ClA)(H:Hp)(A:Ah->Prop):Ac V->Ac D->Prop
 |[],[]=>GW
 |v::vs,d::ds=>Cv K CL H A v d/\Gf K CL H A vs ds
 |_,_=>Bk
theorem Gf.same{K:Fg}{H H':Hp}{A:Ah->Prop}(s:AB H H'):∀{vs:Ac V}{ds:Ac D},Gf K CL H A vs ds->Gf K CL H' A vs ds
 |[],[],h=>h
 |_::_,_::_,h=>⟨h.1.same s,Gf.same s h.2⟩
 |[],_::_,h=>h.elim
 |_::_,[],h=>h.elim
theorem Gf.one{vs:Ac V}(h:Gf K CL H A vs [d]):∃ v,vs=[v]/\Cv K CL H A v d:=by
 cases vs with
 |nil=>exact h.elim
 |cons v vs=>
  cases vs with
  |nil=>exact⟨v,rfl,h.1⟩
  |cons=>exact h.2.elim
def SAT(X:Cx)(CL:ClA)(W:XW)(es:Ac Al)(f:Rho->R (Ac D)):Prop:=∀ A,PA X es (λY H Q=>AOk H A/\∃ Z,Good X.K CL A Z Y H/\G5 (λH=>Gf X.K CL H A) W H (f Z) Q)
theorem aE:SAT X CL W [] (λ_=>.ok []):=λA=>PA.weak FX λY H Q ⟨hA,Z,g,p⟩=>p [] H (AB.refl H) trivial
theorem ZC(ha:ST X CL W a fa)(hs:SAT X CL W es fs)(hst:Av (a::es) X.env=(Ae,eval a X.env)::Av es X.env):SAT X CL W (a::es) (λZ=>(fa Z).bind λx=>(fs Z).bind λxs=>.ok (x::xs)):=
 λA=>PA.weak (ED (ha A) (hs A) hst) λY H Q ⟨hA,Z,g,p⟩=>by
  dsimp only at p;refine⟨hA,Z,g,?_⟩;cases e:fa Z with
  |bad=>rw[e]at p;exact p
  |exn x=>rw[e]at p;exact p
  |ok d=>
   rw[e]at p;intro v H1 s1 r1;refine⟨hA.same s1,Z,g.same s1,?_⟩;cases e1:fs Z with
   |bad=>rw[R.bind_ok,e1]at p;exact p
   |exn x=>rw[R.bind_ok,e1]at p;exact λH2 s2=>p H2 (s1.trans s2)
   |ok ds=>
    rw[R.bind_ok,e1]at p;exact λvs H2 s2 r2=>p (v::vs) H2 (s1.trans s2) ⟨r1.same s2,r2⟩
def Km(X:Cx)(CL:ClA)(W:XW)(f:Aj)(g:Ac D->R D):Prop:=∀ A,II X f (λxs H Q=>AOk H A/\∃ ds,Gf X.K CL H A xs ds/\Bf (λH=>Rep X.K CL H A) W H (g ds) Q)
theorem OF{x:Ak}{id:CG}{g:Ac D->R D}(hc:Km X CL W (.builtin id) g)(hg:Gl X x)(hm:X.mg x=Af)(hv:C0 x=Ab (.builtin id))(ha:SAT X CL W (e::es) fs)(hn:x≠"__name__")(hdb:(x==("__debug__" : Ak))=Ae)(he:Av (e::es) X.env=(Ae,eval e X.env)::Av es X.env)(hpl:∀ pos,(BX pos (Av es X.env)).any (·.1)=Ae):SE X CL W (.Call (.Name x p) (e::es) [] pos) (λZ=>(fs Z).bind g):=λA=>PE.weak (QZ (hc A) hg hm hv (ha A) hn hdb he (hpl _)) λY H Q ⟨hA,Z,gd,q⟩=>⟨hA,Z,gd,G5.bind q λds vs H1 _ s1 r1 p1=>⟨hA.same s1,ds,r1,p1⟩⟩
theorem jN{x:Ak}{g:Ac D->R D}(hc:Km X CL W (.type T) g)(hg:Gl X x)(hm:X.mg x=Af)(hv:C0 x=Ab (.type T))(ha:SAT X CL W (e::es) fs)(hn:x≠"__name__")(hdb:(x==("__debug__" : Ak))=Ae)(he:Av (e::es) X.env=(Ae,eval e X.env)::Av es X.env)(hpl:∀ pos,(BX pos (Av es X.env)).any (·.1)=Ae):SE X CL W (.Call (.Name x p) (e::es) [] pos) (λZ=>(fs Z).bind g):=λA=>PE.weak (QC (hc A) hg hm hv (ha A) hn hdb he (hpl _)) λY H Q ⟨hA,Z,gd,q⟩=>⟨hA,Z,gd,G5.bind q λds vs H1 _ s1 r1 p1=>⟨hA.same s1,ds,r1,p1⟩⟩
theorem nC:Km X CL W (.builtin "len") (biD .len):=by
  intro A pI s Y H xs us Q I r ⟨hA,ds,rs,p⟩
  match ds,rs,p with
  |[.lst es],rs,p=>
    obtain⟨v,rfl,rv⟩:=rs.one;obtain⟨q,ys,rfl,sq,ry⟩:=rv.lst_of;exact PX pI s Y H _ us Q I r ⟨q,ys,rfl,.inl sq,p _ H (AB.refl H) (by rw[ry.length];rfl)⟩
  |[.tup es],rs,p=>
    obtain⟨v,rfl,rv⟩:=rs.one;obtain⟨q,ys,rfl,_,sq,ry⟩:=rv.tup_of;exact PX pI s Y H _ us Q I r ⟨q,ys,rfl,.inr sq,p _ H (AB.refl H) (by rw[ry.length];rfl)⟩
  |[.str x],rs,p=>
    obtain⟨v,rfl,rv⟩:=rs.one;have e:=rv.str_of;subst e;have p':Bf (λH=>Rep X.K CL H A) W H (if B4 x.length=Aa then .ok (.int x.length) else .bad) Q:=p
    split at p'
    · rename_i h;exact Yd pI s Y H _ us Q I r ⟨x,rfl,Ga h,p' _ H (AB.refl H) rfl⟩
    · exact p'.elim
  |[],_,p=>exact p.elim
  |[.non],_,p=>exact p.elim
  |[.bl _],_,p=>exact p.elim
  |[.int _],_,p=>exact p.elim
  |[.obj _ _],_,p=>exact p.elim
  |[.exc _ _],_,p=>exact p.elim
  |[.dic kvs],rs,p=>
    obtain⟨v,rfl,rv⟩:=rs.one;have p':Bf (λH=>Rep X.K CL H A) W H (if B4 kvs.length=Aa then .ok (.int kvs.length) else .bad) Q:=p
    split at p'
    · rename_i h;obtain⟨a,es,rfl,hH,rk⟩:=rv.dic_of;cases r with
      |cons r1 r2=>
        cases r1;cases r2;exact fU I hH rk (Ga h) λs' t I'=>⟨.int _,H,I',⟨t,rfl⟩,p' _ H (AB.refl H) rfl⟩
    · exact p'.elim
  |x::_::_,_,p=>cases x<;>exact p.elim
theorem Z_1:Km X CL W (.type "tuple") (biD .tuple):=by
  intro A pI s Y H xs us Q I r ⟨hA,ds,rs,p⟩
  match ds,rs,p with
  |[.lst es],rs,p=>
    obtain⟨v,rfl,rv⟩:=rs.one;obtain⟨q,ys,rfl,sq,ry⟩:=rv.lst_of;exact PQ pI s Y H _ us Q I r ⟨q,ys,rfl,.inl ⟨sq,λl hl=>p _ _ (Fe hl _) (Ji hA hl ry)⟩⟩
  |[.tup es],rs,p=>
    obtain⟨v,rfl,rv⟩:=rs.one;obtain⟨q,ys,rfl,na,sq,ry⟩:=rv.tup_of;exact PQ pI s Y H _ us Q I r ⟨q,ys,rfl,.inr ⟨sq,p _ H (AB.refl H) ⟨q,ys,rfl,na,sq,ry⟩⟩⟩
  |[],_,p=>exact p.elim
  |[.non],_,p=>exact p.elim
  |[.bl _],_,p=>exact p.elim
  |[.int _],_,p=>exact p.elim
  |[.str _],_,p=>exact p.elim
  |[.obj _ _],_,p=>exact p.elim
  |[.exc _ _],_,p=>exact p.elim
  |[.dic _],rs,p=>first|exact p.elim|(obtain⟨v,rfl,rv⟩:=rs.one;exact rv.plain.elim)
  |x::_::_,_,p=>cases x<;>exact p.elim
end
section
variable{X:Cx}{CL:ClA}{W:XW}{a b c:Al}{fa fb fc:Rho->R D}{pos:AK}
theorem SB.congr{g:Rho->R Ai}(h:SB X CL W a f)(e:∀ Z,g Z=f Z):SB X CL W a g:=λA=>PT.weak (h A) λY H Q ⟨hA,Z,q,p⟩=>⟨hA,Z,q,by rw[<-e];exact p⟩
theorem jQ(ha:SB X CL W a f):SB X CL W (.UnaryOp .Not a pos) (λZ=>(f Z).bind λb=>.ok (!b)):=λA=>PT.weak (lQ (ha A)) λY H Q ⟨hA,Z,g,p⟩=>⟨hA,Z,g,C1.bindB p λb H1 _ s1 p1=>p1 H1 (AB.refl H1)⟩
def SW(X:Cx)(CL:ClA)(W:XW)(e:Al)(f:Rho->R Ai):Prop:=∀ A,PW X e (λY H Q=>AOk H A/\∃ Z,Good X.K CL A Z Y H/\C1 W H (f Z) Q)
theorem PW.weak{t t':TT}(h:PW X e t)(k:∀ Y H Q,t' Y H Q->t Y H Q):PW X e t':=λwh pI s Y H Q I q=>h wh pI s Y H Q I (k _ _ _ q)
theorem SW.sb(h:SW X CL W a f):SB X CL W a f:=λA=>PW.pt (h A)
theorem SW.congr{g:Rho->R Ai}(h:SW X CL W a f)(e:∀ Z,g Z=f Z):SW X CL W a g:=λA=>PW.weak (h A) λY H Q ⟨hA,Z,q,p⟩=>⟨hA,Z,q,by rw[<-e];exact p⟩
theorem aM(ha:SB X CL W a f):SW X CL W (.BoolOp .And [a] pos) f:=λA=>eN (ha A)
theorem jY(ha:SB X CL W a f):SW X CL W (.BoolOp .Or [a] pos) f:=λA=>lO (ha A)
theorem jZ{g:Rho->R Ai}{rest:Ac Al}(ha:SB X CL W a f)(hb:SW X CL W (.BoolOp .And (b::rest) pos) g):SW X CL W (.BoolOp .And (a::b::rest) pos) (λZ=>(f Z).bind λc=>if c=Aa then g Z else .ok Ae):=
 λA=>PW.weak (lP (ha A) (hb A)) λY H Q ⟨hA,Z,gd,p⟩=>⟨hA,Z,gd,C1.bindB p λc H1 _ s1 p1=>by
  cases c with
  |true=>exact⟨hA.same s1,Z,gd.same s1,p1⟩
  | false=>exact p1 H1 (AB.refl H1)⟩
theorem oO{g:Rho->R Ai}{rest:Ac Al}(ha:SB X CL W a f)(hb:SW X CL W (.BoolOp .Or (b::rest) pos) g):SW X CL W (.BoolOp .Or (a::b::rest) pos) (λZ=>(f Z).bind λc=>if c=Aa then .ok Aa else g Z):=
 λA=>PW.weak (rY (ha A) (hb A)) λY H Q ⟨hA,Z,gd,p⟩=>⟨hA,Z,gd,C1.bindB p λc H1 _ s1 p1=>by
  cases c with
  |false=>exact⟨hA.same s1,Z,gd.same s1,p1⟩
  | true=>exact p1 H1 (AB.refl H1)⟩
theorem jR(ho:OpD X CL W (B9 op) g)(ha:ST X CL W a fa)(hb:ST X CL W b fb)(hm:Gw op b=Ae):SB X CL W (.Compare a [op] [b] pos) (λZ=>(fa Z).bind λx=>(fb Z).bind λy=>(g x y).bind DM):=
 λA=>PT.weak (cM (ho A) (ha A) (hb A) hm) λY H Q ⟨hA,Z,gd,p⟩=>⟨hA,Z,gd,C1.bind p λdx x H1 _ s1 r1 p1=>⟨hA.same s1,Z,gd.same s1,C1.bind p1 λdy y H2 _ s2 r2 p2=>
  ⟨(hA.same s1).same s2,dx,dy,r1.same s2,r2,C1.bind p2 λdz z H3 _ s3 r3 p3=>by
   cases dz with
   |bl k=>exact⟨k,r3,p3 H3 (AB.refl H3)⟩
   | _=>exact p3.elim⟩⟩⟩
theorem ZB{op':Db}(hu:X.A.units+64<Bz)(ha:ST X CL W a fa)(hb:ST X CL W b fb)(hc:ST X CL W c fc)(hm:Ix [op,op'] [b,c]=Ae):SB X CL W (.Compare a [op,op'] [b,c] pos) (λZ=>(fa Z).bind λx=>(fb Z).bind λy=>(Bw op x y).bind λz=>(DM z).bind λk=>if k=Aa then (fc Z).bind λu=>(Bw op' y u).bind DM else .ok Ae):=
  λA=>PT.weak (ZL (Kb hu op A) (Kb hu op' A) (ha A) (hb A) (hc A) hm) λY H Q ⟨hA,Z,g,p⟩=>⟨hA,Z,g,C1.bind p λdx x H1 _ s1 r1 p1=>⟨hA.same s1,Z,g.same s1,C1.bind p1 λdy y H2 _ s2 r2 p2=>
    ⟨(hA.same s1).same s2,dx,dy,r1.same s2,r2,C1.bind p2 λdz z H3 _ s3 r3 p3=>by
      cases dz with
      |bl k=>
        refine⟨k,r3,?_⟩;cases k with
        |false=>exact⟨Ae,rfl,p3 H3 (AB.refl H3)⟩
        | true=>exact⟨((hA.same s1).same s2).same s3,Z,((g.same s1).same s2).same s3,C1.bind p3 λdu u H4 _ s4 r4 p5=>⟨(((hA.same s1).same s2).same s3).same s4,dy,du,(r2.same s3).same s4,r4,C1.bind p5 λdv v H5 _ s5 r5 p6=>by
            cases dv with
            |bl k'=>exact⟨k',r5,p6 H5 (AB.refl H5)⟩
            | _=>exact p6.elim⟩⟩
      | _=>exact p3.elim⟩⟩⟩
theorem jP(ha:ST X CL W a fa)(he:∀ whole,HI a X.env whole=(do let v <-whole;HM a.pos;holding [v] (truthy v))):SB X CL W a (λZ=>(fa Z).bind BY):=
 λA=>PT.weak (ZK (ha A) he) λY H Q ⟨hA,Z,g,p⟩=>⟨hA,Z,g,C1.bind p λd v H1 _ s1 r1 p1=>by
  cases d with
  |non=>
   have e:=r1.non_of;subst e;exact⟨Ae,rfl,p1 H1 (AB.refl H1)⟩
  |bl b=>
   have e:=r1.bl_of;subst e;exact⟨b,rfl,p1 H1 (AB.refl H1)⟩
  |int i=>
   have e:=r1.int_of;subst e;exact⟨_,rfl,p1 H1 (AB.refl H1)⟩
  |str x=>
   have e:=r1.str_of;subst e;have p2:C1 W H1 (if B4 x.length=Aa then .ok (x.length != 0) else .bad) Q:=p1
   split at p2
   .rename_i h;refine⟨_,⟨Ga h,rfl⟩,?_⟩;have e:((x.length:Ad) != 0)=(x.length != 0):=by
     rw[Cp];simp
    rw[e];exact p2 H1 (AB.refl H1)
   .exact p2.elim
  |tup ds=>
   obtain⟨q,xs,rfl,_,sq,r⟩:=r1.tup_of;refine⟨_,.inr (.inl ⟨xs,sq,rfl⟩),?_⟩;have e:xs.isEmpty=ds.isEmpty:=by
    have:=r.length;cases xs<;>cases ds<;>first|rfl|cases this
   rw[e];exact p1 H1 (AB.refl H1)
  |lst ds=>
   obtain⟨q,xs,rfl,sq,r⟩:=r1.lst_of;refine⟨_,.inl ⟨xs,sq,rfl⟩,?_⟩;have e:xs.isEmpty=ds.isEmpty:=by
    have:=r.length;cases xs<;>cases ds<;>first|rfl|cases this
   rw[e];exact p1 H1 (AB.refl H1)
  | _=>exact p1.elim⟩
noncomputable def XD(K:Fg)(CL:ClA)(H:Hp)(A:Ah->Prop)(cls:Aj)(dx:Ao Ah)(x:Ex):Prop:=
 ∃ C,CL x.c=Ab C/\cls=.ref C/\(x.fs=[]\/∃ d vs,dx=Ab d/\¬ A d/\H d=Ab (.xd vs)/\Repf K CL H A vs x.fs)
def G4(K:Fg)(CL:ClA)(H:Hp)(cls:Aj)(dx:Ao Ah)(x:Ex):Prop:=∀ A,AOk H A->XD K CL H A cls dx x
end
def By(B:Ah->Prop)(Z:Rho)(Y:L2.St):Ah->Prop:=λa=>B a\/∃(j:Ag)(d:D),Z[j]?=Ab (Ab (d,Aa))/\Y[j]?=Ab (Ab (.ref a))
structure Sx (K:Fg) (CL:ClA) (Fz:Ah->HO->Prop) (B:Ah->Prop) (Z:Rho) (Y:L2.St) (H:Hp):Prop where
 good:Good K CL (By B Z Y) Z Y H
 aok:AOk H (By B Z Y)
 new:∀(j:Ag)(d:D)(a:Ah),Z[j]?=Ab (Ab (d,Aa))->Y[j]?=Ab (Ab (.ref a))->(∀ o,¬ Fz a o)/\¬ B a
 dis:∀(i j:Ag)(d e:D)(a:Ah),Z[i]?=Ab (Ab (d,Aa))->Z[j]?=Ab (Ab (e,Aa))->Y[i]?=Ab (Ab (.ref a))->Y[j]?=Ab (Ab (.ref a))->i=j
 same:∀ b o,Fz b o->H b=Ab o
 len:Z.length=Y.length
def FT(K:Fg)(CL:ClA)(A N:Ah->Prop)(H:Hp)(v:V)(d:D):Prop:=∀ ds,d=.tup ds->ds.any G6=Aa->∃ q us,v=.ref q/\SqT K H q us/\Reps K CL H A us ds/\∀(k:Ag)(es:Ac D),ds[k]?=Ab (.lst es)->∃ a xs,us[k]?=Ab (.ref a)/\N a/\H a=Ab (.lst xs)/\xs.length=es.length
theorem FT.no{N:Ah->Prop}(h:∀ ds,d≠.tup ds):FT K CL A N H v d:=λds e=>absurd e (h ds)
theorem FT.mono{N N':Ah->Prop}(h:FT K CL A N H v d)(s:∀ a,N a->N' a):FT K CL A N' H v d:=λds e z=>let ⟨q,us,h1,h2,h3,h4⟩:=h ds e z;⟨q,us,h1,h2,h3,λk es e=>let ⟨a,xs,z1,z2,z3⟩:=h4 k es e;⟨a,xs,z1,s a z2,z3⟩⟩
def BJ(K:Fg)(CL:ClA)(Fz:Ah->HO->Prop)(B:Ah->Prop)(W:XW)(o:O)(D:Ends):Prop:=match o with
  |.next Z=>∀ Y H,Sx K CL Fz B Z Y H->D.nx Y H
  |.brk Z=>∀ Y H,Sx K CL Fz B Z Y H->D.bk Y H
  |.cont Z=>∀ Y H,Sx K CL Fz B Z Y H->D.ct Y H
  |.ret d fr=>∀ v H,(∀ b o,Fz b o->H b=Ab o)->Rep K CL H B v d->(fr=Aa->∀ ds,d=.lst ds->∃ a xs,v=.ref a/\(∀ o,¬ Fz a o)/\H a=Ab (.lst xs)/\Reps K CL H (λb=>B b\/b=a) xs ds)->(fr=Aa->FT K CL B (λa=>∀ o,¬ Fz a o) H v d)->D.rt v H
  |.exn x _=>∀ H,(∀ b o,Fz b o->H b=Ab o)->W x H
  |.bad=>Bk
section
variable{K:Fg}{CL:ClA}{Fz Fy:Ah->HO->Prop}{B:Ah->Prop}{Z:Rho}{Y:L2.St}{H H':Hp}
theorem Sx.mono(k:∀ b o,Fz b o->Fy b o)(x:Sx K CL Fy B Z Y H):Sx K CL Fz B Z Y H:=⟨x.good,x.aok,λj d a h1 h2=>⟨λo z=>(x.new j d a h1 h2).1 o (k _ _ z),(x.new j d a h1 h2).2⟩,x.dis,λb o z=>x.same b o (k _ _ z),x.len⟩
theorem Sx.grow(x:Sx K CL Fz B Z Y H)(s:AB H H'):Sx K CL Fz B Z Y H':=⟨x.good.same s,x.aok.same s,x.new,x.dis,λb o z=>s _ _ (x.same b o z),x.len⟩
theorem Cb{l:Ac α}{v:α}(h:i≠j):(l.set i v)[j]?=l[j]?:=by rw[FK h]
theorem Gb{l:Ac α}{v w':α}(h:(l.set i v)[i]?=Ab w'):w'=v:=by
 rw[Fd]at h;cases e:l[i]? with
 |none=>rw[e]at h;cases h
 |some x=>rw[e]at h;cases h;rfl
theorem Sx.set(x:Sx K CL Fz B Z Y H){v:V}{d:D}(i:Ag)(r:Rep K CL H (By B Z Y) v d):Sx K CL Fz B (Z.set i (Ab (d,Ae))) (Y.set i (Ab v)) H:=by
 have own:∀(j:Ag)(e:D),(Z.set i (Ab (d,Ae)))[j]?=Ab (Ab (e,Aa))->i≠j/\Z[j]?=Ab (Ab (e,Aa)):=λj e h=>by
  by_cases hj:i=j
  .subst hj;have:=Gb h;cases this
  .exact⟨hj,by rw[Cb hj]at h;exact h⟩
 have sub:∀ a,By B (Z.set i (Ab (d,Ae))) (Y.set i (Ab v)) a->By B Z Y a:=λa h=>by
  rcases h with h|⟨j,e,h1,h2⟩
  .exact .inl h
  .obtain⟨hj,h1⟩:=own j e h1;rw[Cb hj]at h2;exact .inr ⟨j,e,h1,h2⟩
 refine⟨⟨λj e h=>?_,λj e h=>?_,by rw[A6,A6];exact x.len⟩,λa h=>x.aok a (sub a h),λj e a h1 h2=>?_,λj k e f a h1 h2 h3 h4=>?_,x.same,by rw[A6,A6];exact x.len⟩
 .by_cases hj:i=j
  .subst hj;have e1:=Gb h;cases e1;refine⟨v,?_,Rep.sub sub _ r⟩;have hl:i<Y.length:=by
    rw[<-x.len];have:=(AU.mp h).1;simpa using this
   rw[BP hl]
  .rw[Cb hj]at h;obtain⟨w',q,rw'⟩:=x.good.sh j e h;exact⟨w',by rw[Cb hj];exact q,Rep.sub sub _ rw'⟩
 .obtain⟨hj,h1⟩:=own j e h;obtain⟨a,o,q,ha,hh,rr⟩:=x.good.ow j e h1;exact⟨a,o,by rw[Cb hj];exact q,.inr ⟨j,e,h,by rw[Cb hj];exact q⟩,hh,rr.sub sub⟩
 .obtain⟨hj,h1⟩:=own j e h1;rw[Cb hj]at h2;exact x.new j e a h1 h2
 .obtain⟨hj,h1⟩:=own j e h1;obtain⟨hk,h2⟩:=own k f h2;rw[Cb hj]at h3;rw[Cb hk]at h4;exact x.dis j k e f a h1 h2 h3 h4
end
section
variable{X:Cx}{CL:ClA}{W:XW}{pos:AK}{e:Al}{fe:Rho->R D}
def SS(X:Cx)(CL:ClA)(W:XW)(st:AO)(f:Rho->O):Prop:=∀ Fz B,PS X st (λD Y H=>∃ Z,Sx X.K CL Fz B Z Y H/\BJ X.K CL Fz B W (f Z) D)
def SSs(X:Cx)(CL:ClA)(W:XW)(st:Ac AO)(f:Rho->O):Prop:=∀ Fz B,PSs X st (λD Y H=>∃ Z,Sx X.K CL Fz B Z Y H/\BJ X.K CL Fz B W (f Z) D)
theorem PS.weak{e:AO}{t t':TS}(h:PS X e t)(k:∀ D Y H,t' D Y H->t D Y H):PS X e t':=λpI s Y H D I q=>h pI s Y H D I (k _ _ _ q)
theorem PSs.weak{e:Ac AO}{t t':TS}(h:PSs X e t)(k:∀ D Y H,t' D Y H->t D Y H):PSs X e t':=λpI s Y H D I q=>h pI s Y H D I (k _ _ _ q)
theorem BJ.ex{f:D->O}(x:Sx X.K CL Fz B Z Y H)(h:BJ X.K CL Fz B W (O.of Z r f) D')(k:∀ d v H',r=.ok d->AB H H'->Rp H' v d->Sx X.K CL Fz B Z Y H'->BJ X.K CL Fz B W (f d) D'->Q v H'):Bf Rp W H r Q:=by
 cases r with
 |ok d=>exact λv H' s r=>k d v H' rfl s r (x.grow s) h
 |exn y=>exact λH' s=>h H' λb o z=>s _ _ (x.same b o z)
 |bad=>exact h
theorem BJ.exB{r:R Ai}{f:Ai->O}{Q:Ai->Hp->Prop}(x:Sx X.K CL Fz B Z Y H)(h:BJ X.K CL Fz B W (O.of Z r f) D')(k:∀ b H',r=.ok b->AB H H'->Sx X.K CL Fz B Z Y H'->BJ X.K CL Fz B W (f b) D'->Q b H'):C1 W H r Q:=by
 cases r with
 |ok d=>exact λH' s=>k d H' rfl s (x.grow s) h
 |exn y=>exact λH' s=>h H' λb o z=>s _ _ (x.same b o z)
 |bad=>exact h
theorem aW(he:SE X CL W e fe)(hs:CT e Af pos.line X.env=pure Ae):SS X CL W (.Expr e pos) (λZ=>O.of Z (fe Z) λ_=>.next Z):=λFz B pI s Y H D I ⟨Z,x,p⟩=>
 Ka (he (By B Z Y)) hs pI s Y H D I ⟨x.aok,Z,x.good,BJ.ex x p λd v H' _ s r x' q=>q Y H' x'⟩
theorem aT(he:SE X CL W e fe):SS X CL W (.Return (Ab e) pos) (λZ=>O.of Z (fe Z) λd=>.ret d Ae):=λFz B pI s Y H D I ⟨Z,x,p⟩=>
 Mg (he (By B Z Y)) pI s Y H D I ⟨x.aok,Z,x.good,BJ.ex x p λd v H' _ s r x' q=>q v H' x'.same (Rep.sub (λa h=>.inl h) _ r) (λz=>nomatch z) λz=>nomatch z⟩
theorem qI{a b:Ac AO}{fa fb:Rho->O}(hc:SB X CL W c fc)(ha:SSs X CL W a fa)(hb:SSs X CL W b fb):SS X CL W (.If c a b pos) (λZ=>O.of Z (fc Z) λk=>if k=Aa then fa Z else fb Z):=λFz B pI s Y H D I ⟨Z,x,p⟩=>
 O4 (hc (By B Z Y)) (ha Fz B) (hb Fz B) pI s Y H D I ⟨x.aok,Z,x.good,BJ.exB x p λk H' _ s x' q=>by
  cases k with
  |true=>exact⟨Z,x',q⟩
  | false=>exact⟨Z,x',q⟩⟩
theorem aQ:SSs X CL W [] (λZ=>.next Z):=λFz B=>PSs.weak LX λD Y H ⟨Z,x,p⟩=>p Y H x
theorem YX{st:AO}{rest:Ac AO}{f g:Rho->O}(h1:SS X CL W st f)(h2:SSs X CL W rest g):SSs X CL W (st::rest) (λZ=>(f Z).seq g):=λFz B=>PSs.weak (NC (h1 Fz B) (h2 Fz B)) λD Y H ⟨Z,x,p⟩=>⟨Z,x,by
 dsimp only at p;cases e:f Z with
 |next Z'=>rw[e]at p;exact λY' H' x'=>⟨Z',x',p⟩
 |ret d b=>rw[e]at p;exact p
 |brk Z'=>rw[e]at p;exact p
 |cont Z'=>rw[e]at p;exact p
 |exn y Z'=>rw[e]at p;exact p
 | bad=>rw[e]at p;exact p⟩
end
def Ie(K:Fg)(CL:ClA)(A:Ah->Prop)(ds:Ac D)(J:It)(H1:Hp):Prop:=∀ H,Kp A H1 H->∀ i:Ag,(ds.length<=i->J.stop i H)/\∀ d,ds[i]?=Ab d->J.go i H/\∀ x H',J.yld i H x H'->AB H H'/\∀ B,(∀ a,B a->A a\/H1 a=Af)->AOk H B->Rep K CL H' B x d
def EH(K:Fg)(CL:ClA)(A:Ah->Prop)(W:XW)(H:Hp)(r:R (Ac D))(Q:It->Hp->Prop):Prop:=match r with
  |.ok ds=>∀ J H',AB H H'->Ie K CL A ds J H'->ds.length<=sizeLine->Q J H'
  |.exn x=>∀ H',AB H H'->W x H'
  |.bad=>Bk
def SI(X:Cx)(CL:ClA)(W:XW)(tg iter:Al)(f:Rho->R (Ac D)):Prop:=∀ A,PI X tg iter (λY H R=>AOk H A/\∃ Z,Good X.K CL A Z Y H/\EH X.K CL A W H (f Z) R)
theorem PI.weak{t t':TI}(h:PI X tg e t)(k:∀ Y H Q,t' Y H Q->t Y H Q):PI X tg e t':=λpI s Y H Q I q=>h pI s Y H Q I (k _ _ _ q)
section
variable{X:Cx}{CL:ClA}{W:XW}{pos p:AK}{tg e a b:Al}{fe fa fb:Rho->R D}
theorem EH.ex{f:D->R (Ac D)}{Q:It->Hp->Prop}{Q':VK}(h:EH X.K CL A W H (r.bind f) Q)(k:∀ d v H',r=.ok d->AB H H'->Rp H' v d->EH X.K CL A W H' (f d) Q->Q' v H'):Bf Rp W H r Q':=by
  cases r with
  | ok d=>exact λv H' s q=>k d v H' rfl s q (by
      have h':EH X.K CL A W H (f d) Q:=h;cases e:f d with
      |ok ds=>rw[e]at h';exact λJ H2 s2 y z=>h' J H2 (s.trans s2) y z
      |exn y=>rw[e]at h';exact λH2 s2=>h' H2 (s.trans s2)
      | bad=>rw[e]at h';exact h')
  |exn y=>exact h
  |bad=>exact h
theorem K0{x:V}(r:Rep K CL H1 A x d)(k:Kp A H1 H)(hB:∀ a,B a->A a\/H1 a=Af):Rep K CL H B x d:=by
 have r1:Rep K CL H1 (λa=>A a\/B a) x d:=Rep.wide (λa ha=>ha.elim .inl (hB a)) _ r
 have r2:Rep K CL H (λa=>A a\/B a) x d:=Rep.kp (λb o e na=>k b o e λz=>na (.inl z)) _ r1
 exact Rep.sub (λa ha=>.inr ha) _ r2
theorem Yo{ds:Ac D}(na:¬ A q\/KL K q xs)(s:SqL K H q xs)(r:Reps K CL H A xs ds):Ie K CL A ds (Itl K q) H:=λH' k i=>by
 have s':=Mc k na s;refine⟨λh=>⟨xs,s',by rw[r.length];exact h⟩,λd hd=>?_⟩
 obtain⟨v,hv,rv⟩:=r.get hd;exact⟨⟨xs,v,s',hv⟩,λx H2 ⟨e,y⟩=>by
  subst e;have:=y xs s';rw[hv]at this;cases this;exact⟨AB.refl _,λB hB _=>K0 rv k hB⟩⟩
theorem Y_5{ds:Ac D}(na:¬ A q\/KT K q xs)(s:SqT K H q xs)(r:Reps K CL H A xs ds):Ie K CL A ds (Itt K q) H:=λH' k i=>by
 have s':=Ke k na s;refine⟨λh=>⟨xs,s',by rw[r.length];exact h⟩,λd hd=>?_⟩
 obtain⟨v,hv,rv⟩:=r.get hd;exact⟨⟨xs,v,s',hv⟩,λx H2 ⟨e,y⟩=>by
  subst e;have:=y xs s';rw[hv]at this;cases this;exact⟨AB.refl _,λB hB _=>K0 rv k hB⟩⟩
theorem QP(lo:Ad)(n:Ag):Ie K CL A (Ce lo n) (Itr lo n) H:=λH' k i=>by
 refine⟨λh=>by rw[KP]at h;exact h,λd hd=>?_⟩
 obtain⟨h1,rfl⟩:=N5 hd;exact⟨h1,λx H2 ⟨e,y⟩=>by
  subst e y;exact⟨AB.refl _,λ_ _ _=>rfl⟩⟩
theorem lV{l:Al}{tl:TE}(hl:PE X l tl):PI X tg l (λY H R=>tl Y H λx H1=>(∃ a,x=.ref a/\(∃ xs,SqL X.K H1 a xs/\(xs.length<=sizeLine->R (Itl X.K a) H1)))\/∃ a,x=.ref a/\(∃ xs,SqT X.K H1 a xs/\(xs.length<=sizeLine->R (Itt X.K a) H1))):=by
 intro pI s Y H R I h;refine thn (hl pI s Y H _ I h) λv s1 ⟨x,H1,I1,r1,q1⟩=>?_
 rcases q1 with ⟨a,e,xs,hq,q⟩|⟨a,e,xs,hq,q⟩
 .subst e;cases r1;obtain⟨its,rv,p,hz⟩:=I1.list hq;refine En p.isList ?_;refine⟨s1.heap.objs.size,[s1.heap.objs.size],_,_,H1,rfl,I1.kept (t':=s1.toks) λb o e=>Ar _ e,YN a _,⟨_,AH _ rfl,rfl,rfl⟩,λb hb=>?_,q hz⟩
  have e:b=s1.heap.objs.size:=by simpa using hb
  subst e;exact I1.fpOk (AR _) (I1.hok.fresh (AR _))
 .subst e;cases r1;obtain⟨its,rv,p,hz⟩:=I1.tuple hq;refine Gs (show s1.heap.IsTuple a its.toArray from p) ?_
  refine⟨s1.heap.objs.size,[s1.heap.objs.size],_,_,H1,rfl,I1.kept (t':=s1.toks) λb o e=>Ar _ e,Yp a _,⟨_,AH _ rfl,rfl,rfl⟩,λb hb=>?_,q hz⟩
  have e:b=s1.heap.objs.size:=by simpa using hb
  subst e;exact I1.fpOk (AR _) (I1.hok.fresh (AR _))
theorem XZ(he:SE X CL W e fe):SI X CL W tg e (λZ=>(fe Z).bind Cm):=λA=>PI.weak (lV (he A)) λY H R ⟨hA,Z,g,p⟩=>⟨hA,Z,g,EH.ex p λd v H1 _ s1 r1 p1=>by
 cases d with
 |lst ds=>
  obtain⟨q,xs,rfl,na,sq,r⟩:=r1;exact .inl ⟨q,rfl,xs,sq,λhz=>p1 _ H1 (AB.refl H1) (Yo na sq r) (by rw[<-r.length];exact hz)⟩
 |tup ds=>
  obtain⟨q,xs,rfl,na,sq,r⟩:=r1;exact .inr ⟨q,rfl,xs,sq,λhz=>p1 _ H1 (AB.refl H1) (Y_5 na sq r) (by rw[<-r.length];exact hz)⟩
 | _=>exact p1.elim⟩
theorem QA{lo hi:Ad}{ds:Ac D}(h:Cq lo hi=.ok ds):(-(2 ^ 62)<=lo/\lo<2 ^ 62)/\(-(2 ^ 62)<=hi/\hi<2 ^ 62)/\ds=Ce lo (hi-lo).toNat/\(Ce lo (hi-lo).toNat).length<=sizeLine:=by
 unfold Cq at h;split at h
 .rename_i q;cases h;exact⟨by omega,by omega,rfl,by rw[KP,EO];omega⟩
 .cases h
theorem P6{lo hi:Ad}(h:Cq lo hi=.exn x):Bk:=by
 unfold Cq at h;split at h<;>cases h
theorem jD(ha:ST X CL W a fa)(hg:Gl X "range")(hm:X.mg "range" = Af)(hs:Av [a] X.env=[(Ae,eval a X.env)]):SI X CL W tg (.Call (.Name "range" p) [a] [] pos) (λZ=>(fa Z).bind λx=>(EG x).bind λj=>Cq 0 j):=
 λA=>PI.weak (YK hg hm (ED (ha A) FX hs) hs) λY H R ⟨hA,Z,g,q⟩=>⟨hA,Z,g,EH.ex q λd v H1 _ s1 r1 p1=>by
  cases d with
  |int j=>
   have e:=r1.int_of;subst e;have p2:EH X.K CL A W H1 (Cq 0 j) R:=p1;cases e2:Cq 0 j with
   |ok ds=>
    rw[e2]at p2;obtain⟨_,h2,rfl,hz⟩:=QA e2;exact⟨j,rfl,h2.1,h2.2,p2 _ H1 (AB.refl H1) (by rw[E2];exact QP 0 j.toNat) hz⟩
   |exn y=>exact(P6 e2).elim
   |bad=>rw[e2]at p2;exact p2.elim
  | _=>exact p1.elim⟩
theorem bF(ha:ST X CL W a fa)(hb:ST X CL W b fb)(hg:Gl X "range")(hm:X.mg "range" = Af)(hs:Av [a,b] X.env=[(Ae,eval a X.env),(Ae,eval b X.env)])(hs2:Av [b] X.env=[(Ae,eval b X.env)]):
  SI X CL W tg (.Call (.Name "range" p) [a,b] [] pos) (λZ=>(fa Z).bind λx=>(fb Z).bind λy=>(EG x).bind λi=>(EG y).bind λj=>Cq i j):=
 λA=>PI.weak (YJ hg hm (ED (ha A) (ED (hb A) FX hs2) (by rw[hs,hs2])) hs hs2) λY H R ⟨hA,Z,g,q⟩=>⟨hA,Z,g,EH.ex q λd v H1 _ s1 r1 p1=>⟨hA.same s1,Z,g.same s1,EH.ex p1 λd2 v2 H2 _ s2 r2 p2=>by
  cases d with
  |int i=>
   cases d2 with
   |int j=>
    have e:=r1.int_of;have e':=r2.int_of
    subst e e';have p3:EH X.K CL A W H2 (Cq i j) R:=p2;cases e2:Cq i j with
    |ok ds=>
     rw[e2]at p3;obtain⟨h1,h2,rfl,hz⟩:=QA e2;exact⟨i,j,rfl,⟨h1.1,h1.2,h2.1,h2.2⟩,p3 _ H2 (AB.refl H2) (QP _ _) hz⟩
    |exn y=>exact(P6 e2).elim
    |bad=>rw[e2]at p3;exact p3.elim
   |_=>exact p2.elim
  | _=>exact p2.elim⟩⟩
theorem BJ.exI{r:R (Ac D)}{f:Ac D->O}{Q:It->Hp->Prop}(x:Sx X.K CL Fz B Z Y H)(h:BJ X.K CL Fz B W (O.of Z r f) D')(k:∀ ds J H',r=.ok ds->AB H H'->Ie X.K CL A ds J H'->ds.length<=sizeLine->Sx X.K CL Fz B Z Y H'->BJ X.K CL Fz B W (f ds) D'->Q J H'):EH X.K CL A W H r Q:=by
 cases r with
 |ok d=>exact λJ H' s y z=>k d J H' rfl s y z (x.grow s) h
 |exn y=>exact λH' s=>h H' λb o z=>s _ _ (x.same b o z)
 |bad=>exact h
theorem BJ.turn{Fy:Ah->HO->Prop}{o:O}{g:Rho->O}{N:L2.St->Hp->Prop}(hf:∀ b q,Fz b q->Fy b q)(h:BJ K CL Fz B W (o.turn g) D')(k:∀ Z' Y' H',Sx K CL Fy B Z' Y' H'->BJ K CL Fz B W (g Z') D'->N Y' H'):BJ K CL Fy B W o {D' with nx:=N,ct:=N,bk:=D'.nx}:=by
 cases o with
 |next Z'=>exact λY' H' x=>k Z' Y' H' x h
 |cont Z'=>exact λY' H' x=>k Z' Y' H' x h
 |brk Z'=>exact λY' H' x=>h Y' H' (x.mono hf)
 |ret d b=>exact λv H' s r n t=>h v H' (λb o z=>s b o (hf b o z)) r (λz ds e=>let ⟨a,xs,h1,h2,h3⟩:=n z ds e;⟨a,xs,h1,λo q=>h2 o (hf a o q),h3⟩) λz=>(t z).mono λa h o q=>h o (hf a o q)
 |exn y Z'=>exact λH' s=>h H' (λb o z=>s b o (hf b o z))
 |bad=>exact h
noncomputable def E6(ts:Ac Ag)(Z:Rho):Rho:=ts.foldl (λZ t=>Z.set t Af) Z
def GT(K:Fg)(CL:ClA)(as:D->Rho->R Rho)(g:TG):Prop:=∀ Fz B Z Y H v d Z' Q,Sx K CL Fz B Z Y H->Rep K CL H (By B Z Y) v d->as d Z=.ok Z'->(∀ Y',Sx K CL Fz B Z' Y' H->Q Y' H)->g v Y H Q
theorem gU(i:Ag):GT K CL (λd Z=>.ok (Z.set i (Ab (d,Ae)))) (Ey i):=λFz B Z Y H v d Z' Q x r e k=>by
 cases e;exact k _ (x.set i r)
theorem S0{K:Fg}{Fz:Ah->HO->Prop}{B:Ah->Prop}{H:Hp}:∀(ts:Ac Ag)(ds:Ac D)(vs:Ac V)(Z Z':Rho)(Y:L2.St)(Q:L2.St->Hp->Prop),Sx K CL Fz B Z Y H->Reps K CL H (By B Z Y) vs ds->Ew ts ds Z=Ab Z'->(∀ Y',Sx K CL Fz B Z' Y' H->Q Y' H)->(ts.foldr (λt u=>GA (Ey t) u) Hd) vs Y H Q
 |[],[],[],Z,Z',Y,Q,x,_,e,k=>by
  cases e;exact⟨rfl,k Y x⟩
 |t::ts,d::ds,v::vs,Z,Z',Y,Q,x,r,e,k=>by
  refine⟨v,vs,rfl,S0 ts ds vs _ Z' _ Q (x.set t r.1) (Reps.sub (λa ha=>?_) ds r.2) e k⟩
  rcases ha with ha|⟨j,c,h1,h2⟩
  .exact .inl ha
  .by_cases hj:t=j
   .subst hj;have:=Gb h1;cases this
   .rw[Cb hj]at h1 h2;exact .inr ⟨j,c,h1,h2⟩
 |[],_::_,_,_,_,_,_,_,_,e,_=>by cases e
 |_::_,[],_,_,_,_,_,_,_,e,_=>by cases e
 |[],[],_::_,_,_,_,_,_,r,_,_=>r.elim
 |_::_,_::_,[],_,_,_,_,_,r,_,_=>r.elim
theorem Nt:∀(ts:Ac Ag)(ds:Ac D)(Z Z':Rho),Ew ts ds Z=Ab Z'->ds.length=ts.length
 |[],[],_,_,_=>rfl
 |_::ts,_::ds,_,_,e=>congrArg (· + 1) (Nt ts ds _ _ e)
 |[],_::_,_,_,e=>by cases e
 |_::_,[],_,_,e=>by cases e
theorem kP(ts:Ac Ag):GT K CL (FB ts) (Kz K ts.length (ts.foldr (λt u=>GA (Ey t) u) Hd)):=λFz B Z Y H v d Z' Q x r e k=>by
 cases d with
 |tup ds=>
  obtain⟨a,xs,rfl,na,sq,rs⟩:=r;rw[Qa]at e;cases e2:Ew ts ds Z with
  |none=>rw[e2]at e;cases e
  |some Z2=>
   rw[e2]at e;cases e;exact⟨a,xs,rfl,sq,by rw[rs.length];exact Nt _ _ _ _ e2,S0 ts ds xs Z _ Y Q x rs e2 k⟩
 |_=>cases e
theorem Ti{body:Ac AO}{fbd:Rho->O}{g:TG}(hp:FH (model X.prog X.w) X.A X.env X.xe)(hc:X.calm=Aa)(hGT:GT X.K CL as g)(hg:PG X tg g)(hit:SI X CL W tg iter fi)(hb:SSs X CL W body fbd)(hs:∀ x,CI iter X.env x=pure x)(hax:∀ d Z x,as d Z≠.exn x):SS X CL W (.For tg iter body [] pos) (λZ=>O.of Z (fi Z) λxs=>BH (λx Z'=>O.of Z' (as x Z') fbd) xs Z):=λFz B pI s Y H D I ⟨Z,x,p⟩=>by
 refine lS hp hc (hit (By B Z Y)) hg (tb:=λD Y H=>∃ Fy,(λD Y H=>∃ Z,Sx X.K CL Fy B Z Y H/\BJ X.K CL Fy B W (fbd Z) D) D Y H) (λpI s Y H D I ⟨Fy,q⟩=>hb Fy B pI s Y H D I q) hs pI s Y H D I ⟨x.aok,Z,x.good,BJ.exI x p λds J H1 _ s1 y _ x1 q=>?_⟩
 let Fy:Ah->HO->Prop:=λb o=>H1 b=Ab o/\¬ ∃(j:Ag)(d:Ov.D),Z[j]?=Ab (Ab (d,Aa))/\Y[j]?=Ab (Ab (.ref b))
 have hfy:∀ b o,Fz b o->Fy b o:=λb o z=>⟨x1.same b o z,λ⟨j,d,h1,h2⟩=>(x1.new j d b h1 h2).1 o z⟩
 have xy:Sx X.K CL Fy B Z Y H1:=⟨x1.good,x1.aok,λj d a h1 h2=>⟨λo z=>z.2 ⟨j,d,h1,h2⟩,(x1.new j d a h1 h2).2⟩,x1.dis,λb o z=>z.1,x1.len⟩
 refine⟨λk m Y' H'=>m=ds.length-k/\k<=ds.length/\∃ Z',Sx X.K CL Fy B Z' Y' H'/\BJ X.K CL Fz B W (BH (λx Z'=>O.of Z' (as x Z') fbd) (ds.drop k) Z') D,⟨ds.length,by simp,Hn _,Z,xy,q⟩,?_⟩
 rintro k m Y' H' ⟨rfl,hk,Z',x',q'⟩;have kp:Kp (By B Z Y) H1 H':=λb o e na=>x'.same b o ⟨e,λz=>na (.inr z)⟩
 obtain⟨yst,ygo⟩:=y H' kp k;by_cases hlt:k<ds.length
 .have hd:ds[k]?=Ab ds[k]:=BV hlt;obtain⟨hgo,hyl⟩:=ygo _ hd;refine .inr ⟨hgo,λY'' H''=>∃ Z'',Sx X.K CL Fy B Z'' Y'' H''/\BJ X.K CL Fz B W (BH (λx Z'=>O.of Z' (as x Z') fbd) (ds.drop (k+1)) Z'') D,λY'' H'' z=>⟨ds.length-(k+1),by omega,rfl,hlt,z⟩,λv H2 hv=>?_⟩
  obtain⟨e2,rv⟩:=hyl v H2 hv;rw[EW hlt]at q';have q2:BJ X.K CL Fz B W ((O.of Z' (as ds[k] Z') fbd).turn (BH (λx Z'=>O.of Z' (as x Z') fbd) (ds.drop (k+1)))) D:=q'
  have rv':Rep X.K CL H2 (By B Z' Y') v ds[k]:=rv _ (λa ha=>by
    rcases ha with ha|⟨j,d,h1,h2⟩
    .exact .inl (.inl ha)
    .cases e:H1 a with
     |none=>exact .inr rfl
     |some o=>
      by_cases ho:∃(j:Ag)(d:Ov.D),Z[j]?=Ab (Ab (d,Aa))/\Y[j]?=Ab (Ab (.ref a))
      .exact .inl (.inr ho)
      .exact absurd ⟨e,ho⟩ ((x'.new j d a h1 h2).1 o)) x'.aok
  cases ea:as ds[k] Z' with
  |bad=>rw[ea]at q2;exact q2.elim
  |exn z=>exact absurd ea (hax _ _ z)
  |ok Z2=>
   rw[ea,O.of_ok]at q2;exact hGT Fy B Z' Y' H2 v ds[k] Z2 _ (x'.grow e2) rv' ea λY3 x3=>⟨Fy,Z2,x3,BJ.turn hfy q2 λZ3 Y3 H3 x3 q3=>⟨Z3,x3,q3⟩⟩
 .have hk':ds.length<=k:=by omega
  rw[Vh hk']at q';exact .inl ⟨yst hk',q' Y' H' (x'.mono hfy)⟩
end
section
variable{X:Cx}{CL:ClA}{W:XW}{a b c:Al}{fa fb fc:Rho->R D}{pos:AK}
noncomputable def tyK:Ki->Ao CG
 |.int=>Ab "int"
 |.bool=>Ab "bool"
 |.str=>Ab "str"
 |.list=>Ab "list"
 |.tuple=>Ab "tuple"
 |_=>Af
noncomputable def Oz:D->Ai
 |.obj _ _=>Ae
 |.exc _ _=>Ae
 |.dic _=>Ae
 |_=>Aa
theorem lJ{k:Ki}{Q:Vq}{E:Vq}(I:Inv X pI Y H s)(r:Cv X.K CL H A v d)(q:Bv v u)(hT:tyK k=Ab T)(hd:Oz d=Aa)(h:∀ s',Inv X pI Y H s'->Q (.bool (kiD up k d)) s'):
  AC (model X.prog X.w) X.A (call (.builtin "isinstance") [u,.type T]) Q E s:=by
 have r':=r.plain;have it:=λt=>h _ (I.tok t)
 cases d with
 |obj=>cases hd
 |exc=>cases hd
 |dic=>cases hd
 |non=>
  cases r';cases q;cases k<;>simp only[tyK]at hT<;>cases hT
  .exact IsiPair.NoneType_int (it _)
  .exact IsiPair.NoneType_bool (it _)
  .exact IsiPair.NoneType_str (it _)
  .exact IsiPair.NoneType_list (it _)
  .exact IsiPair.NoneType_tuple (it _)
 |bl b=>
  cases r';cases q;cases k<;>simp only[tyK]at hT<;>cases hT
  .exact IsiPair.bool_int (h _ I)
  .exact IsiPair.bool_bool (h _ I)
  .exact IsiPair.bool_str (it _)
  .exact IsiPair.bool_list (it _)
  .exact IsiPair.bool_tuple (it _)
 |int i=>
  cases r';obtain⟨t,rfl⟩:=q;cases k<;>simp only[tyK]at hT<;>cases hT
  .exact IsiPair.int_int (h _ I)
  .exact IsiPair.int_bool (it _)
  .exact IsiPair.int_str (it _)
  .exact IsiPair.int_list (it _)
  .exact IsiPair.int_tuple (it _)
 |str x=>
  cases r';obtain⟨t,rfl⟩:=q;cases k<;>simp only[tyK]at hT<;>cases hT
  .exact IsiPair.str_int (it _)
  .exact IsiPair.str_bool (it _)
  .exact IsiPair.str_str (h _ I)
  .exact IsiPair.str_list (it _)
  .exact IsiPair.str_tuple (it _)
 |tup ds=>
  obtain⟨p,xs,rfl,_,sq,rr⟩:=r';obtain⟨its,rv,pt,_⟩:=I.tuple sq;cases q;have pt':s.heap.IsTuple p its.toArray:=pt;cases k<;>simp only[tyK]at hT<;>cases hT
  .exact IsiPair.isTuple_int pt' (λ_ _ e=>e) (it _)
  .exact IsiPair.isTuple_bool pt' (λ_ _ e=>e) (it _)
  .exact IsiPair.isTuple_str pt' (λ_ _ e=>e) (it _)
  .exact IsiPair.isTuple_list pt' (λ_ _ e=>e) (it _)
  .exact IsiPair.isTuple_tuple pt' (λ_ _ e=>e) (h _ I)
 |lst ds=>
  obtain⟨p,xs,rfl,_,sq,rr⟩:=r';obtain⟨its,rv,pl,_⟩:=I.list sq;cases q;have pt':s.heap.IsList p its.toArray:=IF pl;cases k<;>simp only[tyK]at hT<;>cases hT
  .exact IsiPair.isList_int pt' (λ_ _ e=>e) (it _)
  .exact IsiPair.isList_bool pt' (λ_ _ e=>e) (it _)
  .exact IsiPair.isList_str pt' (λ_ _ e=>e) (it _)
  .exact IsiPair.isList_list pt' (λ_ _ e=>e) (h _ I)
  .exact IsiPair.isList_tuple pt' (λ_ _ e=>e) (it _)
theorem Y_7{k:Ki}(hT:tyK k=Ab T)(p:Bf Rp W H (Hc up [k] d) Q):Oz d=Aa/\Bf Rp W H (.ok (.bl (kiD up k d))) Q:=by
 cases k<;>simp only[tyK]at hT<;>cases hT<;>cases d<;>first|exact p.elim|exact⟨rfl,by simpa using p⟩
theorem jJ{k:Ki}{x:Ak}(hT:tyK k=Ab T)(hg:Gl X "isinstance")(hm:X.mg "isinstance" = Af)(hg2:Gl X x)(hm2:X.mg x=Af)(hv:C0 x=Ab (.type T))(hn:x≠"__name__")(hdb:(x==("__debug__" : Ak))=Ae)(ha:ST X CL W a fa)(he:Av [a,.Name x p2] X.env=(Ae,eval a X.env)::Av [.Name x p2] X.env):SE X CL W (.Call (.Name "isinstance" p) [a,.Name x p2] [] pos) (λZ=>(fa Z).bind λx=>Hc up [k] x):=λA=>
 PE.weak (QZ (r:=λxs H Q=>∃ y d,xs=[y,.ty T]/\Cv X.K CL H A y d/\Oz d=Aa/\Q (.bl (kiD up k d)) H) (λpI s Y H xs us Q I r ⟨y,d,e,ry,hd,q⟩=>by
   subst e;obtain⟨u,w',rfl,r1,r2⟩:=oU r;cases r2;exact lJ I ry r1 hT hd λs' I'=>⟨.bl _,H,I',rfl,q⟩)
  hg hm boot_isinstance (ED (ha A) (ED (cT (v:=.ty T) hg2 hm2 hv rfl hn hdb) FX rfl) he) (by decide) (by decide) he rfl) λY H Q ⟨hA,Z,g,q⟩=>⟨hA,Z,g,Bf.bind q λd v H1 _ s1 r1 p1=>by
   obtain⟨hd,p2⟩:=Y_7 hT p1;exact⟨v,d,rfl,r1,hd,p2 _ H1 (AB.refl H1) rfl⟩⟩
theorem bV{b:Ai}{A':A2}{E:Vq}{Q:Ai->Aq->Prop}(r:Rep X.K CL H A v d)(q:Bv v u)(h:FZ d=.ok b)(hq:Q b s):AC (model prog w) A' (truthy u) Q E s:=by
 cases d with
 |non=>
  cases r;cases q;cases h;exact truthy_none hq
 |bl k=>
  cases r;cases q;cases h;exact Cj hq
 |int i=>
  cases r;obtain⟨t,rfl⟩:=q;cases h;exact truthy_int hq
 |_=>cases h
theorem Qe:∀{ds:Ac D}{b:Ai},FC ds=.ok b->(∀ j,j<ds.length->∃ c,FZ (ds.getD j .non)=.ok c)/\b=(AS ds.length).all λj=>match FZ (ds.getD j .non) with
  |.ok c=>c
  |_=>Ae
 |[],b,h=>by cases h;exact⟨λj hj=>absurd hj (VH _),rfl⟩
 |d::ds,b,h=>by
  rw[NB]at h;cases e:FZ d with
  |bad=>rw[e]at h;cases h
  |exn x=>rw[e]at h;cases h
  |ok c=>
   rw[e,R.bind_ok]at h;cases e2:FC ds with
   |bad=>rw[e2]at h;cases h
   |exn x=>rw[e2]at h;cases h
   |ok c2=>
    rw[e2,R.bind_ok]at h;cases h;obtain⟨h1,h2⟩:=Qe e2;refine⟨λj hj=>?_,?_⟩
    .cases j with
     |zero=>exact⟨c,e⟩
     |succ j=>exact h1 j (by simpa using hj)
    .rw[Bj,PR,h2];show (c&&_)=((match FZ d with | .ok c=>c|_=>Ae)&&_)
     rw[e];rfl
theorem QQ:∀(ds:Ac D)(a z:Ad),GD a ds=.ok z->(∀ j,j<ds.length->∃ i,ds.getD j .non=.int i)/\z=a+Iz (λj=>match ds.getD j .non with
  |.int i=>i
  | _=>0) ds.length
 |[],a,z,h=>by cases h;exact⟨λj hj=>absurd hj (VH _),by simp[Iz]⟩
 |.int i::ds,a,z,h=>by
  obtain⟨h1,h2⟩:=QQ ds (a+i) z h;refine⟨λj hj=>?_,?_⟩
  .cases j with
   |zero=>exact⟨i,rfl⟩
   |succ j=>exact h1 j (by simpa using hj)
  .have key:∀ n,Iz (λj=>match (D.int i::ds).getD j .non with | .int i=>i|_=>0) (n+1)=i+Iz (λj=>match ds.getD j .non with | .int i=>i|_=>0) n:=by
    intro n
    induction n with
    |zero=>show (0:Ad)+i=i+0;omega
    |succ n ih=>
     show Iz _ (n+1)+(match ds.getD n .non with | .int i=>i|_=>0)=i+(Iz _ n+(match ds.getD n .non with | .int i=>i|_=>0))
     rw[ih];omega
   rw[h2,Bj,key];omega
 |.non::_,_,_,h=>by cases h
 |.bl _::_,_,_,h=>by cases h
 |.str _::_,_,_,h=>by cases h
 |.tup _::_,_,_,h=>by cases h
 |.lst _::_,_,_,h=>by cases h
 |.obj _ _::_,_,_,h=>by cases h
 |.exc _ _::_,_,_,h=>by cases h
 |.dic _::_,_,_,h=>by cases h
theorem Op{ds:Ac D}{its:Ac Aj}(r:Reps X.K CL H A0 xs ds)(rv:A9 xs its){v:Aj}(h:its.toArray[j]?=Ab v):j<ds.length/\∃ x,Rep X.K CL H A0 x (ds.getD j .non)/\Bv x v:=by
 have h':its[j]?=Ab v:=by simpa using h
 obtain⟨hj,e⟩:=AU.mp h';obtain⟨x,rx,q⟩:=Jt r rv hj;have l1:=rv.length;have l2:=r.length
 exact⟨by omega,x,rx,by rw[<-e];exact q⟩
theorem O9{o:Dp}(k:∀ b q,b∉[h.objs.size]->(h.push o).get? b=Ab q->h'.get? b=Ab q):∀ b q,h.get? b=Ab q->h'.get? b=Ab q:=λb q e=>k b q (by
 intro z;have:=Bm.mp z;rw[this]at e;exact absurd (AI e) (Bt _)) (Ar _ e)
theorem nE(hc:X.calm=Aa):Km X CL W (.builtin "all") (biD .all):=by
  intro A pI s Y H xs us Q I r ⟨hA,ds,rs,p⟩
  match ds,rs,p with
  |[.lst es],rs,p=>
    obtain⟨v,rfl,rv⟩:=rs.one;obtain⟨q,ys,e,_,sq,ry⟩:=rv.plain;subst e;obtain⟨u,rfl,ru⟩:=Jx r;cases ru;rw[tH]at p;cases e1:FC es with
    |bad=>rw[e1]at p;exact p.elim
    |exn x=>
      exfalso
      have:∀(es:Ac D) x,FC es≠.exn x:=by
        intro es
        induction es with
        |nil=>intro x h;cases h
        |cons d ds ih=>
          intro x h;rw[NB]at h;cases e:FZ d with
          |bad=>rw[e]at h;cases h
          |exn y=>cases d<;>cases e
          |ok c=>
            rw[e,R.bind_ok]at h;cases e2:FC ds with
            |bad=>rw[e2]at h;cases h
            |exn y=>exact ih y e2
            |ok c2=>rw[e2]at h;cases h
      exact this es x e1
    |ok b=>
      rw[e1,R.bind_ok]at p;obtain⟨h1,h2⟩:=Qe e1;obtain⟨its,rvv,pl,_⟩:=I.list sq;have hlt:q<s.heap.objs.size:=by obtain⟨o,n,e,_⟩:=pl;exact AI e
      have hl:its.toArray.size=es.length:=by rw[Az,<-rvv.length,ry.length]
      refine call_all_walk (En (IF pl) ⟨s.heap.objs.size,_,_,_,_,_,(λj=>match FZ (es.getD j .non) with | .ok c=>c|_=>Ae),rfl,W3 (A:=X.A.in1) (I.ok.hd hc) s.heap.objs.size q (Bi hlt) its.toArray,⟨⟨_,AH _ rfl,rfl,rfl⟩,(IF pl).push _⟩,λj v s' Q' E' hv hQ=>?_,λh' tk k=>?_⟩)
      · obtain⟨hj,x,rx,qx⟩:=Op ry rvv hv;obtain⟨c,ec⟩:=h1 j hj;exact bV rx qx ec (by dsimp only at hQ;rw[ec]at hQ;exact hQ)
      · rw[hl,<-h2];exact⟨.bl b,H,I.kept (O9 k),rfl,p _ H (AB.refl H) rfl⟩
  |[],_,p=>exact p.elim
  |[.non],_,p=>exact p.elim
  |[.bl _],_,p=>exact p.elim
  |[.int _],_,p=>exact p.elim
  |[.str _],_,p=>exact p.elim
  |[.tup _],_,p=>exact p.elim
  |[.obj _ _],_,p=>exact p.elim
  |[.exc _ _],_,p=>exact p.elim
  |[.dic _],_,p=>exact p.elim
  |x::_::_,_,p=>cases x<;>exact p.elim
theorem RN(hc:X.calm=Aa){ys:Ac V}{es:Ac D}(I:Inv X pI Y H s)(sq:SqL X.K H q ys\/SqT X.K H q ys)(ry:Reps X.K CL H A0 ys es)(p:Bf (λH=>Rep X.K CL H A) W H ((GD 0 es).bind λb=>.ok (.int b)) Q):AC (model X.prog X.w) X.A (call (.builtin "sum") [.ref q]) (EP X pI Y Q) X.xe s:=by
 cases e1:GD 0 es with
 |bad=>rw[e1]at p;exact p.elim
 |exn x=>
  exfalso
  have:∀(es:Ac D)(a:Ad) x,GD a es≠.exn x:=by
   intro es
   induction es with
   |nil=>intro a x h;cases h
   |cons d ds ih=>
    intro a x h;cases d<;>first|exact ih _ _ h|cases h
  exact this es 0 x e1
 |ok z=>
  rw[e1,R.bind_ok]at p;obtain⟨h1,h2⟩:=QQ es 0 z e1;rw[CW]at h2;rcases sq with sq|sq
  .obtain⟨its,rvv,pl,_⟩:=I.list sq;have hlt:q<s.heap.objs.size:=by obtain⟨o,n,e,_⟩:=pl;exact AI e
   have hl:its.toArray.size=es.length:=by rw[Az,<-rvv.length,ry.length]
   refine W4 (En (IF pl) ⟨s.heap.objs.size,_,_,_,_,_,(λj=>match es.getD j .non with | .int i=>i|_=>0),rfl,W3 (A:=X.A.in1) (I.ok.hd hc) s.heap.objs.size q (Bi hlt) its.toArray,⟨⟨_,AH _ rfl,rfl,rfl⟩,(IF pl).push _⟩,λb hb=>?_,λj v hv=>?_,λh' tk t' k=>?_⟩)
   .show b<(s.heap.push _).objs.size;rw[BR];rcases AE.mp hb with rfl|hb
    .exact Ez _
    .rw[Bm.mp hb];exact Do hlt
   .obtain⟨hj,x,rx,qx⟩:=Op ry rvv hv;obtain⟨i,ei⟩:=h1 j hj;rw[ei]at rx;dsimp only;rw[ei];cases rx;exact qx
   .rw[hl,<-h2];exact⟨.int z,H,I.kept (O9 k),⟨_,rfl⟩,p _ H (AB.refl H) rfl⟩
  .obtain⟨its,rvv,pl,_⟩:=I.tuple sq;have pl':s.heap.IsTuple q its.toArray:=pl;have hlt:q<s.heap.objs.size:=by obtain⟨o,e,_⟩:=pl';exact AI e
   have hl:its.toArray.size=es.length:=by rw[Az,<-rvv.length,ry.length]
   refine W4 (Gs pl' ⟨s.heap.objs.size,_,_,_,_,_,(λj=>match es.getD j .non with | .int i=>i|_=>0),rfl,Walks.tuple (A:=X.A.in1) (I.ok.hd hc) s.heap.objs.size q (Bi hlt) its.toArray,⟨⟨_,AH _ rfl,rfl,rfl⟩,pl'.push _⟩,λb hb=>?_,λj v hv=>?_,λh' tk t' k=>?_⟩)
   .show b<(s.heap.push _).objs.size;rw[BR];rcases AE.mp hb with rfl|hb
    .exact Ez _
    .rw[Bm.mp hb];exact Do hlt
   .obtain⟨hj,x,rx,qx⟩:=Op ry rvv hv;obtain⟨i,ei⟩:=h1 j hj;rw[ei]at rx;dsimp only;rw[ei];cases rx;exact qx
   .rw[hl,<-h2];exact⟨.int z,H,I.kept (O9 k),⟨_,rfl⟩,p _ H (AB.refl H) rfl⟩
theorem mZ(hc:X.calm=Aa):Km X CL W (.builtin "sum") (biD .sum):=by
  intro A pI s Y H xs us Q I r ⟨hA,ds,rs,p⟩
  match ds,rs,p with
  |[.lst es],rs,p=>
    obtain⟨v,rfl,rv⟩:=rs.one;obtain⟨q,ys,e,_,sq,ry⟩:=rv.plain;subst e;obtain⟨u,rfl,ru⟩:=Jx r;cases ru;exact RN hc I (.inl sq) ry p
  |[.tup es],rs,p=>
    obtain⟨v,rfl,rv⟩:=rs.one;obtain⟨q,ys,e,_,sq,ry⟩:=rv.plain;subst e;obtain⟨u,rfl,ru⟩:=Jx r;cases ru;exact RN hc I (.inr sq) ry p
  |[],_,p=>exact p.elim
  |[.non],_,p=>exact p.elim
  |[.bl _],_,p=>exact p.elim
  |[.int _],_,p=>exact p.elim
  |[.str _],_,p=>exact p.elim
  |[.obj _ _],_,p=>exact p.elim
  |[.exc _ _],_,p=>exact p.elim
  |[.dic _],_,p=>exact p.elim
  |x::_::_,_,p=>cases x<;>exact p.elim
end
section
variable(K:Fg)(CL:ClA)
def tJ(H0:Hp)(A:Ah->Prop)(H:Hp)(v:V)(d:D):Prop:=∀ ds,d=.lst ds->∃ a xs,v=.ref a/\H0 a=Af/\H a=Ab (.lst xs)/\Reps K CL H (λb=>A b\/b=a) xs ds
def EU(fr:Ai)(H0:Hp)(A:Ah->Prop)(H:Hp)(v:V)(d:D):Prop:=Rep K CL H A v d/\(fr=Aa->tJ K CL H0 A H v d)
end
section
variable{X:Cx}{CL:ClA}{W:XW}{a b c:Al}{fa fb fc:Rho->R D}{pos:AK}
def SC(X:Cx)(CL:ClA)(W:XW)(fr:Ai)(e:Al)(f:Rho->R D):Prop:=∀ A,PE X e (λY H Q=>AOk H A/\∃ Z,Good X.K CL A Z Y H/\Bf (EU X.K CL fr H A) W H (f Z) Q)
theorem SC.se{fr:Ai}(h:SC X CL W fr a fa):SE X CL W a fa:=λA=>PE.weak (h A) λY H Q ⟨hA,Z,g,p⟩=>⟨hA,Z,g,by
 cases e:fa Z with
 |ok d=>rw[e]at p;exact λv H' s r=>p v H' s r.1
 |exn x=>rw[e]at p;exact p
 | bad=>rw[e]at p;exact p⟩
theorem SE.sc(h:SE X CL W a fa):SC X CL W Ae a fa:=λA=>PE.weak (h A) λY H Q ⟨hA,Z,g,p⟩=>⟨hA,Z,g,by
 cases e:fa Z with
 |ok d=>rw[e]at p;exact λv H' s r=>p v H' s ⟨r,λz=>nomatch z⟩
 |exn x=>rw[e]at p;exact p
 | bad=>rw[e]at p;exact p⟩
theorem SC.congr{fr:Ai}{f g:Rho->R D}(h:SC X CL W fr a f)(e:∀ Z,g Z=f Z):SC X CL W fr a g:=λA=>PE.weak (h A) λY H Q ⟨hA,Z,q,p⟩=>⟨hA,Z,q,by rw[<-e];exact p⟩
theorem J7{p:Ah}{ds:Ac D}(s:AB H0 H)(hA:AOk H A)(hp:H p=Af)(r:Reps K CL H A xs ds):EU K CL Aa H0 A (upd H p (.lst xs)) (.ref p) (.lst ds):=
 ⟨Ru hA hp r,λ_ ds' e=>by
  cases e;exact⟨p,xs,rfl,s.free hp,G0,(Reps.wide (λa ha=>ha.imp id λe=>by rw[e];exact hp) _ r).same (Fe hp _)⟩⟩
theorem RV{fr:Ai}(r:Rep K CL H A v d)(h:∀ ds,d≠.lst ds):EU K CL fr H0 A H v d:=⟨r,λ_ ds e=>absurd e (h ds)⟩
theorem kO(hs:SA X CL W es fs)(hz:∀ Z ds,fs Z=.ok ds->ds.length<=100000):SC X CL W Aa (.List es pos) (λZ=>(fs Z).bind λxs=>.ok (.lst xs)):=
 λA=>PE.weak (mC (hs A)) λY H Q ⟨hA,Z,g,p⟩=>⟨hA,Z,g,G5.bind p λds vs H1 e s1 r1 p1=>⟨by
  rw[r1.length,EO];have:=hz Z ds e;omega,λq hq=>p1 _ _ (Fe hq _) (J7 s1 (hA.same s1) hq r1)⟩⟩
theorem Bf.bindF{fr:Ai}{f:D->R D}{Q':VK}(h:Bf (EU K CL fr H A) W H (r.bind f) Q)(k:∀ d v H',r=.ok d->AB H H'->Rp H' v d->Bf (EU K CL fr H A) W H' (f d) Q->Q' v H'):Bf Rp W H r Q':=by
 cases r with
 |ok d=>exact λv H2 s2 q=>k d v H2 rfl s2 q (Bf.same s2 h)
 |exn x=>exact h
 |bad=>exact h
theorem G5.bindF{Rp:Hp->Ac V->Ac D->Prop}{r:R (Ac D)}{f:Ac D->R D}{Q':Ac V->Hp->Prop}(h:Bf Rq W H (r.bind f) Q)(k:∀ d v H',r=.ok d->AB H H'->Rp H' v d->Bf Rq W H' (f d) Q->Q' v H'):G5 Rp W H r Q':=by
 cases r with
 |ok d=>exact λv H2 s2 q=>k d v H2 rfl s2 q (Bf.same s2 h)
 |exn x=>exact h
 |bad=>exact h
theorem JA.bindF{r:R (Ao Ad)}{f:Ao Ad->R D}(h:Bf Rq W H (r.bind f) Q)(k:∀ o H',r=.ok o->AB H H'->Bf Rq W H' (f o) Q->Q' o H'):JA W H r Q':=by
 cases r with
 |ok d=>exact λH2 s2=>k d H2 rfl s2 (Bf.same s2 h)
 |exn x=>exact h
 |bad=>exact h
theorem qJ{lo hi:Ao Al}{fl fh:Rho->R (Ao Ad)}(ha:ST X CL W a fa)(hl:SO X CL W lo fl)(hh:SO X CL W hi fh):SC X CL W Aa (.Subscript a (.Slice lo hi Af p2) pos) (λZ=>(fa Z).bind λx=>(fl Z).bind λl=>(fh Z).bind λh=>slD x l h):=
 λA=>PE.weak (ZO (r:=λx l h H Q=>Ul X.K x l h H Q\/Uk X.K x l h H Q) (λpI s Y H x v vl vu lo hi sl Q I rx hs pl pu h=>h.elim (bE pI s Y H x v vl vu lo hi sl Q I rx hs pl pu) (jB pI s Y H x v vl vu lo hi sl Q I rx hs pl pu)) (ha A) (hl A) (hh A)) λY H Q ⟨hA,Z,g,p⟩=>⟨hA,Z,g,Bf.bindF p λdx x H1 _ s1 r1 p1=>⟨hA.same s1,Z,g.same s1,JA.bindF p1 λl H2 _ s2 p2=>⟨(hA.same s1).same s2,Z,(g.same s1).same s2,JA.bindF p2 λh H3 _ s3 p3=>by
  cases dx with
  |lst ds=>
   obtain⟨q,xs,rfl,sq,r⟩:=((r1.same s2).same s3).lst_of;exact .inl ⟨q,xs,rfl,sq,λt ht=>p3 _ _ (Fe ht _) (J7 ((s1.trans s2).trans s3) (((hA.same s1).same s2).same s3) ht (Sg l h r))⟩
  |tup ds=>
   obtain⟨q,xs,rfl,_,sq,r⟩:=((r1.same s2).same s3).tup_of;rw[XY]at p3;split at p3
   .exact p3.elim
   .rename_i hw;refine .inr ⟨q,xs,rfl,sq,?_,λt ht=>p3 _ _ (Fe ht _) (RV (Ji (((hA.same s1).same s2).same s3) ht (Sg l h r)) (by intro _ z;cases z))⟩
    rintro⟨h1,h2⟩;refine hw ?_;have e:∀ d o,HT.sIx xs.length d o=Gj ds.length d o:=λd o=>by rw[r.length];cases o<;>rfl
    rw[e]at h1 h2;rw[r.length]at h2;simp[h1,h2]
  | _=>exact p3.elim⟩⟩⟩
noncomputable def OpN(X:Cx)(CL:ClA)(W:XW)(f:Aj->Aj->Sem Aj)(g:D->D->R D):Prop:=
 ∀ A H0,OpR X f (λx y H Q=>AB H0 H/\AOk H A/\∃ dx dy,Cv X.K CL H A x dx/\Cv X.K CL H A y dy/\Bf (EU X.K CL Aa H0 A) W H (g dx dy) Q)
theorem dB:OpN X CL W (B1 .Add) (C5 .Add):=by
 intro A H0 pI s Y H x y v u Q I rx ry ⟨s0,hA,dx,dy,hx,hy,p⟩;have key:(∀ ds,dx≠.lst ds)->EP X pI Y Q=EP X pI Y Q->AC (model X.prog X.w) X.A (B1 .Add v u) (EP X pI Y Q) X.xe s:=λhd _=>by
  refine RB (W:=W) A pI s Y H x y v u Q I rx ry ⟨hA,dx,dy,hx,hy,?_⟩;cases e:C5 .Add dx dy with
  |bad=>rw[e]at p;exact p
  |exn x=>rw[e]at p;exact p
  |ok d=>
   rw[e]at p;refine λv' H' s' r'=>p v' H' s' (RV r' λds z=>?_)
   subst z;cases dx with
   |lst ds=>exact hd _ rfl
   |tup xs=>
    cases dy with
    |tup ys=>rw[Su]at e;split at e<;>cases e
    |_=>cases e
   |str xs=>
    cases dy with
    |str ys=>rw[Sv]at e;split at e<;>cases e
    |_=>cases e
   |int i=>cases dy<;>cases e
   |_=>cases e
 cases dx with
 |lst ds=>
  cases dy with
  |lst es=>
   obtain⟨a,xs,rfl,s1,r1⟩:=hx.lst_of;obtain⟨b,ys,rfl,s2,r2⟩:=hy.lst_of;simp only[Sw]at p;split at p
   .rename_i h;refine RC pI s Y H _ _ v u Q I rx ry ⟨a,b,xs,ys,rfl,rfl,s1,s2,by rw[r1.length,r2.length];exact Ga h,λq hq=>?_⟩
    exact p _ _ (Fe hq _) (J7 s0 hA hq (r1.append r2))
   .exact p.elim
  |_=>exact p.elim
 |_=>exact key (by intro _ z;cases z) rfl
theorem jA(ha:ST X CL W a fa)(hb:ST X CL W b fb):SC X CL W Aa (.BinOp a .Add b pos) (λZ=>(fa Z).bind λx=>(fb Z).bind λy=>C5 .Add x y):=
 λA pI s Y H Q I h=>by
  obtain⟨hA,Z,g,p⟩:=h;exact TW (dB (W:=W) A H) (ha A) (hb A) pI s Y H Q I ⟨hA,Z,g,Bf.bindF p λdx x H1 _ s1 r1 p1=>⟨hA.same s1,Z,g.same s1,Bf.bind (Rq:=EU X.K CL Aa H A) p1 λdy y H2 _ s2 r2 p2=>⟨s1.trans s2,(hA.same s1).same s2,dx,dy,r1.same s2,r2,p2⟩⟩⟩
def Uf(X:Cx)(CL:ClA)(W:XW)(f:Aj)(g:Ac D->R D):Prop:=∀ A H0,II X f (λxs H Q=>AB H0 H/\AOk H A/\∃ ds,Gf X.K CL H A xs ds/\Bf (EU X.K CL Aa H0 A) W H (g ds) Q)
theorem gB:Uf X CL W (.type "list") (biD .list):=by
  intro A H0 pI s Y H xs us Q I r ⟨s0,hA,ds,rs,p⟩
  match ds,rs,p with
  |[.lst es],rs,p=>
    obtain⟨v,rfl,rv⟩:=rs.one;obtain⟨q,ys,rfl,sq,ry⟩:=rv.lst_of;exact PV pI s Y H _ us Q I r ⟨q,ys,rfl,.inl sq,λl hl=>p _ _ (Fe hl _) (J7 s0 hA hl ry)⟩
  |[.tup es],rs,p=>
    obtain⟨v,rfl,rv⟩:=rs.one;obtain⟨q,ys,rfl,_,sq,ry⟩:=rv.tup_of;exact PV pI s Y H _ us Q I r ⟨q,ys,rfl,.inr sq,λl hl=>p _ _ (Fe hl _) (J7 s0 hA hl ry)⟩
  |[],_,p=>exact p.elim
  |[.non],_,p=>exact p.elim
  |[.bl _],_,p=>exact p.elim
  |[.int _],_,p=>exact p.elim
  |[.str _],_,p=>exact p.elim
  |[.obj _ _],_,p=>exact p.elim
  |[.exc _ _],_,p=>exact p.elim
  |[.dic _],_,p=>exact p.elim
  |x::_::_,_,p=>cases x<;>exact p.elim
theorem iZ{x:Ak}{g:Ac D->R D}(hc:Uf X CL W (.type T) g)(hg:Gl X x)(hm:X.mg x=Af)(hv:C0 x=Ab (.type T))(ha:SAT X CL W (e::es) fs)(hn:x≠"__name__")(hdb:(x==("__debug__" : Ak))=Ae)(he:Av (e::es) X.env=(Ae,eval e X.env)::Av es X.env)(hpl:∀ pos,(BX pos (Av es X.env)).any (·.1)=Ae):SC X CL W Aa (.Call (.Name x p) (e::es) [] pos) (λZ=>(fs Z).bind g):=λA pI s Y H Q I ⟨hA,Z,gd,q⟩=>
 QC (hc A H) hg hm hv (ha A) hn hdb he (hpl _) pI s Y H Q I ⟨hA,Z,gd,G5.bindF q λds vs H1 _ s1 r1 p1=>⟨s1,hA.same s1,ds,r1,p1⟩⟩
mutual
theorem TF{K:Fg}{H:Hp}{A:Ah->Prop}(hA:AOk H A):∀(n:Ag)(d:D){v:V},nlD n d=Aa->Rep K CL H A0 v d->Rep K CL H A v d
 |_,.non,_,_,h=>h
 |_,.bl _,_,_,h=>h
 |_,.int _,_,_,h=>h
 |_,.str _,_,_,h=>h
 |0,.tup _,_,hn,_=>by cases hn
 |n+1,.tup ds,_,hn,h=>by
  obtain⟨a,xs,e,_,s,r⟩:=h;refine⟨a,xs,e,?_,s,nls_up hA n ds hn r⟩;rcases s with s|s
  .refine .inl λz=>?_
   obtain⟨u,q,⟨ys,rfl⟩|⟨ys,rfl⟩⟩:=hA a z<;>rcases s with s|⟨o,s⟩<;>rw[q]at s<;>cases s
  .exact .inr s
 |n,.lst _,_,hn,_=>by cases n<;>cases hn
 |n,.obj _ _,_,hn,_=>by cases n<;>cases hn
 |n,.exc _ _,_,hn,_=>by cases n<;>cases hn
 |n,.dic _,_,hn,_=>by cases n<;>cases hn
theorem nls_up{K:Fg}{H:Hp}{A:Ah->Prop}(hA:AOk H A):∀(n:Ag)(ds:Ac D){vs:Ac V},ds.all (nlD n)=Aa->Reps K CL H A0 vs ds->Reps K CL H A vs ds
 |_,[],[],_,h=>h
 |n,d::ds,_::_,hn,h=>by
  simp only[Gu,Ap]at hn;exact⟨TF hA n d hn.1 h.1,nls_up hA n ds hn.2 h.2⟩
 |_,[],_::_,_,h=>h.elim
 |_,_::_,[],_,h=>h.elim
end
theorem mO{fr:Ai}(hA0:AOk H0 A)(s:AB H0 H)(hc:KB fr d=Aa)(r:EU K CL fr H0 A0 H v d):EU K CL fr H0 A H v d:=by
 have hA:=hA0.same s;cases d with
 |lst ds=>
  have hc':(fr&&ds.all (nlD 5))=Aa:=hc;rw[Ap]at hc';obtain⟨a,xs,e,h0,h1,rs⟩:=r.2 hc'.1 ds rfl;have hA2:AOk H (λb=>A b\/b=a):=λb hb=>hb.elim (hA b) λe=>by rw[e];exact⟨_,h1,.inl ⟨xs,rfl⟩⟩
  have rs':=nls_up hA2 5 ds hc'.2 (Reps.sub (λ_ z=>z.elim) _ rs)
  refine⟨⟨a,xs,e,.inl (hA0.new h0),SqL.of h1,Reps.sub (λ_ z=>.inl z) _ rs'⟩,λ_ ds' e'=>?_⟩
  cases e';exact⟨a,xs,e,h0,h1,rs'⟩
 |_=>exact⟨TF hA 5 _ hc r.1,λ_ _ z=>nomatch z⟩
def PK(K:Fg)(CL:ClA)(fr:Ai)(H0:Hp)(A:Ah->Prop)(H:Hp)(v:V)(d:D):Prop:=EU K CL fr H0 A H v d/\(fr=Aa->FT K CL A (λa=>H0 a=Af) H v d)
def spD(K:Fg)(CL:ClA)(n:Ag)(fr:Ai)(F:Ac D->R D):Sp:=λvs H Q E=>∃(ds:Ac D)(A:Ah->Prop),vs.length=n/\AOk H A/\Reps K CL H A vs ds/\(match F ds with
  |.ok d=>∀ v H',AB H H'->PK K CL fr H A H' v d->Q v H'
  |.exn x=>∀ cls dx H',AB H H'->G4 K CL H' cls dx x->E cls dx H'
  | .bad=>Bk)
def EKW(K:Fg)(CL:ClA)(A:Ah->Prop)(W:XW):XK:=λcls dx H'=>∃ x,G4 K CL H' cls dx x/\W x H'
theorem Gf.plain{K:Fg}{H:Hp}{A:Ah->Prop}:∀{vs:Ac V}{ds:Ac D},Gf K CL H A vs ds->Reps K CL H A0 vs ds
 |[],[],h=>trivial
 |_::_,_::_,h=>⟨h.1.plain,Gf.plain h.2⟩
 |[],_::_,h=>h.elim
 |_::_,[],h=>h.elim
theorem aD{CX:CXT}{k:Ag}{fr:Ai}{f:Ah}{fd:BW}{ps:Ac Ak}{F:Ac D->R D}{x:Ak}{ft:Rho->R (Ac D)}{sh:Rho->Ai}(G:FnOk X.prog X.w X.K X.mg X.base CX k f fd ps (spD X.K CL n fr F))(hr:Room k X.A)(hg:Gl X x)(hm:X.mg x=Ab (.ref f))(hk:CC X.K (.ref f)=Aa)(hb:GC X.K fd ps [])(hx:∀ A,Jw CX X (EKW X.K CL A W))(ha:SA X CL W (e::es) fs)(hat:SAT X CL W (e::es) ft)(hst:∀ Z,sh Z=Aa->ft Z=fs Z)(hn:∀ Z ds,ft Z=.ok ds->ds.length=n)(hdb:(x==("__debug__" : Ak))=Ae)(he:Av (e::es) X.env=(Ae,eval e X.env)::Av es X.env)(hpl:∀ pos,(BX pos (Av es X.env)).any (·.1)=Ae):SC X CL W fr (.Call (.Name x p) (e::es) [] pos) (λZ=>(ft Z).bind λds=>(F ds).bind λd=>if sh Z=Aa then .ok d else if KB fr d=Aa then .ok d else .bad):=λA pI s Y H Q I ⟨hA,Z,gd,q⟩=>by
 dsimp only at q;by_cases hs:sh Z=Aa
 .rw[hst Z hs]at q;refine Ob G hr hg hm hk hb .nil (hx A) (ha A) hdb he (hpl _) pI s Y H Q I ⟨hA,Z,gd,?_⟩;cases e1:fs Z with
  |bad=>rw[e1]at q;exact q
  |exn y=>rw[e1]at q;exact q
  |ok ds=>
   rw[e1]at q;intro vs H1 s1 r1;refine⟨ds,A,by rw[BE,r1.length];exact hn Z ds (by rw[hst Z hs];exact e1),hA.same s1,by rw[BE];exact r1,?_⟩
   have q':Bf (EU X.K CL fr H A) W H ((F ds).bind λd=>if sh Z=Aa then .ok d else if KB fr d=Aa then .ok d else .bad) Q:=q
   cases e2:F ds with
   |ok d=>
    rw[e2,R.bind_ok,Ax hs]at q';exact λv H2 s2 ⟨r2,_⟩=>q' v H2 (s1.trans s2) ⟨r2.1,λz ds' e'=>let ⟨a,xs,z1,z2,z3⟩:=r2.2 z ds' e';⟨a,xs,z1,s1.free z2,z3⟩⟩
   |exn y=>rw[e2]at q';exact λcls dx H2 s2 xr=>⟨y,xr,q' H2 (s1.trans s2)⟩
   |bad=>rw[e2]at q';exact q'.elim
 .refine Ob G hr hg hm hk hb .nil (hx A0) (hat A) hdb he (hpl _) pI s Y H Q I ⟨hA,Z,gd,?_⟩;cases e1:ft Z with
  |bad=>rw[e1]at q;exact q
  |exn y=>rw[e1]at q;exact q
  |ok ds=>
   rw[e1]at q;intro vs H1 s1 r1;refine⟨ds,A0,by rw[BE,r1.plain.length];exact hn Z ds e1,λ_ z=>z.elim,by rw[BE];exact r1.plain,?_⟩
   have q':Bf (EU X.K CL fr H A) W H ((F ds).bind λd=>if sh Z=Aa then .ok d else if KB fr d=Aa then .ok d else .bad) Q:=q
   cases e2:F ds with
   |ok d=>
    rw[e2,R.bind_ok,AF hs]at q';split at q'
    .rename_i hc;exact λv H2 s2 ⟨r2,_⟩=>q' v H2 (s1.trans s2) (mO hA (s1.trans s2) hc ⟨r2.1,λz ds' e'=>let ⟨a,xs,z1,z2,z3⟩:=r2.2 z ds' e';⟨a,xs,z1,s1.free z2,z3⟩⟩)
    .exact q'.elim
   |exn y=>rw[e2]at q';exact λcls dx H2 s2 xr=>⟨y,xr,q' H2 (s1.trans s2)⟩
   |bad=>rw[e2]at q';exact q'.elim
end
theorem Ny(env:Cf):∀(ns:Ac (Ak×D3))(acc:Ac (Ak×Ah)),(∀ x∈ns,x.2=.free->∃ c,env.cells.lookup x.1=Ab c)->(∀ x c,acc.lookup x=Ab c->env.cells.lookup x=Ab c) ->
  ∃ cl,(forIn ns acc fun(x:Ak×D3)(cs:Ac (Ak×Ah))=>(if (x.2==.free)=Aa then do let c <-cellOf env x.1;pure (Eg ((x.1,c)::cs)) else pure (Eg cs):Sem (ForInStep (Ac (Ak×Ah)))))=pure cl /\
   (∀ x c,cl.lookup x=Ab c->env.cells.lookup x=Ab c)/\(∀ x,((x,DG)∈ns\/∃ c,acc.lookup x=Ab c)->∃ c,cl.lookup x=Ab c)
 |[],acc,_,h2=>⟨acc,by rw[F7],h2,λx hx=>hx.elim (λz=>nomatch z) id⟩
 |(n,k)::r,acc,h1,h2=>by
  rw[He];by_cases hk:k=.free
  .subst hk;obtain⟨c,hc⟩:=h1 (n,.free) Aw rfl;obtain⟨cl,e,p,q⟩:=Ny env r ((n,c)::acc) (λx hx=>h1 x (Au _ hx)) (λx d hd=>by
    rw[B6]at hd;split at hd
    .rename_i hx;cases hd;rw[eq_of_beq hx];exact hc
    .exact h2 x d hd)
   refine⟨cl,?_,p,λx hx=>q x ?_⟩
   .have e1:cellOf env n=pure c:=by unfold cellOf;dsimp only at hc;rw[hc]
    rw[Ax (by rfl),e1]
    exact e
   .rcases hx with hx|⟨d,hd⟩
    .rcases AE.mp hx with z|z
     .cases z;exact .inr ⟨c,by simp[B6]⟩
     .exact .inl z
    .by_cases hxn:x=n
     .exact .inr ⟨c,by subst hxn;simp[B6]⟩
     .exact .inr ⟨d,by rw[B6];rw[Co.mpr hxn];exact hd⟩
  .obtain⟨cl,e,p,q⟩:=Ny env r acc (λx hx=>h1 x (Au _ hx)) h2
   refine⟨cl,?_,p,λx hx=>q x ?_⟩
   .rw[AF (by simpa using hk)]
    exact e
   .rcases hx with hx|hx
    .rcases AE.mp hx with z|z
     .cases z;exact absurd rfl hk
     .exact .inl z
    .exact .inr hx
theorem P9(h:∀ x∈scope.names,x.2=.free->∃ c,env.cells.lookup x.1=Ab c):∃ cl,closureFor scope env=pure cl/\(∀ x c,cl.lookup x=Ab c->env.cells.lookup x=Ab c)/\∀ x,(x,DG)∈scope.names->∃ c,cl.lookup x=Ab c:=by
 obtain⟨cl,e,p,q⟩:=Ny env scope.names [] h (λx c z=>by simp at z)
 refine⟨cl,?_,p,λx hx=>q x (.inl hx)⟩
 unfold closureFor
 first
  |exact e
  |(simp only[bind_pure];exact e)
  |(rw[show (forIn scope.names ([]:Ac (Ak×Ah)) _:Sem _)=pure cl from e];rfl)
theorem NQ:∀(names:Ac (Ak×D3))(h:AJ)(acc:Ac (Ak×Ah))(x:Ak)(c:Ah),(Da h.objs.size names acc).lookup x=Ab c->acc.lookup x=Ab c\/((x,BM)∈names/\h.objs.size<=c/\(Gq h names).IsCell c Af)
 |[],_,_,_,_,e=>.inl e
 |(n,k)::r,h,acc,x,c,e=>by
  unfold Da at e;unfold Gq;by_cases hk:(k==BM)=Aa
  .rw[Ax hk]at e ⊢;have hs:h.objs.size+1=(h.push { cls:=.type "cell",data:=.cell Af }).objs.size:=(BR ..).symm;rw[hs]at e;rcases NQ r _ _ x c e with q|⟨q1,q2,q3⟩
   .rw[B6]at q;cases hx:x==n with
    |true=>
     rw[hx]at q;cases q;refine .inr ⟨?_,AR _,?_⟩
     .rw[eq_of_beq hx,eq_of_beq hk];exact Aw
     .exact⟨_,Hk r _ _ _ (AH _ rfl),rfl⟩
    |false=>rw[hx]at q;exact .inl q
   .exact .inr ⟨Au _ q1,by omega,q3⟩
  .rw[AF hk]at e ⊢;rcases NQ r h acc x c e with q|⟨q1,q2,q3⟩
   .exact .inl q
   .exact .inr ⟨Au _ q1,q2,q3⟩
theorem NR:∀(names:Ac (Ak×D3))(h:AJ)(acc:Ac (Ak×Ah)),(∀ x y c,acc.lookup x=Ab c->acc.lookup y=Ab c->x=y)->(∀ x c,acc.lookup x=Ab c->c<h.objs.size)->∀ x y c,(Da h.objs.size names acc).lookup x=Ab c->(Da h.objs.size names acc).lookup y=Ab c->x=y
 |[],_,_,i,_,x,y,c,e1,e2=>i x y c e1 e2
 |(n,k)::r,h,acc,i,b,x,y,c,e1,e2=>by
  unfold Da at e1 e2;by_cases hk:(k==BM)=Aa
  .rw[Ax hk]at e1 e2;have hs:h.objs.size+1=(h.push { cls:=.type "cell",data:=.cell Af }).objs.size:=(BR ..).symm;rw[hs]at e1 e2;have look:∀ z d,Vt z ((n,h.objs.size)::acc)=Ab d->(z=n/\d=h.objs.size)\/(z≠n/\acc.lookup z=Ab d):=λz d q=>by
    rw[B6]at q;cases hx:z==n with
    |true=>rw[hx]at q;cases q;exact .inl ⟨eq_of_beq hx,rfl⟩
    |false=>rw[hx]at q;exact .inr ⟨λe=>by rw[e]at hx;simp at hx,q⟩
   refine NR r _ _ (λz z' d q q'=>?_) (λz d q=>?_) x y c e1 e2
   .rcases look z d q with ⟨rfl,q1⟩|⟨_,q1⟩<;>rcases look z' d q' with ⟨rfl,q2⟩|⟨_,q2⟩
    .rfl
    .exact absurd (b _ _ q2) (by rw[q1];exact Bt _)
    .exact absurd (b _ _ q1) (by rw[q2];exact Bt _)
    .exact i _ _ _ q1 q2
   .rw[<-hs];rcases look z d q with ⟨_,q1⟩|⟨_,q1⟩
    .rw[q1];exact Ez _
    .exact Do (b _ _ q1)
  .rw[AF hk]at e1 e2;exact NR r h acc i b x y c e1 e2
theorem NA:∀(names:Ac (Ak×D3))(n:Ag)(acc:Ac (Ak×Ah))(x:Ak),(x,BM)∉names->(Da n names acc).lookup x=acc.lookup x
 |[],_,_,_,_=>rfl
 |(m,k)::r,n,acc,x,hx=>by
  unfold Da;have hr:(x,BM)∉r:=λz=>hx (Au _ z)
  by_cases hk:(k==BM)=Aa
  .rw[Ax hk,NA r _ _ x hr,B6];cases q:x==m with
   |true=>exact absurd (by rw[eq_of_beq q,eq_of_beq hk];exact Aw) hx
   |false=>rfl
  .rw[AF hk];exact NA r n acc x hr
theorem NT(n0:Ag):∀(names:Ac (Ak×D3))(n:Ag)(acc:Ac (Ak×Ah))(x:Ak),n0<=n->((x,BM)∈names\/∃ c,acc.lookup x=Ab c/\n0<=c)->∃ c,(Da n names acc).lookup x=Ab c/\n0<=c
 |[],_,_,_,_,h=>h.elim (λz=>nomatch z) id
 |(m,k)::r,n,acc,x,hn,h=>by
  unfold Da;by_cases hk:(k==BM)=Aa
  .rw[Ax hk];refine NT n0 r _ _ x (by omega) ?_
   by_cases hx:(x==m)=Aa
   .exact .inr ⟨n,by rw[B6,hx],hn⟩
   .rcases h with h|⟨c,h,hc⟩
    .rcases AE.mp h with z|z
     .cases z;simp at hx
     .exact .inl z
    .exact .inr ⟨c,by rw[B6];simp only[hx];exact h,hc⟩
  .rw[AF hk];refine NT n0 r _ _ x hn (h.imp (λh=>?_) id)
   rcases AE.mp h with z|z
   .cases z;simp at hk
   .exact z
theorem X9{M:IQ}{A:A2}{E:Vq}{globals:Ah}{qual:Ak}{Q:Cf->Aq->Prop}(hQ:Q (newEnv scope s.heap.objs.size globals (Da (s.heap.objs.size+1) scope.names cl) qual Af .none (Ab env) HU) { s with heap:=Gq (s.heap.push { cls:=.type "dict",data:=.dict #[] }) scope.names }):AC M A (HJ scope globals cl [] qual Af .none (Ab env)) Q E s:=by
 simp only[HJ,Option.isSome_some,HN];refine Am (wpAny_alloc ?_);refine Am (wpAny_layCells _ (λname kind cells=>by cases hkc:kind==BM<;>simp[hkc]) _ _ _ _ ?_)
 rw[show ({ s with heap:=s.heap.push { cls:=.type "dict",data:=.dict #[] } }:Aq).heap.objs.size=s.heap.objs.size+1 from BR ..]
 rw[F7];exact Am (AD (AD hQ))
noncomputable def cxC(X:Cx)(scope:B0)(cl:Ac (Ak×Ah))(C:Ah)(N':Ac Ak)(s₀:Aq)(H₀:Hp)(fp:Ac Ah):Cx where
 prog:=X.prog
 w:=X.w
 K:=X.K
 mg:=X.mg
 base:=X.base
 A:=X.A
 N:=N'
 s₀:=s₀
 H₀:=H₀
 env:=compEnvC scope cl C X.env
 outer:=X.stack
 stack:=X.stack
 ex:=fp
 fn:=λx=>scope.names.lookup x==Ab BM
 calm:=X.calm
 pn:=[]
 xe:=λ_ _=>Bk
theorem Lq{env:Cf}:∀{names:Ac (Ak×D3)}{x:Ak}{k:D3},(names.map λ(n,k)=>if (k==DG&&env.scope.kind==.function&&env.kindOf n==Ab .cell) then (n,BM) else (n,k)).lookup x=Ab k->names.lookup x=Ab k\/(k=.cell/\names.lookup x=Ab .free)
 |[],_,_,h=>by simp at h
 |(n,j)::r,x,k,h=>by
  have ih:=@Lq env r x k;have h':Vt x ((if (j==DG&&env.scope.kind==.function&&env.kindOf n==Ab .cell)=Aa then (n,BM) else (n,j))::(r.map λ(n,k)=>if (k==DG&&env.scope.kind==.function&&env.kindOf n==Ab .cell) then (n,BM) else (n,k)))=Ab k:=h
  by_cases hc:(j==DG&&env.scope.kind==.function&&env.kindOf n==Ab .cell)=Aa
  .rw[Ax hc]at h';rw[B6]at h' ⊢;cases hx:x==n with
   |true=>
    rw[hx]at h';cases h';simp only[Ap]at hc;exact .inr ⟨rfl,by rw[eq_of_beq hc.1.1]⟩
   |false=>rw[hx]at h';exact ih h'
  .rw[AF hc]at h';rw[B6]at h' ⊢;cases hx:x==n with
   |true=>rw[hx]at h';exact .inl h'
   |false=>rw[hx]at h';exact ih h'
structure BlockOk (X:Cx) (scope:B0) (N':Ac Ak) (ts:Ac Ag):Prop where
 kind:scope.kind=.function
 uniq:∀ y∈scope.names,scope.names.lookup y.1=Ab y.2
 names:∀ y∈scope.names,y.2=.local->scope.names.lookup y.1=Ab .local
 free:∀ y∈scope.names,y.2=.free->X.env.scope.names.lookup y.1=Ab .cell\/X.env.scope.names.lookup y.1=Ab .free
 len:N'.length=X.N.length
 same:∀ i x,N'[i]?=Ab x->scope.names.lookup x=Ab .free->i∉ts->X.N[i]?=Ab x
 loc:∀ i x,N'[i]?=Ab x->(scope.names.lookup x=Ab .local\/scope.names.lookup x=Ab .cell)->i∈ts
structure BCells (X:Cx) (scope:B0) (cl:Ac (Ak×Ah)) (C:Ah) (h:AJ):Prop where
 own:∀ x c,cl.lookup x=Ab c->X.env.cells.lookup x=Ab c\/(scope.names.lookup x=Ab .cell/\C<c/\h.IsCell c Af)
 inj:∀ x y c,cl.lookup x=Ab c->cl.lookup y=Ab c->x=y
 has:∀ x,scope.names.lookup x=Ab .cell->∃ c,cl.lookup x=Ab c/\C<c
 fr:∀ x,(x,DG)∈scope.names->∃ c,cl.lookup x=Ab c/\X.env.cells.lookup x=Ab c
section
variable{X:Cx}{pI:Pn}{Y:L2.St}{H:Hp}{s:Aq}
noncomputable def hideT(ts:Ac Ag)(Y:L2.St):L2.St:=ts.foldl (λY t=>Y.set t Af) Y
theorem Np:∀(ts:Ac Ag)(Y:L2.St),(hideT ts Y).length=Y.length
 |[],_=>rfl
 |t::ts,Y=>by show (hideT ts (Y.set t Af)).length=_;rw[Np ts,A6]
theorem Qj:∀(ts:Ac Ag)(Y:L2.St){i:Ag}{v:V},(hideT ts Y)[i]?=Ab (Ab v)->Y[i]?=Ab (Ab v)/\i∉ts
 |[],_,_,_,h=>⟨h,by simp⟩
 |t::ts,Y,i,v,h=>by
  obtain⟨h1,h2⟩:=Qj ts (Y.set t Af) (i:=i) (v:=v) h;by_cases e:t=i
  .subst e;have:=Gb h1;cases this
  .rw[Cb e]at h1;exact⟨h1,by simp only[AE,EL];exact⟨λz=>e z.symm,h2⟩⟩
theorem Yl{tk:Ag}{C:Ah}{m:Ak->Ao Aj}(I:Inv X pI Y H s)(B:BlockOk X scope N' ts)(hf:∀ b∈fp,Gh X pI H b)(hfo:∀ b∈fp,b<s.heap.objs.size)(hb:BCells X scope cl C h')(hk:∀ b o,s.heap.get? b=Ab o->h'.get? b=Ab o)(hC:s.heap.objs.size<=C)(hn:h'.Ns C m):Inv (cxC X scope cl C N' s H fp) [] (hideT ts Y) H {s with heap:=h',toks:=tk}:=by
 have stf:∀ b∈fp,b∉frs X.stack:=λb hb z=>by
  rcases AE.mp (I.stkSub b z) with e|e
  .exact(hf b hb).2.1 e
  .exact(hf b hb).2.2.1 e
 have frOf:∀ x,((relabel scope X.env).names.lookup x=Ab .cell\/(relabel scope X.env).names.lookup x=Ab .free)->scope.names.lookup x=Ab .free\/scope.names.lookup x=Ab .cell:=λx hx=>by
  rcases hx with z|z
  .rcases Lq z with z|⟨_,z⟩
   .exact .inr z
   .exact .inl z
  .rcases Lq z with z|⟨z,_⟩
   .exact .inl z
   .cases z
 have gtC:∀ c:Ah,C<c->s.heap.objs.size<=c:=λc z=>Ct hC (FN z)
 have cellK:∀ c v,s.heap.IsCell c v->h'.IsCell c v:=λc v ⟨o,ho,hd⟩=>⟨o,hk _ _ ho,hd⟩
 refine⟨⟨I.ok.mod,B.kind,I.ok.glob,I.ok.blt,hC,hb.inj,λx hx=>?_,λx c h e=>?_,I.ok.hd,I.ok.frames,.inl rfl,λb hbb=>⟨?_,λx c e=>?_⟩,I.bs,Ct I.ok.bsz I.sz,λb o e hbb=>?_,stf,I.stack,I.stkFree⟩,rfl,I.bare,Un.kept hk,⟨m,hn,λi x v h1 h2 h3=>?_⟩,λx c e=>?_,I.hok.fresh hC,λx c e=>(hb.own x c e).elim (I.freeC x c) (λz=>I.hok.fresh (gtC c z.2.1)),λp hp=>absurd (show p∈([]:Pn) from hp) (by simp),I.hok.kept hk,?_⟩
 .rcases frOf x hx with z|z
  .obtain⟨c,q,_⟩:=hb.fr x (Ck z);exact⟨c,q⟩
  .obtain⟨c,q,_⟩:=hb.has x z;exact⟨c,q⟩
 .obtain⟨c',q,z⟩:=hb.has x (eq_of_beq h);have e':cl.lookup x=Ab c:=e;rw[q]at e';cases e';exact gtC _ z
 .intro z;have z':b=C:=z;have:=hfo b hbb;rw[z']at this;exact absurd (AG this hC) (Bt _)
 .rcases hb.own x c e with z|z
  .exact(hf b hbb).2.2.2.2.1 x c z
  .intro q;have:=hfo b hbb;have:=gtC c z.2.1;rw[q]at this;exact absurd ‹b<_› (VG.mpr this)
 .rcases (hf b hbb).2.2.2.1 with z|z
  .exact I.ok.noex b o e z
  .exact absurd (AG (AI e) (Ct I.ok.bsz z)) (Bt _)
 .obtain⟨h2,hts⟩:=Qj ts Y h2;have h3':(relabel scope X.env).names.lookup x=Ab .local\/(relabel scope X.env).names.lookup x=Ab .cell\/(relabel scope X.env).names.lookup x=Ab .free:=h3;have h1':N'[i]?=Ab x:=h1;rcases h3' with z|z
  .rcases Lq z with z|⟨z,_⟩
   .exact absurd (B.loc i x h1' (.inl z)) hts
   .cases z
  .have fr:=(frOf x z).resolve_right λq=>hts (B.loc i x h1' (.inr q))
   have hm:=Ck fr;have hX:=B.same i x h1' fr hts;obtain⟨m0,hn0,hl0⟩:=I.loc;obtain⟨u,ru,lk⟩:=hl0 i x v hX h2 (by
    rcases B.free _ hm rfl with q|q
    .exact .inr (.inl q)
    .exact .inr (.inr q))
   refine⟨u,ru,?_⟩;obtain⟨c,hc,hcX⟩:=hb.fr x hm;rcases lk with ⟨q,_⟩|⟨_,c',hc',hcell⟩
   .have q':X.env.scope.names.lookup x=Ab .local:=q;rcases B.free _ hm rfl with p|p
    .rw[show X.env.scope.names.lookup x=_ from p]at q';cases q'
    .rw[show X.env.scope.names.lookup x=_ from p]at q';cases q'
   .have e:=hcX;rw[hc']at e;cases e;exact .inr ⟨z,c,hc,cellK _ _ hcell⟩
 .rcases hb.own x c e with z|z
  .obtain⟨v,q⟩:=I.cell x c z;exact⟨v,cellK _ _ q⟩
  .exact⟨_,z.2.2⟩
 .show (hideT ts Y).length=N'.length;rw[Np,I.len,B.len]
theorem Qq{C D:Ah}{s':Aq}{Y':L2.St}{pins':Pn}{h'':AJ}{ys:Ac Aj}(I:Inv X pI Y H s)(hf:∀ b∈fp,Gh X pI H b)(I':Inv (cxC X scope cl C N' s H fp) pins' Y' H' s')(hD:s.heap.objs.size<=D)(hDC:D≠C)(hC:s.heap.objs.size<=C)(hd:s'.heap.get? D=Ab { cls:=.type "list",data:=.seq ys.toArray n })(hDn:H' D=Af)(rv:A9 xs ys)(hz:xs.length<=sizeLine)(hs:D0 C s'.heap h''):Inv X pI Y (upd H' D (.lst xs)) {s' with heap:=h''}:=by
  have u:Un (frs X.stack) fp H H' s.heap s'.heap:=I'.base;have lt:∀ b o,s.heap.get? b=Ab o->b≠C/\b≠D:=λb o e=>⟨λz=>absurd (AG (AI e) (z ▸ hC)) (Bt _),λz=>absurd (AG (AI e) (z ▸ hD)) (Bt _)⟩
  have HD:H D=Af:=I.hok.fresh hD;have hCn:H' C=Af:=I'.free;have kb:∀ b o,b≠C->s'.heap.get? b=Ab o->h''.get? b=Ab o:=λb o hb e=>(hs.2 b hb).trans e
  have u2:Un (frs X.stack) fp H (upd H' D (.lst xs)) s.heap h'':=⟨λb o e q hb hx=>kb b o (lt b o e).1 (u.keep b o e q hb hx),λb o e q hb hx=>by
      obtain⟨sl,e1⟩:=u.slot b o e q hb hx;exact⟨sl,kb b _ (lt b o e).1 e1⟩,λb o e q hx=>by rw[CK (lt b o e).2];exact u.free b o e q hx,λb o e hx=>by
      obtain⟨o',e1⟩:=u.there b o e hx;exact⟨o',kb b _ (lt b o e).1 e1⟩,λb zs q=>by rw[CK (Fx q HD)];exact u.tups b zs q,λb o zs q=>by rw[CK (Fx q HD)];exact u.frzs b o zs q,λb ps q=>by rw[CK (Fx q HD)];exact u.tbls b ps q⟩
  have hok:HOk X.prog X.w (upd H' D (.lst xs)) h'':=λb o e=>by
    by_cases hb:b=D
    · subst hb;rw[G0]at e;cases e;exact⟨hz,ys,n,rv,kb _ _ hDC hd⟩
    · rw[CK hb]at e;refine(I'.hok b o e).stay (λc v hc q=>kb c v ?_ q) (λc q=>by rw[CK (Fx q hDn)];exact q) λc zs q=>by rw[CK (Fx q hDn)];exact q
      rcases hc with rfl|hc
      · exact Fx e hCn
      · exact Fx hc hCn
  exact I.call' (s':={s' with heap:=h''}) (ch:=fp) I'.os u2 hok I'.bare λb hb=>⟨(hf b hb).2.2.2.1,(hf b hb).2.1,(hf b hb).2.2.2.2.1,(hf b hb).2.2.2.2.2⟩
end
def PTs(X:Cx)(ifs:Ac Al)(tt:TT):Prop:=∀(pI:Pn)(s:Aq)(Y:L2.St)(H:Hp)(Q:Ai->Hp->Prop),Inv X pI Y H s->tt Y H Q ->
 AC (model X.prog X.w) X.A (forIn ifs Aa λc r=>if r=Aa then do let ok <-HI c X.env (eval c X.env);pure (Eg ok) else pure (Eg r)) (TP X pI Y Q) X.xe s
theorem cL:PTs X [] (λY H Q=>Q Aa H):=λpI s Y H Q I h=>wpAny_tests_nil ⟨H,I,h⟩
theorem cK{t:TT}(h:PT X c t):PTs X [c] t:=λpI s Y H Q I q=>wpAny_tests_one (h pI s Y H Q I q)
theorem Yn{D:Ah}{ys:Ac Aj}{E:Vq}{Q:Vq}(I:Inv X ((D,{ cls:=.type "list",data:=.seq ys.toArray n })::pI) Y H s)(hD:X.s₀.heap.objs.size<=D)(hp:∀ p∈X.pn++pI,p.1≠D)(hc:∀ x c,X.env.cells.lookup x=Ab c->c≠D)(hz:ys.length<=sizeLine)(h:∀ s',Inv X ((D,{ cls:=.type "list",data:=.seq (ys++[y]).toArray (n+1) })::pI) Y H s'->(∀ b o,b≠D->s.heap.get? b=Ab o->s'.heap.get? b=Ab o)->Q .none s'):AC (model X.prog X.w) X.A (call (.builtin "list.append") [.ref D,y]) Q E s:=by
 obtain⟨e,hn,hL,hfs,_⟩:=I.pin (D,{ cls:=.type "list",data:=.seq ys.toArray n }) (Bo _ Aw);refine append_at (hsz:=by rw[Az];exact hz) e λh' hs hd=>?_
 have hd':h'.get? D=Ab { cls:=.type "list",data:=.seq (ys++[y]).toArray (n+1) }:=by rw[hd];simp
 have kb:∀ b o,b≠D->s.heap.get? b=Ab o->h'.get? b=Ab o:=λb o hb q=>(hs.2 b hb).trans q
 have I0:Inv X pI Y H s:=I.pins_of λp hp=>I.pin p (Bo _ (Au _ hp))
 have I1:Inv X pI Y H {s with heap:=h'}:=I0.turned (t':=s.toks) kb hn hL (.inr hD) hc hp
 refine h _ (I1.pins_of λp hp=>?_) kb
 rcases AE.mp hp with rfl|hp
 .exact⟨hd',hn,hL,hfs,λv z=>by
   have z':KI _ _=KH v:=z;cases z'⟩
 .exact I1.pin p (Bo _ hp)
section
variable{prog:AM}{w:Ay}{A:A2}{R:Io->Aq->Prop}{s:Aq}
theorem Yk{target:Al}{it acc:Aj}(I:Ag->Aq->Prop)(turn:∀ n s,I n s->AC (model prog w) A (HL it) (λr s₁=>match r with
      |none=>R (.ok .next) s₁
      | some v=>AC (model prog w) A (FV target it v) (λ_ s₁'=>AC (model prog w) A (assign target env v) (λ_ s₂=>
          AC (model prog w) A (forIn ifs Aa λc r=>if r=Aa then do let ok <-HI c env (eval c env);pure (Eg ok) else pure (Eg r)) (λok s₃=>
            if ok=Aa then AC (model prog w) A (eval elt env) (λx s₄=>
              AC (model prog w) A (call (.builtin "list.append") [acc,x]) (λ_ s₅=>∃ m,m<n/\I m s₅) (HK (model prog w) A env λe s'=>R (.error e) s') s₄) (HK (model prog w) A env λe s'=>R (.error e) s') s₃
            else ∃ m,m<n/\I m s₃) (HK (model prog w) A env λe s'=>R (.error e) s') s₂) (HK (model prog w) A env λe s'=>R (.error e) s') s₁') (HK (model prog w) A env λe s'=>R (.error e) s') s₁) (HK (model prog w) A env λe s'=>R (.error e) s') s)(n:Ag)(h:I n s):F9 (model prog w) A (.compLoop (.ListComp elt [⟨target,iter,ifs,0⟩] scope pos) 0 it acc env) R s:=by
  refine codeAny_loop rfl I (λn s hI=>?_) n h
  show AC _ A ((compTurn (.ListComp elt [⟨target,iter,ifs,0⟩] scope pos) 0 it acc env).onRaise (λx=>do Iy x env;theTreesLotGoes x)) _ _ s
  refine wpAny_noted ?_;rw[compTurn_list];refine Am (Gy (Am (Cd (turn n s hI) (λr s₁ h₁=>?_) λ_ _ h'=>h')))
  cases r with
  |none=>exact AD h₁
  |some v=>
    refine Am (Cd h₁ (λ_ s₁' h₁'=>?_) λ_ _ h'=>h')
    refine Am (Cd h₁' (λ_ s₂ h₂=>Am (Cd h₂ (λok s₃ h₃=>?_) λ_ _ h'=>h')) λ_ _ h'=>h')
    cases ok with
    |false=>exact AD ⟨rfl,h₃⟩
    |true=>
      exact Am (Am (Cd h₃ (λx s₄ h₄=>Am (Cd h₄ (λ_ s₅ h₅=>AD (AD ⟨rfl,h₅⟩)) λ_ _ h'=>h')) λ_ _ h'=>h'))
end
def K6(J:It)(ts:Ac Ag)(g:TG)(tt:TT)(te:TE)(Y:L2.St)(H:Hp)(Q:VK):Prop:=∃ W:Ag->Ag->Ac V->L2.St->Hp->Prop,(∃ m,W 0 m [] (hideT ts Y) H)/\∀ i m xs Y H,W i m xs Y H ->
 (J.stop i H/\∀ p,H p=Af->Q (.ref p) (upd H p (.lst xs))) \/
 (J.go i H/\xs.length<sizeLine/\∀ x H',J.yld i H x H'->g x Y H' λY2 H2=>tt Y2 H2 λb H3=>if b=Aa then te Y2 H3 λy H4=>∃ m',m'<m/\W (i+1) m' (xs++[y]) Y2 H4 else ∃ m',m'<m/\W (i+1) m' xs Y2 H3)
theorem Ri{g:TG}{it:Ah}{tn:Ag->AJ->Prop}{E:Vq}{RR:Aj->Ah->Io->Aq->Prop}(hc:X.calm=Aa)(B:BlockOk X scope N' ts)(I:Inv X pI Y H s)(T:Turn X.prog X.w X.K tg J fp it tn)(st:tn 0 s.heap)(hf:∀ b∈fp,Gh X pI H b)(hcl:∀ x c,cl.lookup x=Ab c->X.env.cells.lookup x=Ab c)(hcl2:∀ x,(x,DG)∈scope.names->∃ c,cl.lookup x=Ab c)(hg:∀ cl C s H,PG (cxC X scope cl C N' s H fp) tg g)(ht:∀ cl C s H,PTs (cxC X scope cl C N' s H fp) ifs tt)(he:∀ cl C s H,PE (cxC X scope cl C N' s H fp) elt te)(h:K6 J ts g tt te Y H Q)(hRR:∀ cl D C s' H' Y' pins' xs ys n m,Inv (cxC X scope cl C N' s H fp) pins' Y' H' s'->s'.heap.get? D=Ab { cls:=.type "list",data:=.seq (FM ys) n }->H' D=Af->A9 xs ys->xs.length<=sizeLine->s.heap.objs.size<=D->D≠C->s.heap.objs.size<=C->s'.heap.Ns C m->Q (.ref D) (upd H' D (.lst xs))->RR (.ref D) C (.ok .next) s'):AC (model X.prog X.w) X.A (newList []) (λacc s₃=>AC (model X.prog X.w) X.A (HJ scope X.env.globals cl [] X.env.qual Af .none (Ab X.env)) (λcenv s₄=>F9 (model X.prog X.w) X.A (.compStart (.ListComp elt [⟨tg,iter,ifs,0⟩] scope pos) 0 (.ref it) acc {cenv with scope:=relabel scope X.env}) (RR acc cenv.locals) s₄) E s₃) E s:=by
 refine CJ (X9 ?_);dsimp only;generalize hH2:s.heap.push { cls:=.type "list",dict:=Af,data:=.seq ([]:Ac Aj).toArray }=H2;have hns₁:(Gq (H2.push { cls:=.type "dict",data:=.dict #[] }) scope.names).Ns H2.objs.size (λ_=>Af):=(Heap.Ns.new H2 (.type "dict")).keeps (Hk _ _)
 have hkp₁:∀ b o,H2.get? b=Ab o->(Gq (H2.push { cls:=.type "dict",data:=.dict #[] }) scope.names).get? b=Ab o:=λb o e=>Hk _ _ b o (Ar _ e)
 have hown:=NQ scope.names (H2.push { cls:=.type "dict",data:=.dict #[] }) cl;have hinj:=NR scope.names (H2.push { cls:=.type "dict",data:=.dict #[] }) cl;rw[BR]at hown hinj;generalize hcl':Da (H2.objs.size+1) scope.names cl=cl' at hown hinj;have hcf:∀ x,(x,BM)∉scope.names->cl'.lookup x=cl.lookup x:=λx hx=>by rw[<-hcl'];exact NA _ _ _ x hx
 have hch:∀ x,(x,BM)∈scope.names->∃ c,cl'.lookup x=Ab c/\H2.objs.size+1<=c:=λx hx=>by rw[<-hcl'];exact NT _ _ _ _ x (AR _) (.inl hx)
 generalize hh₁:Gq (H2.push { cls:=.type "dict",data:=.dict #[] }) scope.names=h₁ at hns₁ hkp₁ hown;have hC:H2.objs.size=s.heap.objs.size+1:=by rw[<-hH2,BR]
 have hCle:s.heap.objs.size<=H2.objs.size:=by rw[hC];exact Nat.le_succ _
 have hDC:s.heap.objs.size≠H2.objs.size:=by rw[hC];exact Bi (Ez _)
 have below:∀ b,b<s.heap.objs.size->b≠H2.objs.size:=λb hb=>by rw[hC];exact Bi (Do hb)
 have old:∀ b o,s.heap.get? b=Ab o->h₁.get? b=Ab o:=λb o e=>hkp₁ b o (hH2 ▸ Ar _ e)
 have hacc:h₁.get? s.heap.objs.size=Ab { cls:=.type "list",data:=.seq ([]:Ac Aj).toArray 0 }:=hkp₁ _ _ (hH2 ▸ AH _ rfl);have clt:∀ x c,cl.lookup x=Ab c->c<s.heap.objs.size:=λx c e=>by
  obtain⟨v,q⟩:=I.cell x c (hcl x c e);exact q.lt
 have bc:BCells X scope cl' H2.objs.size h₁:=by
  refine⟨λx c e=>?_,hinj (λx y c e1 e2=>I.ok.inj x y c (hcl x c e1) (hcl y c e2)) (λx c e=>Do (AG (clt x c e) hCle)),λx hx=>?_,λx hx=>?_⟩
  .rcases hown x c e with q|⟨q1,q2,q3⟩
   .exact .inl (hcl x c q)
   .exact .inr ⟨B.uniq _ q1,q2,q3⟩
  .have hm:=Ck hx;obtain⟨c,e,hc⟩:=hch x hm;exact⟨c,e,hc⟩
  .have hno:(x,BM)∉scope.names:=λz=>by
    have e1:=B.uniq _ hx;have e2:=B.uniq _ z;rw[show scope.names.lookup x=_ from e1]at e2
    cases e2
   obtain⟨c,e⟩:=hcl2 x hx;exact⟨c,by rw[hcf x hno];exact e,hcl x c e⟩
 have hfo:∀ b∈fp,b<s.heap.objs.size:=λb hb=>by
  obtain⟨o,e,_⟩:=T.obj 0 _ st b hb;exact AI e
 generalize hD:s.heap.objs.size=D at *;generalize hC':H2.objs.size=C at *;have I0:Inv (cxC X scope cl' C N' s H fp) [] (hideT ts Y) H {s with heap:=h₁,toks:=s.toks+([]:Ac (Ak×Aj)).length}:=Yl (tk:=s.toks+([]:Ac (Ak×Aj)).length) I B hf (λb hb=>by rw[hD];exact hfo b hb) bc old (by rw[hD];exact hCle) hns₁
 have nD:H D=Af:=I.hok.fresh (by rw[hD];exact AR _)
 have noD:∀ b∈fp,b≠D:=λb hb=>Bi (hfo b hb)
 have noC:∀ b∈fp,b≠C:=λb hb=>below b (hfo b hb)
 have stfs:D∉frs X.stack:=λz=>by
  obtain⟨_,o,ho,_⟩:=I.stack.mem z;exact absurd (AI ho) (by rw[hD];exact Bt _)
 have cD:∀ x c,cl'.lookup x=Ab c->c≠D:=λx c e z=>by
  rcases bc.own x c e with q|⟨_,q,_⟩
  .obtain⟨v,q⟩:=I.cell x c q;exact absurd q.lt (by rw[z,hD];exact Bt _)
  .rw[z]at q;exact absurd (AG q hCle) (Bt _)
 have I1:Inv (cxC X scope cl' C N' s H fp) [(D,{ cls:=.type "list",data:=.seq ([]:Ac Aj).toArray 0 })] (hideT ts Y) H {s with heap:=h₁,toks:=s.toks+([]:Ac (Ak×Aj)).length}:=I0.pins_of λp hp=>by
  have e:=Bm.mp hp;subst e;exact⟨hacc,nD,hDC,stfs,λv z=>by
   have z':KI _ _=KH v:=z;cases z'⟩
 have st1:tn 0 h₁:=T.keep _ _ _ st λb _ o e=>old b o e
 obtain⟨W,⟨m0,w0⟩,turn⟩:=h;have fpk:∀{pl:Pn}{H':Hp},(∀ p∈pl,p.1=D)->(∀ b∈fp,H' b=Af)->∀ b∈fp,Gh (cxC X scope cl' C N' s H fp) pl H' b:=λ{pl H'} hp hn b hb=>
  ⟨hn b hb,noC b hb,λz=>by
   rcases AE.mp (I.stkSub b z) with e|e
   .exact(hf b hb).2.1 e
   .exact(hf b hb).2.2.1 e,.inl hb,λx c e=>(bc.own x c e).elim ((hf b hb).2.2.2.2.1 x c) (λz q=>absurd (Gp hCle z.2.1) (VG.mpr (by rw[q];exact FN (hfo b hb)))),λp hp'=>by
   have hp2:p∈pl:=hp';rw[hp p hp2];exact(noD b hb).symm⟩
 have loop:∀ s₃:Aq,s₃={s with heap:=h₁,toks:=s.toks+([]:Ac (Ak×Aj)).length} ->
   F9 (model X.prog X.w) X.A (.compLoop (.ListComp elt [⟨tg,iter,ifs,0⟩] scope pos) 0 (.ref it) (.ref D) (compEnvC scope cl' C X.env)) (RR (.ref D) C) s₃:=by
  rintro s₃ rfl;refine Yk (λk s'=>∃ i Y' H' xs ys n,Inv (cxC X scope cl' C N' s H fp) [(D,{ cls:=.type "list",data:=.seq (FM ys) n })] Y' H' s'/\tn i s'.heap/\(∀ b∈fp,H' b=Af)/\A9 xs ys/\xs.length<=sizeLine/\W i k xs Y' H') ?_ m0
   ⟨0,_,H,[],[],0,I1,st1,λb hb=>(hf b hb).1,.nil,Hn _,w0⟩
  rintro k s' ⟨i,Y',H',xs,ys,n,I',st',fr',rv,hz,w'⟩;have one:∀ p∈[((D,{ cls:=.type "list",data:=.seq (FM ys) n }):Ah×Dp)],p.1=D:=λp hp=>by rw[Bm.mp hp]
  rcases turn i k xs Y' H' w' with ⟨stop,q⟩|⟨go,hlt,step⟩
  .refine Cd (T.done (cxC X scope cl' C N' s H fp) rfl rfl rfl hc i _ s' Y' H' (λ_ _=>Bk) I' (fpk one fr') st' stop) (λr s1 ⟨hr,J1⟩=>?_) λ_ _ f=>f.elim
   subst hr;obtain⟨e,hn,_⟩:=J1.pin _ (Bo _ Aw);obtain⟨m,hm,_⟩:=J1.loc;exact hRR cl' D C s1 H' Y' _ xs ys n m J1 e hn rv hz (AR _) hDC hCle hm (q D hn)
  .refine Cd (T.item (cxC X scope cl' C N' s H fp) rfl rfl rfl hc i _ s' Y' H' (λ_ _=>Bk) I' (fpk one fr') st' go) (λr s1 ⟨u,hr,h4⟩=>?_) λ_ _ f=>f.elim
   subst hr;refine Cd h4 (λ_ s5 ⟨x,H5,I5,r5,y5,st5,fr5⟩=>?_) λ_ _ f=>f.elim
   have I5':=I5.pinned (fpk one fr5) (T.obj _ _ st5);refine Cd (hg cl' C s H _ s5 Y' H5 x u _ I5' r5 (step x H5 y5)) (λ_ s6 ⟨Y6,H6,I6,q6⟩=>?_) λ_ _ f=>f.elim
   refine Cd (ht cl' C s H _ s6 Y6 H6 _ I6 q6) (λok s7 ⟨H7,I7,q7⟩=>?_) λ_ _ f=>f.elim
   have again:∀{s8:Aq}{H8:Hp}{ys':Ac Aj}{n':Ag},Inv (cxC X scope cl' C N' s H fp) ((D,{ cls:=.type "list",data:=.seq (FM ys') n' })::Jr fp s5.heap) Y6 H8 s8->Inv (cxC X scope cl' C N' s H fp) [(D,{ cls:=.type "list",data:=.seq (FM ys') n' })] Y6 H8 s8/\tn (i+1) s8.heap/\∀ b∈fp,H8 b=Af:=λ{s8 H8 ys' n'} I8=>
    ⟨I8.pins_of λp hp=>I8.pin p (Bo _ (by rw[Bm.mp hp];exact Aw)),T.keep _ _ _ st5 λb hb o e=>(I8.pin (b,o) (Bo _ (Au _ (LF hb e)))).1,λb hb=>by
     obtain⟨o,e,d⟩:=T.obj _ _ st5 b hb;exact(I8.pin (b,o) (Bo _ (Au _ (LF hb e)))).2.1⟩
   cases ok with
   |false=>
    rw[AF (by decide)]at q7
    obtain⟨m',hm,w7⟩:=q7;obtain⟨a1,a2,a3⟩:=again I7;rw[AF (by decide)]
    exact⟨m',hm,i+1,Y6,H7,xs,ys,n,a1,a2,a3,rv,hz,w7⟩
   |true=>
    rw[Ax rfl]at q7;rw[Ax rfl];refine Cd (he cl' C s H _ s7 Y6 H7 _ I7 q7) (λval s8 ⟨y,H8,I8,r8,m',hm,w8⟩=>?_) λ_ _ f=>f.elim
    have hl:=rv.length;refine Yn (X:=cxC X scope cl' C N' s H fp) (ys:=ys) (n:=n) (pI:=Jr fp s5.heap) I8 (by show s.heap.objs.size<=D;rw[hD];exact AR _) (λp hp=>?_) cD (by omega) λs9 I9 kb=>?_
    .have hp2:p∈Jr fp s5.heap:=hp;exact noD _ (QE hp2).1
    .obtain⟨a1,a2,a3⟩:=again I9;exact⟨m',hm,i+1,Y6,H8,xs++[y],ys++[val],n+1,a1,a2,a3,rv.append (.cons r8 .nil),by rw[Be];exact hlt,w8⟩
 exact codeAny_compStart_list (loop _ rfl) (T.self _ 0 _ _ _ st1 (loop _ rfl))
theorem cR{g:TG}(hc:X.calm=Aa)(B:BlockOk X scope N' ts)(hi:PI X tg iter wi)(hg:∀ cl C s H fp,PG (cxC X scope cl C N' s H fp) tg g)(ht:∀ cl C s H fp,PTs (cxC X scope cl C N' s H fp) ifs tt)(he:∀ cl C s H fp,PE (cxC X scope cl C N' s H fp) elt te)(hs:∀ x,CI iter X.env x=pure x):PE X (.ListComp elt [⟨tg,iter,ifs,0⟩] scope pos) (λY H Q=>wi Y H λJ H1=>K6 J ts g tt te Y H1 Q):=by
 intro pI s Y H Q I h;obtain⟨cl,hclos,hcl,hcl2⟩:=P9 (scope:=scope) (env:=X.env) λx hx hk=>I.ok.has x.1 ((B.free x hx hk).imp id id)
 rw[eval_ListComp];refine Xb (use:=Af) rfl hs hclos B.kind B.names (thn (hi pI s Y H _ I h) λv s1 h1=>thn h1 λitv s2 h2=>?_)
 obtain⟨it,fp,tn,J,H2,e,I2,T,st2,f2,h3⟩:=h2;subst e;refine Ri (RR:=λacc C=>compPost (model X.prog X.w) X.A X.xe Af (EP X pI Y Q) acc C) hc B I2 T st2 f2 hcl hcl2 (λcl C s H=>hg cl C s H fp) (λcl C s H=>ht cl C s H fp) (λcl C s H=>he cl C s H fp) h3 λcl' D C s' H' Y' pins' xs ys n m I' hd hDn rv hz hD hDC hC hm q=>?_
 exact⟨m,hm,λh'' hs''=>⟨.ref D,_,Qq I2 f2 I' hD hDC hC hd hDn rv hz hs'',rfl,q⟩⟩
theorem cN{n:Ak}{g:TG}(hc:X.calm=Aa)(B:BlockOk X scope N' ts)(hi:PI X tg iter wi)(hg:∀ cl C s H fp,PG (cxC X scope cl C N' s H fp) tg g)(ht:∀ cl C s H fp,PTs (cxC X scope cl C N' s H fp) ifs tt)(he:∀ cl C s H fp,PE (cxC X scope cl C N' s H fp) elt te)(hs:∀ x,CI iter X.env x=pure x)(hN:X.N.Nodup)(hni:X.N[i]?=Ab n)(hx:X.env.scope.names.lookup n=Ab .local)(hsw:CT (.ListComp elt [⟨tg,iter,ifs,0⟩] scope pos) (Ab (.Name n pos')) pos2.line X.env=pure Aa):PS X (.Assign [.Name n pos'] (.ListComp elt [⟨tg,iter,ifs,0⟩] scope pos) pos2) (Li (λY H Q=>wi Y H λJ H1=>K6 J ts g tt te Y H1 Q) (Ey i)):=by
 intro pI s Y H Dn I h;obtain⟨cl,hclos,hcl,hcl2⟩:=P9 (scope:=scope) (env:=X.env) λx hx hk=>I.ok.has x.1 ((B.free x hx hk).imp id id)
 rw[exec_Assign_Name_used _ _ _ _ hsw];refine Am (Gy (Am ?_));show AC _ X.A (do let _ <-comprehension (.ListComp elt [⟨tg,iter,ifs,0⟩] scope pos) scope X.env _ (newList []) Ae (eval iter X.env) (Ab (assign (.Name n pos') X.env))) _ _ s
 refine Am (Cd (Xb (use:=Ab (assign (.Name n pos') X.env)) (Q:=λ_ s'=>SP X pI Dn .next s') rfl hs hclos B.kind B.names
  (thn (hi pI s Y H _ I h) λv s1 h1=>thn h1 λitv s2 h2=>?_)) (λ_ s' hq=>AD (AD hq)) λ_ _ e=>e)
 obtain⟨it,fp,tn,J,H2,e,I2,T,st2,f2,h3⟩:=h2;subst e;refine Ri (RR:=λacc C=>compPost (model X.prog X.w) X.A X.xe (Ab (assign (.Name n pos') X.env)) (λ_ s'=>SP X pI Dn .next s') acc C) hc B I2 T st2 f2 hcl hcl2 (λcl C s H=>hg cl C s H fp) (λcl C s H=>ht cl C s H fp) (λcl C s H=>he cl C s H fp) h3 λcl' D C s' H' Y' pins' xs ys n' m I' hd hDn rv hz hD hDC hC hm q=>?_
 have J0:Inv X pI Y (upd H' D (.lst xs)) s':=Qq I2 f2 I' hD hDC hC hd hDn rv hz (WC ..);refine Xa (Qy J0 hN hni (.inl hx) (show Bv (.ref D) (.ref D) from rfl) (λs'' J1 ⟨a,sb,ha⟩=>?_) (.inr hx))
 have hC0:X.s₀.heap.objs.size<=C:=Ct I2.sz hC;have hL:C≠X.env.locals:=λz=>absurd (AG I2.lt (z ▸ hC)) (Bt _)
 have hcC:∀ x c,X.env.cells.lookup x=Ab c->c≠C:=λx c e z=>by
  obtain⟨v,q'⟩:=I2.cell x c e;exact absurd (AG q'.lt (by rw[z];exact hC)) (Bt _)
 have hp:∀ p∈X.pn++pI,p.1≠C:=λp hp z=>absurd (AG (AI (I2.pin p hp).1) (by rw[z];exact hC)) (Bt _)
 have hCn:upd H' D (.lst xs) C=Af:=by rw[CK hDC.symm];exact I'.free
 have hCa:C≠a:=by
  rcases ha with rfl|ha
  .exact hL
  .exact λz=>hcC n a ha z.symm
 refine⟨m,hm.sameBut sb hCa,λh'' hs''=>⟨_,_,J1.turned (t':=s''.toks) (λb o hb e=>(hs''.2 b hb).trans e) hCn hL (.inr hC0) hcC hp,q⟩⟩
theorem JZ:∀(ts:Ac Ag)(Z:Rho)(j:Ag),(E6 ts Z)[j]?=if j∈ts then (Z[j]?).map (λ_=>Af) else Z[j]?
 |[],Z,j=>by simp[E6]
 |t::ts,Z,j=>by
  show (E6 ts (Z.set t Af))[j]?=_;rw[JZ ts];by_cases h1:j∈ts
  .rw[Ax h1,Ax (Au _ h1)];by_cases h2:t=j
   .subst h2;rw[Fd];cases Z[t]?<;>rfl
   .rw[Cb h2]
  .rw[AF h1];by_cases h2:t=j
   .subst h2;rw[Ax Aw,Fd];cases Z[t]?<;>rfl
   .rw[Cb h2,AF (by simp only[AE,EL];exact⟨λz=>h2 z.symm,h1⟩)]
theorem LA:∀(ts:Ac Ag)(Z:Rho),(E6 ts Z).length=Z.length
 |[],_=>rfl
 |t::ts,Z=>by show (E6 ts (Z.set t Af)).length=_;rw[LA ts,A6]
theorem Nw:∀(ts:Ac Ag)(Y:L2.St){i:Ag},i∉ts->(hideT ts Y)[i]?=Y[i]?
 |[],_,_,_=>rfl
 |t::ts,Y,i,h=>by
  simp only[AE,EL]at h;show (hideT ts (Y.set t Af))[i]?=_;rw[Nw ts _ h.2,Cb (λz=>h.1 z.symm)]
theorem P3:∀(ts:Ac Ag)(ds:Ac D)(Z1 Z2:Rho),Z1.length=Z2.length->(∀ j,j∉ts->Z1[j]?=Z2[j]?)->Ew ts ds Z1=Ew ts ds Z2
 |[],[],Z1,Z2,hl,h=>congrArg Ab (Vj λj=>h j (by simp))
 |[],_::_,_,_,_,_=>rfl
 |_::_,[],_,_,_,_=>rfl
 |t::ts,d::ds,Z1,Z2,hl,h=>by
  refine P3 ts ds _ _ (by rw[A6,A6];exact hl) λj hj=>?_
  by_cases e:t=j
  .subst e;rw[GK,GK,Ax rfl,Ax rfl,hl]
  .rw[Cb e,Cb e];exact h j (by simp only[AE,EL];exact⟨λz=>e z.symm,hj⟩)
theorem P0:∀(ts us:Ac Ag)(ds:Ac D)(Z Z':Rho),(∀ t∈ts,t∈us)->Ew ts ds Z=Ab Z'->E6 us Z'=E6 us Z
 |[],us,[],Z,Z',_,e=>by cases e;rfl
 |t::ts,us,d::ds,Z,Z',hs,e=>by
  rw[P0 ts us ds _ Z' (λu hu=>hs u (Au _ hu)) e]
  refine Vj λj=>?_
  rw[JZ,JZ];by_cases h:j∈us
  .rw[Ax h,Ax h,GK];split
   .rename_i e2;subst e2;split
    .rename_i h3;rw[BV h3];rfl
    .rename_i h3;rw[List.getElem?_eq_none (by omega)]
   .rfl
  .rw[AF h,AF h,Cb];rintro rfl;exact h (hs _ Aw)
 |[],_,_::_,_,_,_,e=>by cases e
 |_::_,_,[],_,_,_,e=>by cases e
section
variable{K:Fg}{CL:ClA}{A:Ah->Prop}{Z Z':Rho}{Y:L2.St}{H:Hp}
theorem Good.less(g:Good K CL A Z Y H)(hl:Z'.length=Z.length)(h:∀(i:Ag)(d:D)(o:Ai),Z'[i]?=Ab (Ab (d,o))->Z[i]?=Ab (Ab (d,o))):Good K CL A Z' Y H:=⟨λi d e=>g.sh i d (h i d Ae e),λi d e=>g.ow i d (h i d Aa e),hl.trans g.len⟩
theorem Good.put(g:Good K CL A Z Y H)(t:Ag)(r:Rep K CL H A v d):Good K CL A (Z.set t (Ab (d,Ae))) (Y.set t (Ab v)) H:=by
 refine⟨λj e h=>?_,λj e h=>?_,by rw[A6,A6];exact g.len⟩
 .by_cases hj:t=j
  .subst hj;have e1:=Gb h;cases e1;have hl:t<Y.length:=by
    rw[<-g.len];have:=(AU.mp h).1;simpa using this
   exact⟨v,by rw[BP hl],r⟩
  .rw[Cb hj]at h;obtain⟨w',q,rw'⟩:=g.sh j e h;exact⟨w',by rw[Cb hj];exact q,rw'⟩
 .have hj:t≠j:=by
   rintro rfl;have:=Gb h;cases this
  rw[Cb hj]at h;obtain⟨a,xs,q,z⟩:=g.ow j e h;exact⟨a,xs,by rw[Cb hj];exact q,z⟩
theorem Good.hide(g:Good K CL A Z Y H)(ts:Ac Ag):Good K CL A (E6 ts Z) Y H:=g.less (LA _ _) λi d o e=>by
 rw[JZ]at e;split at e
 .cases q:Z[i]? with
  |none=>rw[q]at e;cases e
  |some x=>rw[q]at e;cases e
 .exact e
theorem Good.hideT(g:Good K CL A Z Y H)(ts:Ac Ag):Good K CL A (E6 ts Z) (hideT ts Y) H:=by
 have key:∀ i x,(E6 ts Z)[i]?=Ab (Ab x)->Z[i]?=Ab (Ab x)/\i∉ts:=λi x e=>by
  rw[JZ]at e;split at e
  .cases q:Z[i]? with
   |none=>rw[q]at e;cases e
   |some x=>rw[q]at e;cases e
  .exact⟨e,by assumption⟩
 refine⟨λi d e=>?_,λi d e=>?_,by rw[LA,Np];exact g.len⟩
 .obtain⟨e1,e2⟩:=key i _ e;obtain⟨v,q,r⟩:=g.sh i d e1;exact⟨v,by rw[Nw _ _ e2];exact q,r⟩
 .obtain⟨e1,e2⟩:=key i _ e;obtain⟨a,xs,q,r⟩:=g.ow i d e1;exact⟨a,xs,by rw[Nw _ _ e2];exact q,r⟩
end
def GG(K:Fg)(CL:ClA)(ts:Ac Ag)(as:D->Rho->R Rho)(g:TG):Prop:=∀ A Z Y H v d Z' Q,Good K CL A (E6 ts Z) Y H->Rep K CL H A v d->as d Z=.ok Z'->(∀ Y',Good K CL A Z' Y' H->Good K CL A (E6 ts Z) Y' H->Q Y' H)->g v Y H Q
theorem fC(i:Ag):GG K CL [i] (λd Z=>.ok (Z.set i (Ab (d,Ae)))) (Ey i):=λA Z Y H v d Z' Q g r e k=>by
 cases e;have g2:=g.put i r;have e1:(E6 [i] Z).set i (Ab (d,Ae))=Z.set i (Ab (d,Ae)):=by
  show (Z.set i Af).set i (Ab (d,Ae))=_;rw[Vx]
 rw[e1]at g2;refine k _ g2 ?_;have:=g2.hide [i];have e2:E6 [i] (Z.set i (Ab (d,Ae)))=E6 [i] Z:=by
  show (Z.set i _).set i Af=Z.set i Af;rw[Vx]
 rw[e2]at this;exact this
theorem R8{K:Fg}{CL:ClA}{A:Ah->Prop}{H:Hp}:∀(ts:Ac Ag)(ds:Ac D)(vs:Ac V)(Z Z':Rho)(Y:L2.St)(Q:L2.St->Hp->Prop),Good K CL A Z Y H->Reps K CL H A vs ds->Ew ts ds Z=Ab Z'->(∀ Y',Good K CL A Z' Y' H->Q Y' H)->(ts.foldr (λt u=>GA (Ey t) u) Hd) vs Y H Q
 |[],[],[],Z,Z',Y,Q,x,_,e,k=>by
  cases e;exact⟨rfl,k Y x⟩
 |t::ts,d::ds,v::vs,Z,Z',Y,Q,x,r,e,k=>⟨v,vs,rfl,R8 ts ds vs _ Z' _ Q (x.put t r.1) r.2 e k⟩
 |[],_::_,_,_,_,_,_,_,_,e,_=>by cases e
 |_::_,[],_,_,_,_,_,_,_,e,_=>by cases e
 |[],[],_::_,_,_,_,_,_,r,_,_=>r.elim
 |_::_,_::_,[],_,_,_,_,_,r,_,_=>r.elim
theorem kR(ts:Ac Ag):GG K CL ts (FB ts) (Kz K ts.length (ts.foldr (λt u=>GA (Ey t) u) Hd)):=λA Z Y H v d Z' Q g r e k=>by
 cases d with
 |tup ds=>
  obtain⟨a,xs,rfl,na,sq,rs⟩:=r;rw[Qa]at e;cases e2:Ew ts ds Z with
  |none=>rw[e2]at e;cases e
  |some Z2=>
   rw[e2]at e;cases e;have e3:Ew ts ds (E6 ts Z)=Ab Z':=by
    rw[<-e2];exact P3 ts ds _ _ (LA _ _) λj hj=>by rw[JZ,AF hj]
   refine⟨a,xs,rfl,sq,by rw[rs.length];exact Nt _ _ _ _ e2,R8 ts ds xs _ Z' Y Q g rs e3 λY' g'=>k Y' g' ?_⟩
   have:=g'.hide ts;rw[P0 ts ts ds Z Z' (λ_ h=>h) e2]at this
   exact this
 |_=>cases e
noncomputable abbrev W0:XW:=λ_ _=>Bk
def STs(X:Cx)(CL:ClA)(ifs:Ac Al)(f:Rho->R Ai):Prop:=∀ A,PTs X ifs (λY H Q=>AOk H A/\∃ Z,Good X.K CL A Z Y H/\C1 W0 H (f Z) Q)
theorem aO:STs X CL [] (λ_=>.ok Aa):=λA pI s Y H Q I ⟨hA,Z,g,p⟩=>cL pI s Y H Q I (p H (AB.refl H))
theorem aN(h:SB X CL W0 c f):STs X CL [c] f:=λA pI s Y H Q I q=>cK (h A) pI s Y H Q I q
section
variable{X:Cx}{CL:ClA}{W:XW}{tg iter elt:Al}{ifs:Ac Al}{scope:B0}{pos:AK}{N':Ac Ak}{ts:Ac Ag}{fi:Rho->R (Ac D)}{fc:Rho->R Ai}{fe:Rho->R D}{as:D->Rho->R Rho}{g:TG}
theorem Yi{g:D->R Ai}{f:D->R D}{x:D}{xs ys:Ac D}(h:BN g f (x::xs)=.ok ys):(g x=.ok Ae/\BN g f xs=.ok ys)\/∃ y r,g x=.ok Aa/\f x=.ok y/\BN g f xs=.ok r/\ys=y::r:=by
 unfold BN at h;cases e:g x with
 |bad=>rw[e]at h;cases h
 |exn z=>rw[e]at h;cases h
 |ok b=>
  rw[e,R.bind_ok]at h;cases b with
  |false=>exact .inl ⟨rfl,h⟩
  |true=>
   rw[Ax rfl]at h;cases e2:f x with
   |bad=>rw[e2]at h;cases h
   |exn z=>rw[e2]at h;cases h
   |ok y=>
    rw[e2,R.bind_ok]at h;cases e3:BN g f xs with
    |bad=>rw[e3]at h;cases h
    |exn z=>rw[e3]at h;cases h
    |ok r=>
     rw[e3,R.bind_ok]at h;cases h;exact .inr ⟨y,r,rfl,rfl,rfl,rfl⟩
theorem Jh{β:Type}{r:R α}{f:α->R β}{b:β}(h:r.bind f=.ok b):∃ a,r=.ok a/\f a=.ok b:=by
 cases r with
 |ok a=>exact⟨a,rfl,h⟩
 |exn x=>cases h
 |bad=>cases h
theorem Ze{ds ys:Ac D}(hGG:GG K CL ts as g)(hA:AOk H1 A)(gd:Good K CL A Z Y H1)(yl:Ie K CL A ds J H1)(hz:ds.length<=sizeLine)(hcp:BN (λx=>(as x Z).bind fc) (λx=>(as x Z).bind fe) ds=.ok ys)(q:∀ xs H2,AB H1 H2->Reps K CL H2 A xs ys->∀ p,H2 p=Af->Q (.ref p) (upd H2 p (.lst xs))):K6 J ts g (λY H Q=>AOk H A/\∃ Z,Good K CL A Z Y H/\C1 W0 H (fc Z) Q) (λY H Q=>AOk H A/\∃ Z,Good K CL A Z Y H/\Bf (λH=>Rep K CL H A) W0 H (fe Z) Q) Y H1 Q:=by
 refine⟨λi m xs Y' H'=>m=ds.length-i/\i<=ds.length/\xs.length<=i/\AB H1 H'/\Good K CL A (E6 ts Z) Y' H'/\∃ outs rest,Reps K CL H' A xs outs/\BN (λx=>(as x Z).bind fc) (λx=>(as x Z).bind fe) (ds.drop i)=.ok rest/\ys=outs++rest,
  ⟨ds.length,by simp,Hn _,AR _,AB.refl _,gd.hideT ts,[],ys,trivial,hcp,rfl⟩,?_⟩
 rintro i m xs Y' H' ⟨rfl,hi,hxl,sm,g',outs,rest,rs,hc,e⟩;obtain⟨yst,ygo⟩:=yl H' (Kp.of sm) i;by_cases hlt:i<ds.length
 .have hd:ds[i]?=Ab ds[i]:=BV hlt;obtain⟨hgo,hyl⟩:=ygo _ hd;refine .inr ⟨hgo,by omega,λx H2 hx=>?_⟩
  obtain⟨s2,rx⟩:=hyl x H2 hx;have rx':=rx A (λa ha=>.inl ha) (hA.same sm)
  rw[EW hlt]at hc;have sm2:=sm.trans s2;rcases Yi hc with ⟨h1,h2⟩|⟨y,r,h1,h2,h3,h4⟩
  .obtain⟨Z',ea,ec⟩:=Jh h1;refine hGG A Z Y' H2 x ds[i] Z' _ (g'.same s2) rx' ea λY3 g3 g4=>⟨hA.same sm2,Z',g3,?_⟩
   rw[ec];exact λH3 s3=>by
    dsimp only;rw[AF (by decide)]
    exact⟨ds.length-(i+1),by omega,rfl,hlt,by omega,sm2.trans s3,g4.same s3,outs,rest,(rs.same s2).same s3,h2,e⟩
  .obtain⟨Z',ea,ec⟩:=Jh h1;obtain⟨Z2,ea2,ee⟩:=Jh h2;rw[ea]at ea2;cases ea2;refine hGG A Z Y' H2 x ds[i] Z' _ (g'.same s2) rx' ea λY3 g3 g4=>⟨hA.same sm2,Z',g3,?_⟩
   rw[ec];exact λH3 s3=>by
    dsimp only;rw[Ax rfl];refine⟨(hA.same sm2).same s3,Z',g3.same s3,?_⟩;rw[ee];exact λv H4 s4 r4=>⟨ds.length-(i+1),by omega,rfl,hlt,by rw[Be,BD];omega,(sm2.trans s3).trans s4,(g4.same s3).same s4,outs++[y],r,(((rs.same s2).same s3).same s4).append ⟨r4,trivial⟩,h3,by rw[e,h4];simp⟩
 .have hk':ds.length<=i:=by omega
  rw[Vh hk']at hc;have hr:rest=[]:=by cases hc;rfl
  subst hr;rw[BE]at e;subst e;exact .inl ⟨yst hk',λp hp=>q xs H' sm rs p hp⟩
theorem EH.ok_of{r:R (Ac D)}{f:Ac D->R D}{Q':It->Hp->Prop}(h:Bf Rq W H (r.bind f) Q)(k:∀ ds J H',r=.ok ds->AB H H'->Ie K CL A ds J H'->ds.length<=sizeLine->Bf Rq W H' (f ds) Q->Q' J H'):EH K CL A W H r Q':=by
 cases r with
 |ok d=>exact λJ H2 s2 y z=>k d J H2 rfl s2 y z (Bf.same s2 h)
 |exn x=>exact h
 |bad=>exact h
theorem kZ{r:R α}{a:α}(h:noX r=.ok a):r=.ok a:=by
 cases r with
 |ok b=>exact h
 |exn x=>cases h
 |bad=>cases h
theorem Qn(hGG:GG X.K CL ts as g)(hA:AOk H A)(gd:Good X.K CL A Z Y H)(p:Bf (EU X.K CL Aa H A) W H ((fi Z).bind λxs=>(noX (BN (λx=>(as x Z).bind fc) (λx=>(as x Z).bind fe) xs)).bind λys=>.ok (.lst ys)) Q):EH X.K CL A W H (fi Z) (λJ H1=>K6 J ts g (λY H Q=>AOk H A/\∃ Z,Good X.K CL A Z Y H/\C1 W0 H (fc Z) Q) (λY H Q=>AOk H A/\∃ Z,Good X.K CL A Z Y H/\Bf (λH=>Rep X.K CL H A) W0 H (fe Z) Q) Y H1 Q):=
 EH.ok_of p λds J H1 e1 s1 yl hz p1=>by
  cases e2:noX (BN (λx=>(as x Z).bind fc) (λx=>(as x Z).bind fe) ds) with
  |ok ys=>
   rw[e2]at p1;exact Ze hGG (hA.same s1) (gd.same s1) yl hz (kZ e2) λxs H2 s2 rs q hq=>p1 _ _ (s2.trans (Fe hq _)) (J7 (s1.trans s2) ((hA.same s1).same s2) hq rs)
  |exn x=>rw[e2]at p1;cases hq:BN (λx=>(as x Z).bind fc) (λx=>(as x Z).bind fe) ds<;>rw[hq]at e2<;>cases e2
  |bad=>rw[e2]at p1;exact p1.elim
theorem aC(hc:X.calm=Aa)(B:BlockOk X scope N' ts)(hi:SI X CL W tg iter fi)(hGG:GG X.K CL ts as g)(hg:∀ cl C s H fp,PG (cxC X scope cl C N' s H fp) tg g)(ht:∀ cl C s H fp,STs (cxC X scope cl C N' s H fp) CL ifs fc)(he:∀ cl C s H fp,SE (cxC X scope cl C N' s H fp) CL W0 elt fe)(hs:∀ x,CI iter X.env x=pure x):SC X CL W Aa (.ListComp elt [⟨tg,iter,ifs,0⟩] scope pos) (λZ=>(fi Z).bind λxs=>(noX (BN (λx=>(as x Z).bind fc) (λx=>(as x Z).bind fe) xs)).bind λys=>.ok (.lst ys)):=λA pI s Y H Q I ⟨hA,Z,gd,p⟩=>
 cR hc B (hi A) hg (λcl C s H fp=>ht cl C s H fp A) (λcl C s H fp=>he cl C s H fp A) hs pI s Y H Q I ⟨hA,Z,gd,Qn hGG hA gd p⟩
end
section
variable{K:Fg}{CL:ClA}{Fz:Ah->HO->Prop}{B:Ah->Prop}{Z:Rho}{Y:L2.St}{H H':Hp}
theorem CP.rep(h:CP K CL H A a o d)(na:¬ A' a)(hh:H a=Ab o)(sub:∀ b,A' b->A b):Rep K CL H A' (.ref a) d:=by
 rcases h with ⟨xs,ds,rfl,rfl,r⟩|⟨es,ds,rfl,rfl,r⟩
 .exact⟨a,xs,rfl,.inl na,SqL.of hh,Reps.sub sub _ r⟩
 .exact⟨a,es,rfl,na,hh,Repk.sub sub _ r⟩
theorem Sx.setO(x:Sx K CL Fz B Z Y H)(s:AB H H'){u:HO}(h0:H a=Af)(h1:H' a=Ab u)(r:CP K CL H' (λb=>By B Z Y b\/b=a) a u d):Sx K CL Fz B (Z.set i (Ab (d,Aa))) (Y.set i (Ab (.ref a))) H':=by
 have nA:¬ By B Z Y a:=x.aok.new h0;have own:∀(j:Ag)(e:D),(Z.set i (Ab (d,Aa)))[j]?=Ab (Ab (e,Aa))->(i=j/\e=d)\/(i≠j/\Z[j]?=Ab (Ab (e,Aa))):=λj e h=>by
  by_cases hj:i=j
  .subst hj;have:=Gb h;cases this;exact .inl ⟨rfl,rfl⟩
  .exact .inr ⟨hj,by rw[Cb hj]at h;exact h⟩
 have atI:∀{j:Ag}{y:Sl},(Z.set i (Ab (d,Aa)))[j]?=Ab y->i=j->(Y.set i (Ab (.ref a)))[j]?=Ab (Ab (.ref a)):=λ{j y} h e=>by
  subst e;have hl:i<Y.length:=by
   rw[<-x.len];have:=(AU.mp h).1;simpa using this
  rw[BP hl]
 have sub:∀ b,By B (Z.set i (Ab (d,Aa))) (Y.set i (Ab (.ref a))) b->By B Z Y b\/b=a:=λb h=>by
  rcases h with h|⟨j,e,h1,h2⟩
  .exact .inl (.inl h)
  .rcases own j e h1 with ⟨hj,_⟩|⟨hj,h1'⟩
   .rw[atI h1 hj]at h2;cases h2;exact .inr rfl
   .rw[Cb hj]at h2;exact .inl (.inr ⟨j,e,h1',h2⟩)
 have wide:∀{v:V}{e:D},Rep K CL H (By B Z Y) v e->Rep K CL H' (By B (Z.set i (Ab (d,Aa))) (Y.set i (Ab (.ref a)))) v e:=λr=>(Rep.wide (λb hb=>(sub b hb).imp id λe=>by rw[e];exact h0) _ r).same s
 have wides:∀{b:Ah}{o:HO}{e:D},CP K CL H (By B Z Y) b o e->CP K CL H' (By B (Z.set i (Ab (d,Aa))) (Y.set i (Ab (.ref a)))) b o e:=λr=>(r.wide (λb hb=>(sub b hb).imp id λe=>by rw[e];exact h0)).same s
 refine⟨⟨λj e h=>?_,λj e h=>?_,by rw[A6,A6];exact x.len⟩,λb h=>?_,λj e b g1 g2=>?_,λj k e f b g1 g2 g3 g4=>?_,λb o z=>s _ _ (x.same b o z),by rw[A6,A6];exact x.len⟩
 .have hj:i≠j:=by
   rintro rfl;have:=Gb h;cases this
  rw[Cb hj]at h;obtain⟨w',q,rw'⟩:=x.good.sh j e h;exact⟨w',by rw[Cb hj];exact q,wide rw'⟩
 .rcases own j e h with ⟨hj,rfl⟩|⟨hj,h'⟩
  .have q:=atI h hj;exact⟨a,u,q,.inr ⟨j,_,h,q⟩,h1,r.sub sub⟩
  .obtain⟨b,o,q,ha,hh,rr⟩:=x.good.ow j e h';have q':(Y.set i (Ab (.ref a)))[j]?=Ab (Ab (.ref b)):=by rw[Cb hj];exact q
   exact⟨b,o,q',.inr ⟨j,e,h,q'⟩,s _ _ hh,wides rr⟩
 .rcases sub b h with z|z
  .obtain⟨ys,q,w⟩:=x.aok b z;exact⟨ys,s _ _ q,w⟩
  .rw[z];exact⟨u,h1,r.owk⟩
 .rcases own j e g1 with ⟨hj,_⟩|⟨hj,h'⟩
  .rw[atI g1 hj]at g2;cases g2;refine⟨λo z=>?_,λz=>nA (.inl z)⟩
   have:=x.same a o z;rw[h0]at this;cases this
  .rw[Cb hj]at g2;exact x.new j e b h' g2
 .rcases own j e g1 with ⟨hj,_⟩|⟨hj,h'⟩
  .rw[atI g1 hj]at g3;cases g3;rcases own k f g2 with ⟨hk,_⟩|⟨hk,h''⟩
   .exact hj.symm.trans hk
   .rw[Cb hk]at g4;exact absurd (.inr ⟨k,f,h'',g4⟩) nA
  .rw[Cb hj]at g3;rcases own k f g2 with ⟨hk,_⟩|⟨hk,h''⟩
   .rw[atI g2 hk]at g4;cases g4;exact absurd (.inr ⟨j,e,h',g3⟩) nA
   .rw[Cb hk]at g4;exact x.dis j k e f b h' h'' g3 g4
theorem Sx.setF(x:Sx K CL Fz B Z Y H)(s:AB H H'){ds:Ac D}(h0:H a=Af)(h1:H' a=Ab (.lst xs))(r:Reps K CL H' (λb=>By B Z Y b\/b=a) xs ds):Sx K CL Fz B (Z.set i (Ab (.lst ds,Aa))) (Y.set i (Ab (.ref a))) H':=x.setO s h0 h1 (.lst r)
theorem Sx.updO(x:Sx K CL Fz B Z Y H){u:HO}{d':D}(hi:Z[i]?=Ab (Ab (d,Aa)))(ha:Y[i]?=Ab (Ab (.ref a)))(r:CP K CL H (By B Z Y) a u d'):Sx K CL Fz B (Z.set i (Ab (d',Aa))) Y (L2.upd H a u):=by
 have oa:By B Z Y a:=.inr ⟨i,d,hi,ha⟩;have hil:i<Z.length:=(AU.mp hi).1;have get:∀(j:Ag)(e:D),(Z.set i (Ab (d',Aa)))[j]?=Ab (Ab (e,Aa))↔(i=j/\e=d')\/(i≠j/\Z[j]?=Ab (Ab (e,Aa))):=λj e=>by
  by_cases hj:i=j
  .subst hj;rw[BP hil];simp;exact⟨λz=>z.symm,λz=>z.symm⟩
  .rw[Cb hj];simp[hj]
 have same:∀ b,By B (Z.set i (Ab (d',Aa))) Y b↔By B Z Y b:=λb=>by
  constructor
  .rintro (h|⟨j,e,h1,h2⟩)
   .exact .inl h
   .rcases (get j e).mp h1 with ⟨rfl,_⟩|⟨_,h1⟩
    .exact .inr ⟨i,d,hi,h2⟩
    .exact .inr ⟨j,e,h1,h2⟩
  .rintro (h|⟨j,e,h1,h2⟩)
   .exact .inl h
   .by_cases hj:i=j
    .subst hj;exact .inr ⟨i,d',(get i _).mpr (.inl ⟨rfl,rfl⟩),h2⟩
    .exact .inr ⟨j,e,(get j e).mpr (.inr ⟨hj,h1⟩),h2⟩
 have kp:Kp (By B Z Y) H (L2.upd H a u):=λb o e na=>by
  have hne:b≠a:=by
   rintro rfl;exact na oa
  rw[CK hne];exact e
 refine⟨⟨λj e h=>?_,λj e h=>?_,by rw[A6];exact x.len⟩,λb h=>?_,λj e b g1 g2=>?_,λj k e f b g1 g2 g3 g4=>?_,λb o z=>?_,by rw[A6];exact x.len⟩
 .have hj:i≠j:=by
   rintro rfl;have:=Gb h;cases this
  rw[Cb hj]at h;obtain⟨w',q,rw'⟩:=x.good.sh j e h;exact⟨w',q,Rep.sub (λb hb=>(same b).mp hb) _ (Rep.kp kp _ rw')⟩
 .rcases (get j e).mp h with ⟨rfl,rfl⟩|⟨hj,h'⟩
  .exact⟨a,u,ha,(same a).mpr oa,G0,(r.kp kp).sub λb hb=>(same b).mp hb⟩
  .obtain⟨b,o,q,hb,hh,rr⟩:=x.good.ow j e h';have hne:b≠a:=λz=>hj (x.dis i j d e a hi h' ha (z ▸ q))
   exact⟨b,o,q,(same b).mpr hb,by rw[CK hne];exact hh,(rr.kp kp).sub λb hb=>(same b).mp hb⟩
 .obtain⟨ys,q,w⟩:=x.aok b ((same b).mp h);by_cases e:b=a
  .rw[e];exact⟨u,G0,r.owk⟩
  .exact⟨ys,by rw[CK e];exact q,w⟩
 .rcases (get j e).mp g1 with ⟨rfl,_⟩|⟨_,h'⟩
  .exact x.new i d b hi g2
  .exact x.new j e b h' g2
 .rcases (get j e).mp g1 with ⟨rfl,_⟩|⟨hj,h'⟩
  .rcases (get k f).mp g2 with ⟨rfl,_⟩|⟨hk,h''⟩
   .rfl
   .exact x.dis i k d f b hi h'' g3 g4
  .rcases (get k f).mp g2 with ⟨rfl,_⟩|⟨hk,h''⟩
   .exact x.dis j i e d b h' hi g3 g4
   .exact x.dis j k e f b h' h'' g3 g4
 .have hne:b≠a:=λe=>(x.new i d a hi ha).1 o (e ▸ z)
  rw[CK hne];exact x.same b o z
theorem Sx.upd(x:Sx K CL Fz B Z Y H){ds:Ac D}(hi:Z[i]?=Ab (Ab (d,Aa)))(ha:Y[i]?=Ab (Ab (.ref a)))(r:Reps K CL H (By B Z Y) xs ds):Sx K CL Fz B (Z.set i (Ab (.lst ds,Aa))) Y (L2.upd H a (.lst xs)):=x.updO hi ha (.lst r)
theorem Sx.rel(x:Sx K CL Fz B Z Y H)(hi:Z[i]?=Ab (Ab (d,Aa))):Sx K CL Fz B (Z.set i (Ab (d,Ae))) Y H:=by
 obtain⟨a,u,q,oa,hh,rr⟩:=x.good.ow i d hi;have own:∀(j:Ag)(e:D),(Z.set i (Ab (d,Ae)))[j]?=Ab (Ab (e,Aa))->i≠j/\Z[j]?=Ab (Ab (e,Aa)):=λj e h=>by
  by_cases hj:i=j
  .subst hj;have:=Gb h;cases this
  .exact⟨hj,by rw[Cb hj]at h;exact h⟩
 have sub:∀ b,By B (Z.set i (Ab (d,Ae))) Y b->By B Z Y b:=λb h=>by
  rcases h with h|⟨j,e,h1,h2⟩
  .exact .inl h
  .exact .inr ⟨j,e,(own j e h1).2,h2⟩
 have na:¬ By B (Z.set i (Ab (d,Ae))) Y a:=λh=>by
  rcases h with h|⟨j,e,h1,h2⟩
  .exact(x.new i _ a hi q).2 h
  .obtain⟨hj,h1⟩:=own j e h1;exact hj (x.dis i j _ e a hi h1 q h2)
 refine⟨⟨λj e h=>?_,λj e h=>?_,by rw[A6];exact x.len⟩,λb h=>x.aok b (sub b h),λj e b g1 g2=>x.new j e b (own j e g1).2 g2,λj k e f b g1 g2 g3 g4=>x.dis j k e f b (own j e g1).2 (own k f g2).2 g3 g4,x.same,by rw[A6];exact x.len⟩
 .by_cases hj:i=j
  .subst hj;have e1:=Gb h;cases e1;exact⟨_,q,rr.rep na hh sub⟩
  .rw[Cb hj]at h;obtain⟨w',q',rw'⟩:=x.good.sh j e h;exact⟨w',q',Rep.sub sub _ rw'⟩
 .obtain⟨hj,h'⟩:=own j e h;obtain⟨b,o,q',hb,hh',rr'⟩:=x.good.ow j e h';exact⟨b,o,q',.inr ⟨j,e,h,q'⟩,hh',rr'.sub sub⟩
end
section
variable{X:Cx}{CL:ClA}{W:XW}{pos:AK}{e:Al}{fe:Rho->R D}{fr:Ai}
theorem BJ.exC{f:D->O}(x:Sx X.K CL Fz B Z Y H)(h:BJ X.K CL Fz B W (O.of Z r f) D')(k:∀ d v H',r=.ok d->AB H H'->EU X.K CL fr H A H' v d->Sx X.K CL Fz B Z Y H'->BJ X.K CL Fz B W (f d) D'->Q v H'):Bf (EU X.K CL fr H A) W H r Q:=by
 cases r with
 |ok d=>exact λv H' s r=>k d v H' rfl s r (x.grow s) h
 |exn y=>exact λH' s=>h H' λb o z=>s _ _ (x.same b o z)
 |bad=>exact h
def SAs(X:Cx)(CL:ClA)(W:XW)(fr:Ai)(i:Ag)(st:AO)(f:Rho->R D):Prop:=∀ A,PS X st (Li (λY H Q=>AOk H A/\∃ Z,Good X.K CL A Z Y H/\Bf (EU X.K CL fr H A) W H (f Z) Q) (Ey i))
theorem SC.sas{n:Ak}(hN:X.N.Nodup)(hi:X.N[i]?=Ab n)(hx:Loc X.env.scope n)(he:SC X CL W fr e fe)(hs:CT e (Ab (.Name n pos')) pos.line X.env=pure Ae)(hf:X.fn n=Aa\/X.env.scope.names.lookup n=Ab .local):SAs X CL W fr i (.Assign [.Name n pos'] e pos) fe:=
 λA=>Ox hN hi hx (he A) hs hf
theorem ZD{n:Ak}{fe:Rho->R D}{g:TG}(hc:X.calm=Aa)(B:BlockOk X scope N' ts)(hi:SI X CL W tg iter fi)(hGG:GG X.K CL ts as g)(hg:∀ cl C s H fp,PG (cxC X scope cl C N' s H fp) tg g)(ht:∀ cl C s H fp,STs (cxC X scope cl C N' s H fp) CL ifs fc)(he:∀ cl C s H fp,SE (cxC X scope cl C N' s H fp) CL W0 elt fe)(hs:∀ x,CI iter X.env x=pure x)(hN:X.N.Nodup)(hni:X.N[i]?=Ab n)(hx:X.env.scope.names.lookup n=Ab .local)(hsw:CT (.ListComp elt [⟨tg,iter,ifs,0⟩] scope pos) (Ab (.Name n pos')) pos2.line X.env=pure Aa):SAs X CL W Aa i (.Assign [.Name n pos'] (.ListComp elt [⟨tg,iter,ifs,0⟩] scope pos) pos2) (λZ=>(fi Z).bind λxs=>(noX (BN (λx=>(as x Z).bind fc) (λx=>(as x Z).bind fe) xs)).bind λys=>.ok (.lst ys)):=λA pI s Y H Dn I ⟨hA,Z,gd,p⟩=>
 cN hc B (hi A) hg (λcl C s H fp=>ht cl C s H fp A) (λcl C s H fp=>he cl C s H fp A) hs hN hni hx hsw pI s Y H Dn I ⟨hA,Z,gd,Qn hGG hA gd p⟩
theorem Tj{st:AO}(h:SAs X CL W fr i st fe):SS X CL W st (λZ=>O.of Z (fe Z) λd=>.next (Z.set i (Ab (d,Ae)))):=λFz B pI s Y H D I ⟨Z,x,p⟩=>
 h (By B Z Y) pI s Y H D I ⟨x.aok,Z,x.good,BJ.exC x p λd v H' _ s r x' q=>q _ H' (x'.set i r.1)⟩
theorem aY{st:AO}(h:SAs X CL W Aa i st fe):SS X CL W st (λZ=>O.of Z (fe Z) λd=>setF Z i d):=λFz B pI s Y H D I ⟨Z,x,p⟩=>
 h (By B Z Y) pI s Y H D I ⟨x.aok,Z,x.good,BJ.exC x p λd v H' _ s r x' q=>by
  cases d with
  |lst ds=>
   obtain⟨a,xs,rfl,h0,h1,rs⟩:=r.2 rfl ds rfl;exact q _ H' (x.setF s h0 h1 rs)
  | _=>exact q.elim⟩
theorem aU(he:SC X CL W Aa e fe):SS X CL W (.Return (Ab e) pos) (λZ=>O.of Z (fe Z) λd=>.ret d (G7 d)):=λFz B pI s Y H D I ⟨Z,x,p⟩=>
 Mg (he (By B Z Y)) pI s Y H D I ⟨x.aok,Z,x.good,BJ.exC x p λd v H' _ s r x' q=>q v H' x'.same (Rep.sub (λa h=>.inl h) _ r.1) (λ_ ds e=>by
  obtain⟨a,xs,h0,h1,h2,h3⟩:=r.2 rfl ds e;refine⟨a,xs,h0,λo z=>?_,h2,Reps.sub (λb hb=>hb.imp .inl id) _ h3⟩
  have:=x.same a o z;rw[h1]at this;cases this) λz=>.no λds e=>by rw[e]at z;cases z⟩
noncomputable def Ky(Z:Rho)(i:Ag):Ai:=match Z[i]? with
  |some (Ab (_,o))=>o
  |_=>Ae
theorem aR(he:PE X e (Gi i)):SS X CL W (.Return (Ab e) pos) (λZ=>O.of Z (DT Z i) λd=>.ret d (Ky Z i)):=λFz B pI s Y H D I ⟨Z,x,p⟩=>
 Mg he pI s Y H D I (by
  dsimp only at p;cases e:DT Z i with
  |bad=>rw[e]at p;exact p.elim
  |exn z=>exact(NL e).elim
  |ok d=>
   rw[e]at p;obtain⟨o,e⟩:=N2 e;have eo:Ky Z i=o:=by unfold Ky;rw[e]
   rw[O.of_ok,eo]at p;cases o with
   |false=>
    obtain⟨v,q,r⟩:=x.good.sh i d e;exact⟨v,q,p v H x.same (Rep.sub (λa h=>.inl h) _ r) (λz=>nomatch z) λz=>nomatch z⟩
   |true=>
    obtain⟨a,u,q,ha,hh,r⟩:=x.good.ow i d e;obtain⟨n1,n2⟩:=x.new i _ a e q;refine⟨_,q,p _ H x.same (r.rep n2 hh λa h=>.inl h) (λ_ ds' e'=>?_) λ_=>.no λds' e'=>?_⟩
    .cases e';obtain⟨xs,rfl,r'⟩:=r.lst_of;exact⟨a,xs,rfl,n1,hh,Reps.sub (λb hb=>hb.elim .inl λz=>z ▸ ha) _ r'⟩
    .subst e';rcases r with ⟨_,_,_,z,_⟩|⟨_,_,_,z,_⟩<;>cases z)
theorem LY{ds:Ac D}(h:CD Z i=.ok ds):Z[i]?=Ab (Ab (.lst ds,Aa)):=by
 unfold CD at h;split at h
 .rename_i e;cases h;exact e
 .cases h
theorem LK(h:CD Z i=.exn x):Bk:=by
 unfold CD at h;split at h<;>cases h
variable{o:Al}{i:Ag}{apos cpos:AK}
theorem kN(ho:PE X o (Gi i))(he:SE X CL W e fe)(hbase:DI o "append" X.env (eval o X.env)=eval o X.env)(hfew:((BX cpos (Av [e] X.env)).all (λx=>!x.1)&&(Fv cpos (Ek [] X.env)).all (λx=>x.1.isSome)&&decide ([e].length+([]:Ac CB).length+(if ([]:Ac CB).isEmpty then 0 else 1)<30))=Aa)(hline:(apos.endLine==cpos.line)=Aa)(hs:Av [e] X.env=[(Ae,eval e X.env)])(hsw:CT (.Call (.Attribute o "append" apos) [e] [] cpos) Af pos.line X.env=pure Ae):
  SS X CL W (.Expr (.Call (.Attribute o "append" apos) [e] [] cpos) pos) (λZ=>O.of Z (CD Z i) λxs=>O.of Z (fe Z) λd=>if B4 (xs.length+1)=Aa then .next (Z.set i (Ab (.lst (xs++[d]),Aa))) else .bad):=λFz B pI s Y H D I ⟨Z,x,p⟩=>by
 refine Ka (MB D7 Wy WA Qg ho (ED (he (By B Z Y)) FX hs) hbase hfew hline hs rfl) hsw pI s Y H D I ?_;dsimp only at p;cases e1:CD Z i with
 |bad=>rw[e1]at p;exact p.elim
 |exn z=>exact(LK e1).elim
 |ok ds=>
  rw[e1,O.of_ok]at p;have hi:=LY e1;obtain⟨a,xs,ds',q,e2,ha,hh,r⟩:=x.good.owL hi;cases e2;refine⟨_,q,.inl ⟨rfl,xs,SqL.of hh⟩,x.aok,Z,x.good,BJ.ex x p λd v H' _ s rv x' q'=>?_⟩
  split at q'
  .rename_i hz;refine⟨a,xs,v,rfl,rfl,s _ _ hh,?_,q' _ _ (x'.upd hi q ((r.same s).append ⟨rv,trivial⟩))⟩;have:=Ga hz;rw[r.length];omega
  .exact q'.elim
theorem kK(ho:PE X o (Gi i))(he:SC X CL W Aa e fe)(hbase:DI o "extend" X.env (eval o X.env)=eval o X.env)(hfew:((BX cpos (Av [e] X.env)).all (λx=>!x.1)&&(Fv cpos (Ek [] X.env)).all (λx=>x.1.isSome)&&decide ([e].length+([]:Ac CB).length+(if ([]:Ac CB).isEmpty then 0 else 1)<30))=Aa)(hline:(apos.endLine==cpos.line)=Aa)(hs:Av [e] X.env=[(Ae,eval e X.env)])(hsw:CT (.Call (.Attribute o "extend" apos) [e] [] cpos) Af pos.line X.env=pure Ae):
  SS X CL W (.Expr (.Call (.Attribute o "extend" apos) [e] [] cpos) pos) (λZ=>O.of Z (CD Z i) λxs=>O.of Z (fe Z) λd=>O.of Z (Kw d) λys=>if B4 (xs.length+ys.length)=Aa then .next (Z.set i (Ab (.lst (xs++ys),Aa))) else .bad):=λFz B pI s Y H D I ⟨Z,x,p⟩=>by
 refine Ka (MB D7 Et WB YA ho (ED (he (By B Z Y)) FX hs) hbase hfew hline hs rfl) hsw pI s Y H D I ?_;dsimp only at p;cases e1:CD Z i with
 |bad=>rw[e1]at p;exact p.elim
 |exn z=>exact(LK e1).elim
 |ok ds=>
  rw[e1,O.of_ok]at p;have hi:=LY e1;obtain⟨a,xs,ds',q,e2,ha,hh,r⟩:=x.good.owL hi;cases e2;refine⟨_,q,.inl ⟨rfl,xs,SqL.of hh⟩,x.aok,Z,x.good,BJ.exC x p λd v H' _ s rv x' q'=>?_⟩
  cases d with
  |lst es=>
   obtain⟨b,ys,rfl,h0,h1,rs⟩:=rv.2 rfl es rfl;rw[Qv,O.of_ok]at q';split at q'
   .rename_i hz;refine⟨a,b,xs,ys,rfl,rfl,s _ _ hh,h1,?_,q' _ _ (x'.upd hi q ((r.same s).append (Reps.sub (λc hc=>.inl hc) _ rs)))⟩
    rw[r.length,rs.length];exact Ga hz
   .exact q'.elim
  |_=>exact q'.elim
theorem kJ{k:Al}{fk:Rho->R Ov.D}(ho:PE X o (Gi i))(hk:ST X CL W k fk)(he:SE X CL W e fe)(ha:∀ v,assign (.Subscript o k spos) X.env v=(do
      let ov <-holding [v] (eval o X.env)
      let iv <-holding [v,ov] (eval k X.env)
      HM spos
      holding [v,ov,iv] (IS ov iv v)
      release [v,ov,iv] []))(hs:Gx [.Subscript o k spos] e pos.line X.env=pure Ae)(hw:Fs [.Subscript o k spos] e X.env=pure Af)(h1:(B5 [.Subscript o k spos] X.env).map (·.2)=[assign (.Subscript o k spos) X.env]):
    SS X CL W (.Assign [.Subscript o k spos] e pos) (λZ=>O.of Z (fe Z) λd=>O.of Z (CD Z i) λxs=>O.of Z ((fk Z).bind EG) λj=>match plD xs.length j with
      |some n=>.next (Z.set i (Ab (.lst (xs.set n d),Aa)))
      | none=>.bad):=λFz B pI s Y H D I ⟨Z,x,p⟩=>
  Oy (he (By B Z Y)) (SG ho (hk (By B Z Y)) Y_0 ha) hs hw h1 pI s Y H D I ⟨x.aok,Z,x.good,BJ.ex x p λd v H' _ s rv x' q'=>by
    cases e1:CD Z i with
    |bad=>rw[e1]at q';exact q'.elim
    |exn z=>exact(LK e1).elim
    |ok ds=>
      rw[e1,O.of_ok]at q';have hi:=LY e1;obtain⟨a,xs,ds',q,e2,ha,hh,r⟩:=x'.good.owL hi;cases e2;refine⟨_,q,x'.aok,Z,x'.good,?_⟩;cases e3:fk Z with
      |bad=>rw[e3]at q';exact q'.elim
      |exn z=>rw[e3]at q';exact λH2 s2=>q' H2 λb o z=>s2 _ _ (x'.same b o z)
      |ok dk=>
        rw[e3]at q';intro y H2 s2 ry;cases dk with
        |int j=>
          have ey:=ry.int_of;subst ey;rw[R.bind_ok,NY,O.of_ok]at q';cases e4:plD ds.length j with
          |none=>rw[e4]at q';exact q'.elim
          |some n=>
            rw[e4]at q';refine⟨a,xs,j,n,rfl,rfl,s2 _ _ hh,?_,q' _ _ ((x'.grow s2).upd hi q (Reps.set (rv.same s2) n (r.same s2)))⟩;rw[r.length];exact e4
        | _=>exact q'.elim⟩
theorem aP{rest:Ac AO}{f:Rho->O}(i:Ag)(h:SSs X CL W rest f):SSs X CL W rest (λZ=>(match Z[i]? with
   |some (Ab (d,Aa))=>O.next (Z.set i (Ab (d,Ae)))
   | _=>O.next Z).seq f):=λFz B=>PSs.weak (h Fz B) λD Y H ⟨Z,x,p⟩=>by
 dsimp only at p;split at p
 .rename_i d e;exact⟨_,x.rel e,p⟩
 .exact⟨Z,x,p⟩
end
section
variable{X:Cx}{pI:Pn}{Y:L2.St}{H:Hp}{s:Aq}{a ka:Ah}{k:Ac Ad}{CL:ClA}{A:Ah->Prop}{es:Ac (Ac Ad×Ah×V)}{kvs:Ac (Ac Ad×D)}
noncomputable def sdD(kvs:Ac (Ac Ad×D))(k:Ac Ad)(d:D):Ac (Ac Ad×D):=if (kvs.any λp=>p.1==k)=Aa then kvs else FA kvs k d
theorem Yr{B:A2}{E:Vq}{v:Aj}{Q:Vq}(hu:(TK X.prog X.w).room B)(hkey:(TK X.prog X.w).is s.heap k ka)(hm:s.heap.DictOfH (TK X.prog X.w) a ys)(hsz:ys.length<=sizeLine)(q1:∀ p,Go ys k=Ab p->Q p.2 {s with toks:=s.toks+(TK X.prog X.w).draws k})(q2:Go ys k=Af->∀ h',h'.DictOfH (TK X.prog X.w) a (ys++[(k,ka,v)])->D0 a s.heap h'->Q v {s with heap:=h',toks:=s.toks+(TK X.prog X.w).draws k}):AC (model X.prog X.w) B (HH a (.ref ka) v) Q E s:=by
  obtain⟨o,es,ep,ho,hc,hd,he,his,hn⟩:=hm;unfold HH
  try with_reducible refine Cz ?_
  refine Am ((TK X.prog X.w).pyHash hu hkey ?_);refine Am (wpAny_dictFind_heap (knd:=TK X.prog X.w) (s:={s with toks:=s.toks+(TK X.prog X.w).draws k}) hu hkey ho hd he his hn ?_ ?_)
  · intro hno;have hnot:k∉ys.map (·.1):=not_mem_keys_of_get hno;refine Am (GN (Am (wpAny_updateDictKeys (hz:=by have e:=size_of_entries he;omega) (s:={s with toks:=s.toks+(TK X.prog X.w).draws k}) ho hd (AD (q2 (atKey_none_of_get hno) _ ⟨_,_,ep+1,C8 _ ho (Obj.isFreed_of_dict (WF hd _)),
      hc.mapDictKeys _,WF hd _,?_,?_,?_⟩ (D6 ..))))))
    · simp[he,HV]
    · intro x hx;rcases EY.mp hx with hx|hx
      · exact(TK X.prog X.w).keeps (his x hx) ho hd (D6 ..)
      · simp only[Bm]at hx;subst hx;exact(TK X.prog X.w).keeps hkey ho hd (D6 ..)
    · rw[Eh,Vv];refine⟨hn,by simp,?_⟩
      intro x hx y hy;simp only[Ba,Im,Bm]at hy;subst hy;exact λe=>hnot (e ▸ hx)
  · intro j p hj;refine Am (Xc (s:={s with toks:=s.toks+(TK X.prog X.w).draws k}) ho hd ?_)
    have ej:es[j]?=Ab (HV (TK X.prog X.w) (k,p)):=by
      rw[<-Array.getElem?_toList,he,Dm,hj];rfl
    rw[ej];exact Am (GN (AD (q1 p (atKey_of_get hn hj))))
theorem X7(hd:(a==DS)=Ae)(v:Aj):MeetsIn X.prog X.w (Builtin.«dict.setdefault» ⟨[.ref a,.ref ka,v],[]⟩) (λB R s=>(TK X.prog X.w).room B.in1/\∃ k ys,(TK X.prog X.w).is s.heap k ka/\s.heap.DictOfH (TK X.prog X.w) a ys/\ys.length<=sizeLine/\(∀ p,Go ys k=Ab p->R (.ok (.ret p.2)) {s with toks:=s.toks+(TK X.prog X.w).draws k})/\(Go ys k=Af->∀ h',h'.DictOfH (TK X.prog X.w) a (ys++[(k,ka,v)])->D0 a s.heap h'->R (.ok (.ret v)) {s with heap:=h',toks:=s.toks+(TK X.prog X.w).draws k})):=
 .of_wp λB R s ⟨hu,k,ys,hkey,hm,hz,h1,h2⟩=>by
  unfold Builtin.«dict.setdefault»;refine Am ?_;unfold Builtin.Dict.keyAndDefault;refine Am (wpAny_notOrdered_dict hm.typeIs ?_);show AC _ _ (pure (a,Hh ka,Ab v)) _ _ s;refine AD ?_;show AC _ _ (if (a==DS)=Aa then _ else (HH a (.ref ka) v >>= _)) _ _ s
  rw[AF (by rw[hd];exact AA)]
  exact Am (Yr hu hkey hm hz (λp hp=>AD ⟨p.2,rfl,h1 p hp⟩) λhn h' hm' hs'=>AD ⟨v,rfl,h2 hn h' hm' hs'⟩)
theorem nR{x:V}{v:Aj}{E:Vq}(hu:X.A.units+1<Bz)(I:Inv X pI Y H s)(hH:H a=Ab (.ext (Dc a es)))(r:Repk X.K CL H A es kvs)(hk:Dx X.K H A ka k)(rx:Bv x v)(rd:Rep X.K CL H A x d)(hz:kvs.length<=sizeLine)(q:∀ x' es',Repk X.K CL H A es' (sdD kvs k d)->Q x' (upd H a (.ext (Dc a es')))):AC (model X.prog X.w) X.A (call (.builtin "dict.setdefault") [.ref a,.ref ka,v]) (EP X pI Y Q) E s:=by
 obtain⟨ys,ve,hs,m⟩:=dic_of I hH r;have zz:ys.length<=sizeLine:=by rw[<-ve.length,r.length];exact hz
 refine Ir F.slot_dict_setdefault m.typeIs F.entry_dict_setdefault (F.args_dict_setdefault_3 _ _ _) (X7 hs v) ⟨Dy hu,k,ys,Jp I hk,m,zz,λp hp=>?_,λhp h' m' sb=>?_⟩
 .rcases Ju ve k r with ⟨z1,_⟩|⟨p',x',d',z1,z2,z3,z4,z5⟩
  .rw[hp]at z1;cases z1
  .rw[hp]at z1;cases z1;have e1:sdD kvs k d=kvs:=Ax z3;have I2:Inv X pI Y (upd H a (.ext (Dc a es))) {s with toks:=s.toks+(TK X.prog X.w).draws k}:=by
    have e:upd H a (.ext (Dc a es))=H:=by
     funext b
     unfold upd;split
     .rename_i e;rw[e,hH]
     .rfl
    rw[e];exact I.kept λb o e=>e
   exact⟨x',_,I2,z4,q x' es (by rw[e1];exact r)⟩
 .rcases Ju ve k r with ⟨z1,z2,z3⟩|⟨p',_,_,z1,_⟩
  .obtain⟨es',ve',r'⟩:=RU ve hk rx rd r;have e1:sdD kvs k d=kvs++[(k,d)]:=by
    unfold sdD FA;rw[AF (by rw[z3];exact AA),AF (by rw[z3];exact AA)]
   obtain⟨o,_,_,h1,_⟩:=id m';exact⟨x,upd H a (.ext (Dc a es')),I.write (x:=a) (e:=a) (by rw[hH];exact trivial) (.inl rfl) (λb u hb hu=>(sb.2 b hb).trans hu) ⟨o,h1⟩ ⟨⟨_,ve',(F0.to hs m').any⟩,⟨o,h1⟩,λh1 h2 d k=>d.keep k⟩,rx,q x es' (by rw[e1];exact r')⟩
  .rw[hp]at z1;cases z1
theorem dic_get{x:V}{v:Aj}{E:Vq}(hu:X.A.units+1<Bz)(I:Inv X pI Y H s)(hH:H a=Ab (.ext (Dc a es)))(r:Repk X.K CL H A es kvs)(hk:Dx X.K H A ka k)(rx:Bv x v)(rd:Rep X.K CL H A x d)(q:∀ x',Rep X.K CL H A x' ((Cu kvs k).getD d)->Q x' H):AC (model X.prog X.w) X.A (call (.builtin "dict.get") [.ref a,.ref ka,v]) (EP X pI Y Q) E s:=by
 obtain⟨ys,ve,hs,m⟩:=dic_of I hH r;refine Ir F.slot_dict_get m.typeIs F.entry_dict_get (F.args_dict_get_3 _ _ _) (meetsH_dict_get_default (TK X.prog X.w) a ka hs v) ⟨Dy hu,k,ys,Jp I hk,m,?_⟩;rcases Ju ve k r with ⟨z1,z2,_⟩|⟨p',x',d',z1,z2,z3,z4,z5⟩
 .rw[z1];rw[z2]at q;exact⟨x,H,I.kept λb o e=>e,rx,q x rd⟩
 .rw[z1];rw[z2]at q;exact⟨x',H,I.kept λb o e=>e,z4,q x' z5⟩
end
section
variable{X:Cx}{o e:Al}{es:Ac Al}{t:TA}{name:Ak}{apos cpos:AK}{id:CG}{r:V->Ac V->Hp->VK->Prop}{to:TE}
theorem SK(slot:Slot "dict" name id)(hty:typeOf (.builtin id)=pure (.type "method_descriptor"))(hm:MtR X id r)(ho:PE X o to)(ha:PA X (e::es) t)(hbase:DI o name X.env (eval o X.env)=eval o X.env)(hfew:((BX cpos (Av (e::es) X.env)).all (λx=>!x.1)&&(Fv cpos (Ek [] X.env)).all (λx=>x.1.isSome)
   && decide ((e::es).length+([]:Ac CB).length+(if ([]:Ac CB).isEmpty then 0 else 1)<30))=Aa)(hline:(apos.endLine==cpos.line)=Aa)(hs:Av (e::es) X.env=(Ae,eval e X.env)::Av es X.env)(hplain:(BX cpos (Av es X.env)).any (·.1)=Ae):PE X (.Call (.Attribute o name apos) (e::es) [] cpos) (λY H Q=>to Y H λx H1=>(∃ a es,x=.ref a/\H1 a=Ab (.ext (Dc a es)))/\t Y H1 λxs H2=>r x xs H2 Q):=by
 intro pI s Y H Q I h;refine W9 hbase hfew hline rfl (thn (ho pI s Y H _ I h) λv s1 ⟨x,H1,I1,r1,⟨a,xs,e0,hH⟩,q1⟩=>?_)
 subst e0;obtain⟨ys,_,d⟩:=(I1.hok a _ hH).1;obtain⟨_,ob,_,_,h1,h2,h3,_⟩:=d X.prog X.w;cases r1;have ty:s1.TypeIs (.ref a) "dict" := ⟨ob,h1,h2.1⟩;refine⟨"dict",id,F.plainAttrs_dict,slot,hty,ty,λb e=>by cases e;exact⟨ob,h1,h2.2.1⟩,?_⟩
 have hA:=ha cpos pI s1 Y H1 _ I1 q1;rw[hs]at hA ⊢;refine VV (by show (Ae||(BX cpos (Av es X.env)).any (·.1))=Ae;rw[hplain]<;>rfl) (VW ?_)
 exact thn hA λus s2 ⟨vs,H2,I2,r2,q2⟩=>hm pI s2 Y H2 (.ref a) vs _ us Q I2 rfl r2 q2
end
section
variable{X:Cx}{CL:ClA}{W:XW}{pos:AK}{e k o:Al}{fe fk:Rho->R D}{i:Ag}{apos cpos:AK}
noncomputable def rU(K:Fg)(CL:ClA)(A:Ah->Prop):MR:=λo i v H Q=>∃ a ka es kvs k d,o=.ref a/\i=.ref ka/\H a=Ab (.ext (Dc a es))/\Repk K CL H A es kvs/\Dx K H A ka k/\Rep K CL H A v d/\kvs.length<=sizeLine/\∀ es',Repk K CL H A es' (FA kvs k d)->Q (upd H a (.ext (Dc a es')))
theorem Z_9(hu:X.A.units+1<Bz):PL X (rU X.K CL A):=by
 intro pI s Y H o i v ov iv u Q I ro ri rv h;obtain⟨a,ka,es,kvs,k,d,rfl,rfl,hH,r,hk,rd,hz,q⟩:=h;cases ro;cases ri;exact fP hu I hH r hk rv rd hz λs' es' r' I'=>⟨_,I',q es' r'⟩
theorem Ry{ds:Ac (Ac Ad×D)}(h:Gk Z i=.ok ds):Z[i]?=Ab (Ab (.dic ds,Aa)):=by
 unfold Gk at h;split at h
 .rename_i e;cases h;exact e
 .cases h
theorem Q0(h:Gk Z i=.exn x):Bk:=by
 unfold Gk at h;split at h<;>cases h
theorem N9{j:Ac Ad}(h:EF d=.ok j):Eb d=Ab j:=by
 unfold EF at h;split at h
 .rename_i e;cases h;exact e
 .cases h
theorem NX(h:EF d=.exn x):Bk:=by
 unfold EF at h;split at h<;>cases h
theorem kM{n:Ak}{dpos:AK}(hN:X.N.Nodup)(hi:X.N[i]?=Ab n)(hx:Loc X.env.scope n)(hs:CT (.Dict [] [] dpos) (Ab (.Name n pos')) pos.line X.env=pure Ae)(hf:X.fn n=Aa\/X.env.scope.names.lookup n=Ab .local):SS X CL W (.Assign [.Name n pos'] (.Dict [] [] dpos) pos) (λZ=>.next (Z.set i (Ab (.dic [],Aa)))):=λFz B pI s Y H D I ⟨Z,x,p⟩=>
 Ox hN hi hx fS hs hf pI s Y H D I λa ha=>p _ _ (x.setO (Fe ha _) ha G0 (.dic trivial))
theorem aX(hu:X.A.units+1<Bz)(ho:PE X o (Gi i))(hk:ST X CL W k fk)(he:SE X CL W e fe)(ha:∀ v,assign (.Subscript o k spos) X.env v=(do
   let ov <-holding [v] (eval o X.env)
   let iv <-holding [v,ov] (eval k X.env)
   HM spos
   holding [v,ov,iv] (IS ov iv v)
   release [v,ov,iv] []))(hs:Gx [.Subscript o k spos] e pos.line X.env=pure Ae)(hw:Fs [.Subscript o k spos] e X.env=pure Af)(h1:(B5 [.Subscript o k spos] X.env).map (·.2)=[assign (.Subscript o k spos) X.env]):SS X CL W (.Assign [.Subscript o k spos] e pos) (λZ=>O.of Z (fe Z) λd=>O.of Z (Gk Z i) λxs=>O.of Z ((fk Z).bind EF) λj=>if B4 (xs.length+1)=Aa then .next (Z.set i (Ab (.dic (FA xs j d),Aa))) else .bad):=λFz B pI s Y H D I ⟨Z,x,p⟩=>
 Oy (he (By B Z Y)) (SG ho (hk (By B Z Y)) (Z_9 (A:=By B Z Y) hu) ha) hs hw h1 pI s Y H D I ⟨x.aok,Z,x.good,BJ.ex x p λd v H' _ s rv x' q'=>by
  cases e1:Gk Z i with
  |bad=>rw[e1]at q';exact q'.elim
  |exn z=>exact(Q0 e1).elim
  |ok ds=>
   rw[e1,O.of_ok]at q';have hi:=Ry e1;obtain⟨a,xs,q,ha,hh,r⟩:=x'.good.owK hi;refine⟨_,q,x'.aok,Z,x'.good,?_⟩;cases e3:fk Z with
   |bad=>rw[e3]at q';exact q'.elim
   |exn z=>rw[e3]at q';exact λH2 s2=>q' H2 λb o z=>s2 _ _ (x'.same b o z)
   |ok dk=>
    rw[e3,R.bind_ok]at q';intro y H2 s2 ry;cases e4:EF dk with
    |bad=>rw[e4]at q';exact q'.elim
    |exn z=>exact(NX e4).elim
    |ok j=>
     rw[e4,O.of_ok]at q';split at q'
     .rename_i hz;have hz:=Ga hz;obtain⟨ka,rfl,kr⟩:=J6 ry (N9 e4);exact⟨a,ka,xs,ds,j,d,rfl,rfl,s2 _ _ hh,Repk.kp (Kp.of s2) _ r,kr,rv.same s2,by omega,λes' r'=>q' _ _ ((x'.grow s2).updO hi q (.dic r'))⟩
     .exact q'.elim⟩
theorem rA(hu:X.A.units+1<Bz):MtR X "dict.setdefault" (λx xs H Q=>∃ a ka es kvs k v d,x=.ref a/\xs=[.ref ka,v]/\H a=Ab (.ext (Dc a es))/\Repk X.K CL H A es kvs/\Dx X.K H A ka k/\Rep X.K CL H A v d/\kvs.length<=sizeLine/\∀ x' es',Repk X.K CL H A es' (sdD kvs k d)->Q x' (upd H a (.ext (Dc a es')))):=by
 intro pI s Y H x xs v us Q I rx rs h;obtain⟨a,ka,es,kvs,k,v',d,rfl,rfl,hH,r,hk,rd,hz,q⟩:=h;cases rx;cases rs with
 |cons r1 r2=>
  cases r1;cases r2 with
  |cons r3 r4=>
   cases r4;exact nR hu I hH r hk r3 rd hz q
theorem lB(hu:X.A.units+1<Bz):MtR X "dict.get" (λx xs H Q=>∃ a ka es kvs k v d,x=.ref a/\xs=[.ref ka,v]/\H a=Ab (.ext (Dc a es))/\Repk X.K CL H A es kvs/\Dx X.K H A ka k/\Rep X.K CL H A v d/\∀ x',Rep X.K CL H A x' ((Cu kvs k).getD d)->Q x' H):=by
 intro pI s Y H x xs v us Q I rx rs h;obtain⟨a,ka,es,kvs,k,v',d,rfl,rfl,hH,r,hk,rd,q⟩:=h;cases rx;cases rs with
 |cons r1 r2=>
  cases r1;cases r2 with
  |cons r3 r4=>
   cases r4;exact dic_get hu I hH r hk r3 rd q
theorem kL(hu:X.A.units+1<Bz)(ho:PE X o (Gi i))(hk:ST X CL W k fk)(he:SE X CL W e fe)(hbase:DI o "setdefault" X.env (eval o X.env)=eval o X.env)(hfew:((BX cpos (Av [k,e] X.env)).all (λx=>!x.1)&&(Fv cpos (Ek [] X.env)).all (λx=>x.1.isSome)&&decide ([k,e].length+([]:Ac CB).length+(if ([]:Ac CB).isEmpty then 0 else 1)<30))=Aa)(hline:(apos.endLine==cpos.line)=Aa)(hs:Av [k,e] X.env=(Ae,eval k X.env)::Av [e] X.env)(hs2:Av [e] X.env=[(Ae,eval e X.env)])(hpl:(BX cpos (Av [e] X.env)).any (·.1)=Ae)(hsw:CT (.Call (.Attribute o "setdefault" apos) [k,e] [] cpos) Af pos.line X.env=pure Ae):
  SS X CL W (.Expr (.Call (.Attribute o "setdefault" apos) [k,e] [] cpos) pos) (λZ=>O.of Z (Gk Z i) λxs=>O.of Z ((fk Z).bind EF) λj=>O.of Z (fe Z) λd=>if B4 (xs.length+1)=Aa then .next (Z.set i (Ab (.dic (if (xs.any λp=>p.1==j)=Aa then xs else FA xs j d),Aa))) else .bad):=λFz B pI s Y H D I ⟨Z,x,p⟩=>by
 refine Ka (SK PySem.F.slot_dict_setdefault PySem.F.type_dict_setdefault (rA (A:=By B Z Y) (CL:=CL) hu) ho (ED (hk (By B Z Y)) (ED (he (By B Z Y)) FX hs2) hs) hbase hfew hline hs hpl) hsw pI s Y H D I ?_;dsimp only at p;cases e1:Gk Z i with
 |bad=>rw[e1]at p;exact p.elim
 |exn z=>exact(Q0 e1).elim
 |ok ds=>
  rw[e1,O.of_ok]at p;have hi:=Ry e1;obtain⟨a,xs,q,ha,hh,r⟩:=x.good.owK hi;refine⟨_,q,⟨a,xs,rfl,hh⟩,x.aok,Z,x.good,?_⟩;cases e3:fk Z with
  |bad=>rw[e3]at p;exact p.elim
  |exn z=>rw[e3]at p;exact λH2 s2=>p H2 λb o z=>s2 _ _ (x.same b o z)
  |ok dk=>
   rw[e3,R.bind_ok]at p;intro y H1 s1 ry;cases e4:EF dk with
   |bad=>rw[e4]at p;exact p.elim
   |exn z=>exact(NX e4).elim
   |ok j=>
    rw[e4,O.of_ok]at p;have x1:=x.grow s1;refine⟨x1.aok,Z,x1.good,BJ.ex x1 p λd v H' _ s2 rv x' q'=>?_⟩
    split at q'
    .rename_i hz;have hz:=Ga hz;obtain⟨ka,rfl,kr⟩:=J6 ry (N9 e4);exact⟨a,ka,xs,ds,j,v,d,rfl,rfl,s2 _ _ (s1 _ _ hh),Repk.kp (Kp.of (s1.trans s2)) _ r,kr.kp (Kp.of s2),rv,by omega,λx2 es' r'=>q' _ _ (x'.updO hi q (.dic r'))⟩
    .exact q'.elim
theorem aA(hu:X.A.units+1<Bz)(ho:PE X o (Gi i))(hk:ST X CL W k fk)(he:SE X CL W e fe)(hbase:DI o "get" X.env (eval o X.env)=eval o X.env)(hfew:((BX cpos (Av [k,e] X.env)).all (λx=>!x.1)&&(Fv cpos (Ek [] X.env)).all (λx=>x.1.isSome)&&decide ([k,e].length+([]:Ac CB).length+(if ([]:Ac CB).isEmpty then 0 else 1)<30))=Aa)(hline:(apos.endLine==cpos.line)=Aa)(hs:Av [k,e] X.env=(Ae,eval k X.env)::Av [e] X.env)(hs2:Av [e] X.env=[(Ae,eval e X.env)])(hpl:(BX cpos (Av [e] X.env)).any (·.1)=Ae):
  SE X CL W (.Call (.Attribute o "get" apos) [k,e] [] cpos) (λZ=>(DT Z i).bind λd=>(Ph d).bind λkvs=>(fk Z).bind λa=>(EF a).bind λj=>(fe Z).bind λy=>.ok ((Cu kvs j).getD y)):=λA pI s Y H Q I ⟨hA,Z,gd,p⟩=>by
 refine SK PySem.F.slot_dict_get PySem.F.type_dict_get (lB (A:=A) (CL:=CL) hu) (Th (CL:=CL) (W:=W) ho A) (ED (hk A) (ED (he A) FX hs2) hs) hbase hfew hline hs hpl pI s Y H Q I ⟨hA,Z,gd,Bf.bind p λd v H1 _ s1 r1 p1=>?_⟩
 cases d with
 |dic kvs=>
  have p1:Bf (λH=>Rep X.K CL H A) W H1 ((fk Z).bind λa=>(EF a).bind λj=>(fe Z).bind λy=>.ok ((Cu kvs j).getD y)) Q:=p1
  obtain⟨a,es,rfl,hH,rk⟩:=r1.dic_of;refine⟨⟨a,es,rfl,hH⟩,hA.same s1,Z,gd.same s1,Bf.bind p1 λdk y H2 _ s2 r2 p2=>?_⟩
  cases e4:EF dk with
  |bad=>rw[e4]at p2;exact p2.elim
  |exn z=>exact(NX e4).elim
  |ok j=>
   rw[e4,R.bind_ok]at p2;obtain⟨ka,rfl,kr⟩:=J6 r2 (N9 e4);refine⟨(hA.same s1).same s2,Z,(gd.same s1).same s2,Bf.bind p2 λd v H3 _ s3 r3 p3=>?_⟩
   exact⟨a,ka,es,kvs,j,v,d,rfl,rfl,s3 _ _ (s2 _ _ hH),Repk.kp (Kp.of (s2.trans s3)) _ rk,kr.kp (Kp.of s3),r3,λx' r'=>p3 x' H3 (AB.refl H3) r'⟩
 |_=>exact p1.elim
end
section
variable{X:Cx}{CL:ClA}{W:XW}{pos:AK}{e k o:Al}{fe fk:Rho->R D}{i:Ag}{apos cpos:AK}
theorem A9.take{its:Ac Aj}(r:A9 xs its):∀ n,A9 (xs.take n) (its.take n):=by
 induction r with
 |nil=>intro n;simp;exact .nil
 |cons h _ ih=>
  intro n;cases n with
  |zero=>exact .nil
  |succ n=>exact .cons h (ih n)
theorem A9.drop{its:Ac Aj}(r:A9 xs its):∀ n,A9 (xs.drop n) (its.drop n):=by
 induction r with
 |nil=>intro n;simp;exact .nil
 |cons h t ih=>
  intro n;cases n with
  |zero=>exact .cons h t
  |succ n=>exact ih n
end
section
variable{prog:AM}{w:Ay}{A:A2}{E:Vq}{s:Aq}
theorem kX{j t:Ah}{k:Ag}{x:Aj}{Q:Vq}(st:s.heap.IsTupleIter j t k)(sq:s.heap.IsTuple t its)(at_:its[k]?=Ab x)(go:∀ h2,h2.IsTupleIter j t (k+1)->D0 j s.heap h2->Q x {s with heap:=h2}):AC (model prog w) A (BF (.ref j)) Q E s:=by
 obtain⟨oj,gj,cj,dj⟩:=id st;obtain⟨ot,gt,_,nt,dt⟩:=sq;show AC _ _ (Iq _ _ >>= _) _ _ _;refine Am (CF st.typeIs DF (EC DF st.typeIs Wv ?_ (Wr _)));show AC _ _ (field (.ref j) 0 >>= _) _ _ _;refine Am (BL gj dj (x:=.ref t) rfl ?_);show AC _ _ (field (.ref j) 1 >>= _) _ _ _;refine Am (BL gj dj (x:=.int k 0) rfl ?_);refine Am (Du gt dt ?_);simp only[Dl,at_];exact Am (Fc gj dj (by simp) (AD ⟨x,rfl,AD (go _ ⟨_,C8 _ gj (Ev (C9 dj _)),(WE ..).trans cj,by rw[C9 dj];simp[D4]⟩ (D6 ..))⟩))
theorem YL{j t:Ah}{k:Ag}{Q:Vq}(calm:A.handled=Af)(st:s.heap.IsTupleIter j t k)(sq:s.heap.IsTuple t its)(at_:its[k]?=Af)(up:∀ h2 e,Ho j s.heap h2->(∃ o,h2.get? e=Ab o/\o.cls=.type "StopIteration")->E (.ref e) {s with heap:=h2}):AC (model prog w) A (BF (.ref j)) Q E s:=by
 obtain⟨oj,gj,cj,dj⟩:=id st;obtain⟨ot,gt,_,nt,dt⟩:=sq;show AC _ _ (Iq _ _ >>= _) _ _ _;refine Am (CF st.typeIs DF (EC DF st.typeIs Wv ?_ (Wr _)));show AC _ _ (field (.ref j) 0 >>= _) _ _ _;refine Am (BL gj dj (x:=.ref t) rfl ?_);show AC _ _ (field (.ref j) 1 >>= _) _ _ _;refine Am (BL gj dj (x:=.int k 0) rfl ?_);refine Am (Du gt dt ?_);simp only[Dl,at_];refine Am (GN (Am (Fc gj dj (by simp) ?_)))
 refine Am ?_;simp only[newExc,newTuple];refine Am (CJ ?_ (by size_fits))
 refine Am (m:=W5 _ _) (wpAny_of_eq (a:=.none) (by first|rfl|(simp only[W5];rfl)) (CJ ?_ (by size_fits)))
 simp only[raiseNew];refine Am (wpAny_handled ?_)
 first|rw[show A.in1.handled=Af from calm]|rw[calm]
 exact Am (AD (wpAny_throw (up _ _ (((D6 ..).extBut.push _).push _) ⟨_,AH _ rfl,rfl⟩)))
end
structure Dw (prog:AM) (w:Ay) (A:A2) (j:Ah) (fp:Ac Ah) (n:Ag) (P:Ag->Aj->Prop) (S:Ag->AJ->Prop):Prop where
 frame:∀ i h h2,S i h->(∀ c∈fp,∀ o,h.get? c=Ab o->h2.get? c=Ab o)->S i h2
 item:∀ i (s:Aq) (Q:Vq) (E:Vq),i<n->S i s.heap->(∀ x h2 tk,P i x->S (i+1) h2->D0 j s.heap h2->Q x {s with heap:=h2,toks:=tk})->AC (model prog w) A (BF (.ref j)) Q E s
 done:∀ i (s:Aq) (Q:Vq) (E:Vq),n<=i->S i s.heap->(∀ h2 e,Ho j s.heap h2->(∃ o,h2.get? e=Ab o/\o.cls=.type "StopIteration")->E (.ref e) {s with heap:=h2})->AC (model prog w) A (BF (.ref j)) Q E s
def Em(t:Ai)(h:AJ)(j l:Ah)(i:Ag):Prop:=match t with
  |true=>h.IsTupleIter j l i
  |false=>h.IsListIter j l i
def D9(t:Ai)(h:AJ)(l:Ah)(its:Bb Aj):Prop:=match t with
  |true=>h.IsTuple l its
  |false=>h.IsList l its
theorem Kv{A:A2}(calm:A.handled=Af)(t:Ai)(j l:Ah)(ne:l≠j)(its:Bb Aj):Dw prog w A j [j,l] its.size (λi v=>its[i]?=Ab v) (λi h=>Em t h j l i/\D9 t h l its):=by
 cases t with
 |true=>exact⟨λ_ _ _ z k=>⟨z.1.at λo e=>k j (by simp) o e,z.2.at λo e=>k l (by simp) o e⟩,λi s Q E hi z q=>kX z.1 z.2 (x:=its[i]) (by simp[hi]) λh2 z2 sb=>q _ h2 s.toks (by simp[hi]) ⟨z2,z.2.extBut sb.extBut ne⟩ sb,λi s Q E hi z q=>YL calm z.1 z.2 (by simp[hi]) q⟩
 |false=>exact⟨λ_ _ _ z k=>⟨z.1.at λo e=>k j (by simp) o e,z.2.at λo e=>k l (by simp) o e⟩,λi s Q E hi z q=>wpAny_nextOf_list_item z.1 z.2 (x:=its[i]) (by simp[hi]) λh2 z2 sb=>q _ h2 s.toks (by simp[hi]) ⟨z2,z.2.extBut sb.extBut ne⟩ sb,λi s Q E hi z q=>wpAny_nextOf_list_end calm z.1 z.2 (by simp[hi]) q⟩
theorem nb1{I l c:Ag}(b:l<I)(h:c∈[I,l])(j:Ag):c≠I+(j+1):=by
 have h':c=I\/c=l:=by simpa using h
 omega
theorem nb2{I l c:Ag}(b:l<I)(h:c∈[I+1,l]):c≠I/\c≠I+3/\c≠I+4:=by
 have h':c=I+1\/c=l:=by simpa using h
 omega
theorem nij{I i j:Ag}(h:i≠j):I+i≠I+j:=by omega
theorem ni0{I i:Ag}(h:i≠0):I+i≠I:=by omega
section
variable{prog:AM}{w:Ay}{A:A2}{E:Vq}{s:Aq}
theorem Y_2{I l1 l2 n1 n2 k:Ag}{P1 P2:Ag->Aj->Prop}{S1 S2:Ag->AJ->Prop}{a b:Aj}{Q:Vq}(b1:l1<I)(b2:l2<I)(D1:Dw prog w A I [I,l1] n1 P1 S1)(D2:Dw prog w A (I+1) [I+1,l2] n2 P2 S2)(hz:FR s.heap (I+4) (I+2) (I+3) .none)(hI:Eu s.heap (I+2) (.ref I) (.ref (I+1)))(hO:Eu s.heap (I+3) a b)(g1:S1 k s.heap)(g2:S2 k s.heap)(k1:k<n1)(k2:k<n2)(go:∀ x y h2 tk,P1 k x->P2 k y->FR h2 (I+4) (I+2) (I+3) (D4 s.heap.objs.size)->Eu h2 (I+3) x y->S1 (k+1) h2->S2 (k+1) h2->Eu h2 s.heap.objs.size x y ->
   (∀ c o,c∉[I,I+1,I+3,I+4]->s.heap.get? c=Ab o->h2.get? c=Ab o)->Q (.ref s.heap.objs.size) {s with heap:=h2,toks:=tk}):AC (model prog w) A (Builtin.«zip.__next__» ⟨[.ref (I+4)],[]⟩) (λfin s'=>∃ v,fin=.done (.ret v)/\Q v s') E s:=by
 refine Am (m:=field (.ref (I+4)) 2) (BL hz rfl (x:=.bool Ae) rfl ?_);refine Am (m:=field (.ref (I+4)) 3) (BL hz rfl (x:=.ref (I+2)) rfl (Am (Du hI rfl ?_)));refine Am (m:=CA (.ref (I+4))) ?_;simp only[CA];refine Am (BL hz rfl (x:=.none) rfl (AD ?_));rw[Ax rfl];refine Am (GN (Am (BL hz rfl (x:=.ref (I+3)) rfl (Am (Dz hz (by simp) λp1 z1 e1=>Am ?_)))))
 have z1':FR p1 (I+4) (I+2) (I+3) .ellipsis:=z1;simp only[VA,VB,He,F7];refine Am (Am (Ft (Am (m:=BF (.ref I)) (D1.item k _ _ _ k1 (D1.frame _ _ _ g1 λc hc o q=>e1.extBut c o (nb1 b1 hc 3) q) λx p2 t2 px s2 e2=>AD ?_))))
 have o2:Eu p2 (I+3) a b:=e2.extBut _ _ (ni0 (by decide)) (e1.extBut _ _ (nij (by decide)) hO)
 refine Am (Du o2 rfl (Am (FW o2 λp3 o3 e3=>Am (Hq (AD ?_)))))
 have o3':Eu p3 (I+3) x b:=o3;have g2':S2 k p3:=D2.frame _ _ _ g2 λc hc o q=>e3.extBut c o (nb2 b2 hc).2.1 (e2.extBut c o (nb2 b2 hc).1 (e1.extBut c o (nb2 b2 hc).2.2 q))
 refine Am (Am (Ft (Am (m:=BF (.ref (I+1))) (D2.item k _ _ _ k2 g2' λy p4 t4 py s4 e4=>AD ?_))))
 have o4:Eu p4 (I+3) x b:=e4.extBut _ _ (nij (by decide)) o3'
 refine Am (Du o4 rfl (Am (FW o4 λp5 o5 e5=>Am (Hq (AD (AD ?_))))))
 have o5':Eu p5 (I+3) x y:=o5;have sz:p5.objs.size=s.heap.objs.size:=by rw[e5.1,e4.1,e3.1,e2.1,e1.1]
 have z5:FR p5 (I+4) (I+2) (I+3) .ellipsis:=e5.extBut _ _ (nij (by decide)) (e4.extBut _ _ (nij (by decide)) (e3.extBut _ _ (nij (by decide)) (e2.extBut _ _ (ni0 (by decide)) z1')))
 refine Am (Du o5' rfl (Am (wpAny_newTuple ?_)));refine Am (m:=VT (.ref (I+4)) (.ref p5.objs.size)) ?_;simp only[VT];have z6:FR (p5.push { cls:=.type "tuple",data:=.seq #[x,y] }) (I+4) (I+2) (I+3) .ellipsis:=Ar _ z5;refine Am (Dz z6 (by simp) λp7 z7 e7=>?_)
 have z7':FR p7 (I+4) (I+2) (I+3) (D4 p5.objs.size):=z7;refine Dz z7' (by simp) λp8 z8 e8=>AD ⟨_,rfl,?_⟩
 have z8':FR p8 (I+4) (I+2) (I+3) (D4 p5.objs.size):=z8;have lt5:I+4<p5.objs.size:=AI z5;have up:∀ c o,c≠I+4->p5.get? c=Ab o->p8.get? c=Ab o:=λc o nc q=>e8.extBut _ _ nc (e7.extBut _ _ nc (Ar _ q))
 have t8:Eu p8 p5.objs.size x y:=e8.extBut _ _ (Er lt5) (e7.extBut _ _ (Er lt5) (AH _ rfl));have a1:S1 (k+1) p8:=D1.frame _ _ _ s2 λc hc o q=>up c o (nb1 b1 hc 3) (e5.extBut c o (nb1 b1 hc 2) (e4.extBut c o (nb1 b1 hc 0) (e3.extBut c o (nb1 b1 hc 2) q)))
 have a2:S2 (k+1) p8:=D2.frame _ _ _ s4 λc hc o q=>up c o (nb2 b2 hc).2.2 (e5.extBut c o (nb2 b2 hc).2.1 q)
 have kp:∀ c o,c∉[I,I+1,I+3,I+4]->s.heap.get? c=Ab o->p8.get? c=Ab o:=λc o nc q=>by
  simp only[AE,Bp,CQ,EL]at nc;exact up c o nc.2.2.2 (e5.extBut c o nc.2.2.1 (e4.extBut c o nc.2.1 (e3.extBut c o nc.2.2.1 (e2.extBut c o nc.1 (e1.extBut c o nc.2.2.2 q)))))
 have q:=go x y p8 t4 px py (by rw[<-sz];exact z8') (up _ _ (nij (by decide)) o5') a1 a2 (by rw[<-sz];exact t8) kp
 rw[<-sz]at q;exact q
theorem bJ{I l1 l2 n1 n2 k:Ag}{P1 P2:Ag->Aj->Prop}{S1 S2:Ag->AJ->Prop}{a b:Aj}{Q:Fin->Aq->Prop}(b1:l1<I)(b2:l2<I)(D1:Dw prog w A I [I,l1] n1 P1 S1)(D2:Dw prog w A (I+1) [I+1,l2] n2 P2 S2)(hz:FR s.heap (I+4) (I+2) (I+3) .none)(hI:Eu s.heap (I+2) (.ref I) (.ref (I+1)))(hO:Eu s.heap (I+3) a b)(g1:S1 k s.heap)(g2:S2 k s.heap)(hk:n1<=k\/(k<n1/\n2<=k))(up:∀ h2 e tk,(∀ c o,c∉[I,I+1,I+3,I+4]->s.heap.get? c=Ab o->h2.get? c=Ab o)->(∃ o,h2.get? e=Ab o/\o.cls=.type "StopIteration")->E (.ref e) {s with heap:=h2,toks:=tk}):AC (model prog w) A (Builtin.«zip.__next__» ⟨[.ref (I+4)],[]⟩) Q E s:=by
 refine Am (m:=field (.ref (I+4)) 2) (BL hz rfl (x:=.bool Ae) rfl ?_);refine Am (m:=field (.ref (I+4)) 3) (BL hz rfl (x:=.ref (I+2)) rfl (Am (Du hI rfl ?_)));refine Am (m:=CA (.ref (I+4))) ?_;simp only[CA];refine Am (BL hz rfl (x:=.none) rfl (AD ?_));rw[Ax rfl];refine Am (GN (Am (BL hz rfl (x:=.ref (I+3)) rfl (Am (Dz hz (by simp) λp1 z1 e1=>Am ?_)))))
 have z1':FR p1 (I+4) (I+2) (I+3) .ellipsis:=z1;simp only[VA,VB,He,F7];have g1':S1 k p1:=D1.frame _ _ _ g1 λc hc o q=>e1.extBut c o (nb1 b1 hc 3) q
 rcases hk with k1|⟨k1,k2⟩
 .refine Am (Am (Ft (Am (m:=BF (.ref I)) (D1.done _ _ _ _ k1 g1' λp2 e e2 he=>?_))))
  obtain⟨oe,hoe,hce⟩:=he;have z2:FR p2 (I+4) (I+2) (I+3) .ellipsis:=e2 _ _ (ni0 (by decide)) z1'
  have ne:e≠I+4:=λx=>by subst x;rw[z2]at hoe;cases hoe;simp at hce
  refine Dz z2 (by simp) λp3 _ e3=>up p3 e s.toks (λc o nc q=>?_) ⟨oe,e3.extBut _ _ ne hoe,hce⟩
  simp only[AE,Bp,CQ,EL]at nc;exact e3.extBut c o nc.2.2.2 (e2 c o nc.1 (e1.extBut c o nc.2.2.2 q))
 .refine Am (Am (Ft (Am (m:=BF (.ref I)) (D1.item k _ _ _ k1 g1' λx p2 t2 px s2 e2=>AD ?_))))
  have o2:Eu p2 (I+3) a b:=e2.extBut _ _ (ni0 (by decide)) (e1.extBut _ _ (nij (by decide)) hO)
  refine Am (Du o2 rfl (Am (FW o2 λp3 o3 e3=>Am (Hq (AD ?_)))))
  have g2':S2 k p3:=D2.frame _ _ _ g2 λc hc o q=>e3.extBut c o (nb2 b2 hc).2.1 (e2.extBut c o (nb2 b2 hc).1 (e1.extBut c o (nb2 b2 hc).2.2 q))
  refine Am (Am (Ft (Am (m:=BF (.ref (I+1))) (D2.done _ _ _ _ k2 g2' λp4 e e4 he=>?_))))
  obtain⟨oe,hoe,hce⟩:=he;have z4:FR p4 (I+4) (I+2) (I+3) .ellipsis:=e4 _ _ (nij (by decide)) (e3.extBut _ _ (nij (by decide)) (e2.extBut _ _ (ni0 (by decide)) z1'))
  have ne:e≠I+4:=λx=>by subst x;rw[z4]at hoe;cases hoe;simp at hce
  refine Dz z4 (by simp) λp5 _ e5=>up p5 e t2 (λc o nc q=>?_) ⟨oe,e5.extBut _ _ ne hoe,hce⟩
  simp only[AE,Bp,CQ,EL]at nc;exact e5.extBut c o nc.2.2.2 (e4 c o nc.2.1 (e3.extBut c o nc.2.2.1 (e2.extBut c o nc.1 (e1.extBut c o nc.2.2.2 q))))
end
def SqX(t:Ai)(K:Fg)(H:Hp)(a:Ah)(xs:Ac V):Prop:=match t with
  |true=>SqT K H a xs
  |false=>SqL K H a xs
theorem HZ(I:Inv X pI Y H s)(h:SqX t X.K H a xs):∃ its:Ac Aj,A9 xs its/\D9 t s.heap a its.toArray/\xs.length<=sizeLine:=by
 cases t with
 |true=>
  obtain⟨its,rv,p,z⟩:=I.tuple h;exact⟨its,rv,p,z⟩
 |false=>
  obtain⟨its,rv,p,z⟩:=I.list h;exact⟨its,rv,p.isList,z⟩
theorem Nv{ys:Ac V}(I:Inv X pI Y H s)(h:SqX t X.K H a xs)(h2:SqX t X.K H a ys):xs=ys:=by
 cases t with
 |true=>exact I.tuple_inj h h2
 |false=>exact I.list_inj h h2
noncomputable def Itz(K:Fg)(t1 t2:Ai)(a b:Ah):It:=
  ⟨λi H=>∃ xs ys x y,SqX t1 K H a xs/\SqX t2 K H b ys/\xs[i]?=Ab x/\ys[i]?=Ab y,
   λi H v H'=>∃ p x y,H p=Af/\v=.ref p/\(∀ xs,SqX t1 K H a xs->xs[i]?=Ab x)/\(∀ ys,SqX t2 K H b ys->ys[i]?=Ab y)/\H'=upd H p (.tup [x,y]),
   λi H=>∃ xs ys,SqX t1 K H a xs/\SqX t2 K H b ys/\(xs.length<=i\/(i<xs.length/\ys.length<=i))⟩
theorem Inv.turnedL{t':Ag}(ch:Ac Ah)(I:Inv X pI Y H s)(k:∀ b o,b∉ch->s.heap.get? b=Ab o->h'.get? b=Ab o)(hf:∀ b∈ch,Gh X pI H b):Inv X pI Y H {s with heap:=h',toks:=t'}:=by
 have nit:∀ b u,H b=Ab u->b∉ch:=λb u e z=>by rw[(hf b z).1]at e;cases e
 refine I.step (g':=s.gens) (d':=s.drawn) (ch:=ch) (λb hb=>⟨(hf b hb).2.2.2.1,(hf b hb).2.1,(hf b hb).2.2.2.2.1,(hf b hb).2.2.2.2.2⟩) (λb o _ _ hc e _=>k b o hc e) (λb o _ _ hc e _=>⟨o.slots,k b o hc e⟩) (λ_ _ _ _ n=>n)
  (λb o hc e=>⟨o,k b o hc e⟩) (λ_ _ e=>e) (λ_ _ _ e=>e) (λb ps e=>⟨#[],by rw[e];simp⟩) (λm ⟨o,es,ep,ho,r⟩=>⟨o,es,ep,k _ o (λz=>(hf _ z).2.1 rfl) ho,r⟩) (λb u e=>(I.hok b u e).stay (λc v hc q=>k c v ?_ q) (λ_ q=>q) λ_ _ q=>q) I.bare
 rcases hc with z|z
 .rw[z];exact nit b u e
 .exact nit c _ z
def zTn(t1 t2:Ai)(I l1 l2:Ag)(i:Ag)(h:AJ):Prop:=FR h (I+4) (I+2) (I+3) .none/\Eu h (I+2) (.ref I) (.ref (I+1))/\(∃ a b,Eu h (I+3) a b)/\Em t1 h I l1 i/\Em t2 h (I+1) l2 i
noncomputable def zFp(I:Ag):Ac Ah:=[I,I+1,I+2,I+3,I+4]
theorem Em.obj{j:Ah}(z:Em t h j l i):∃ o,h.get? j=Ab o/\∀ v,o.data≠.cell v:=by
 cases t with
 |true=>obtain⟨o,e,c,d⟩:=z;exact⟨o,e,λv z=>by rw[d]at z;cases z⟩
 |false=>obtain⟨o,e,c,d⟩:=z;exact⟨o,e,λv z=>by rw[d]at z;cases z⟩
theorem Em.at'{j:Ah}(z:Em t h j l i)(k:∀ o,h.get? j=Ab o->h2.get? j=Ab o):Em t h2 j l i:=by
 cases t with
 |true=>exact PySem.Heap.IsTupleIter.at z k
 |false=>exact PySem.Heap.IsListIter.at z k
theorem YU(t1 t2:Ai)(I l1 l2:Ag)(b1:l1<I)(b2:l2<I):Turn P w K (.Tuple es n pos) (Itz K t1 t2 l1 l2) (zFp I) (I+4) (zTn t1 t2 I l1 l2) where
  mem:=by simp[zFp]
  obj:=λi h ⟨z1,z2,⟨a,b,z3⟩,z4,z5⟩ c hc=>by
    simp only[zFp,AE,Bp,CQ]at hc;rcases hc with rfl|rfl|rfl|rfl|rfl
    · exact z4.obj
    · exact z5.obj
    · exact⟨_,z2,λv z=>by cases z⟩
    · exact⟨_,z3,λv z=>by cases z⟩
    · exact⟨_,z1,λv z=>by cases z⟩
  keep:=λi h h2 ⟨z1,z2,⟨a,b,z3⟩,z4,z5⟩ k=>⟨k _ (by simp[zFp]) _ z1,k _ (by simp[zFp]) _ z2,⟨a,b,k _ (by simp[zFp]) _ z3⟩,z4.at' λo e=>k _ (by simp[zFp]) o e,z5.at' λo e=>k _ (by simp[zFp]) o e⟩
  item:=by
    intro X hP hw hK hc i pI s Y H E Iv hf ⟨z1,z2,⟨a,b,z3⟩,z4,z5⟩ ⟨xs,ys,x,y,q1,q2,hx,hy⟩;subst hP hw hK;obtain⟨us,rx,sx,_⟩:=HZ Iv q1;obtain⟨vs,ry,sy,_⟩:=HZ Iv q2;obtain⟨u,hu,ru⟩:=rx.get hx;obtain⟨v,hv,rv⟩:=ry.get hy;have hT:s.TypeIs (.ref (I+4)) "zip" := ⟨_,z1,rfl⟩;have calm:X.A.in1.handled=Af:=Iv.ok.hd hc;show AC _ _ (HL _) _ _ _;simp only[HL];refine Am (wpAny_attempt (CF hT FP (EC FP hT Ww (Y_2 (k:=i) b1 b2 (Kv calm t1 I l1 (Bi b1) us.toArray) (Kv calm t2 (I+1) l2 (Bi (Do b2)) vs.toArray) z1 z2 z3 ⟨z4,sx⟩ ⟨z5,sy⟩
      (by have:=(AU.mp hu).1;simpa using this) (by have:=(AU.mp hv).1;simpa using this) λx' y' h2 tk px py c1 c2 c3 c4 c5 kp=>AD ?_) (Ws _))))
    have ex:x'=u:=by
      have px':us[i]?=Ab x':=by simpa using px
      rw[hu]at px';exact(Bh px').symm
    have ey:y'=v:=by
      have py':vs[i]?=Ab y':=by simpa using py
      rw[hv]at py';exact(Bh py').symm
    subst ex ey;refine⟨_,rfl,wpAny_letOwnedTupleGo_zip c1 λh3 d1 sb=>?_⟩
    have lt4:I+4<s.heap.objs.size:=AI z1;have kp3:∀ c o,c∉zFp I->s.heap.get? c=Ab o->h3.get? c=Ab o:=λc o nc q=>by
      simp only[zFp,AE,Bp,CQ,EL]at nc;exact sb.extBut c o nc.2.2.2.2 (kp c o (by simp only[AE,Bp,CQ,EL];exact⟨nc.1,nc.2.1,nc.2.2.2.1,nc.2.2.2.2⟩) q)
    have nT:∀ c∈zFp I,c≠s.heap.objs.size:=λc hc z=>by
      have:c<=I+4:=by
        simp only[zFp,AE,Bp,CQ]at hc;rcases hc with z|z|z|z|z<;>rw[z]<;>simp
      exact absurd (z ▸ Gp this lt4) (Bt _)
    have I1:Inv X pI Y (upd H s.heap.objs.size (.tup [x,y])) { s with heap:=s.heap.push { cls:=.type "tuple",data:=.seq #[x',y'] },toks:=s.toks }:=
      Iv.laid (λ_ _ q=>Ar _ q) (AR _) ⟨(by decide:2<=sizeLine),[x',y'],.cons ru (.cons rv .nil),⟨_,AH _ rfl,rfl,_,rfl⟩⟩
    have hf':∀ b∈zFp I,Gh X pI (upd H s.heap.objs.size (.tup [x,y])) b:=λb hb=>⟨by rw[CK (nT b hb)];exact(hf b hb).1,(hf b hb).2⟩
    have I2:Inv X pI Y (upd H s.heap.objs.size (.tup [x,y])) {s with heap:=h3,toks:=tk}:=Inv.turnedL (s:={ s with heap:=s.heap.push { cls:=.type "tuple",data:=.seq #[x',y'] },toks:=s.toks }) (zFp I) I1 (λc o nc q=>by
      rcases WD q with ⟨e1,e2⟩|e1
      · subst e1 e2;exact sb.extBut _ _ (Er lt4) c5
      · exact kp3 c o nc e1) hf'
    refine⟨.ref s.heap.objs.size,_,I2,rfl,⟨s.heap.objs.size,x,y,Iv.fresh,rfl,λzs hz=>by rw[Nv Iv hz q1];exact hx,λzs hz=>by rw[Nv Iv hz q2];exact hy,rfl⟩,⟨d1,sb.extBut _ _ (nij (by decide)) (kp _ _ (by simp) z2),⟨_,_,sb.extBut _ _ (nij (by decide)) c2⟩,c3.1.at' λo q=>sb.extBut _ o (DV (ni0 (by decide))) q,c4.1.at' λo q=>sb.extBut _ o (nij (by decide)) q⟩,λb hb=>(hf' b hb).1⟩
  done:=by
    intro X hP hw hK hc i pI s Y H E Iv hf ⟨z1,z2,⟨a,b,z3⟩,z4,z5⟩ ⟨xs,ys,q1,q2,hk⟩;subst hP hw hK;obtain⟨us,rx,sx,_⟩:=HZ Iv q1;obtain⟨vs,ry,sy,_⟩:=HZ Iv q2;have hT:s.TypeIs (.ref (I+4)) "zip" := ⟨_,z1,rfl⟩;have calm:X.A.in1.handled=Af:=Iv.ok.hd hc;have e1:=rx.length;have e2:=ry.length;simp only[HL];refine Am (wpAny_attempt (CF hT FP (EC FP hT Ww (bJ (k:=i) b1 b2 (Kv calm t1 I l1 (Bi b1) us.toArray) (Kv calm t2 (I+1) l2 (Bi (Do b2)) vs.toArray) z1 z2 z3 ⟨z4,sx⟩ ⟨z5,sy⟩
      (by simp only[Az];omega) λh2 e tk kp he=>?_) (Ws _))))
    obtain⟨o,ho,hcl⟩:=he;refine Am (wpAny_isInstance (T := "StopIteration") (b:=Aa) ⟨o,ho,hcl⟩ isSubtype_stop (AD ⟨rfl,Inv.turnedL [I,I+1,I+3,I+4] Iv (λc o nc q=>kp c o nc q) λc hc=>hf c ?_⟩))
    simp only[AE,Bp,CQ]at hc;simp only[zFp,AE,Bp,CQ];rcases hc with rfl|rfl|rfl|rfl<;>simp
  self:=λ_ _ _ _ _ st h=>Xf st.1 h
section
variable{prog:AM}{w:Ay}{A:A2}{E:Vq}{s:Aq}
noncomputable def itO(t:Ai)(l:Ah):Dp:=match t with
  |true=>{ cls:=.type "tuple_iterator",data:=.fields #[.ref l,.int 0 0] }
  |false=>{ cls:=.type "list_iterator",data:=.fields #[.ref l,.int 0 0] }
theorem Lg{Q:Vq}(h:D9 t s.heap l its)(q:Q (.ref s.heap.objs.size) {s with heap:=s.heap.push (itO t l)}):AC (model prog w) A (KN (.ref l)) Q E s:=by
 cases t with
 |true=>exact Gs h q
 |false=>exact En h q
theorem D9.push(z:D9 t h l its)(o:Dp):D9 t (h.push o) l its:=by
 cases t with
 |true=>exact PySem.Heap.IsTuple.at z λ_ e=>Ar _ e
 |false=>exact PySem.Heap.IsList.at z λ_ e=>Ar _ e
theorem OP{j:Ah}(e:h.get? j=Ab (itO t l)):Em t h j l 0:=by
 cases t with
 |true=>exact⟨_,e,rfl,rfl⟩
 |false=>exact⟨_,e,rfl,rfl⟩
theorem N4(t:Ai)(l:Ah):(itO t l).isFreed=Ae:=by cases t<;>rfl
noncomputable abbrev zh2(t1 t2:Ai)(h:AJ)(l1 l2:Ah):AJ:=(h.push (itO t1 l1)).push (itO t2 l2)
noncomputable abbrev zh3(t1 t2:Ai)(h:AJ)(l1 l2:Ah):AJ:=(zh2 t1 t2 h l1 l2).push { cls:=.type "tuple",data:=.seq #[.ref h.objs.size,.ref (h.push (itO t1 l1)).objs.size] }
noncomputable abbrev zh4(t1 t2:Ai)(h:AJ)(l1 l2:Ah):AJ:=(zh3 t1 t2 h l1 l2).push { cls:=.type "tuple",data:=.seq #[.none,.none] }
noncomputable abbrev zh5(t1 t2:Ai)(h:AJ)(l1 l2:Ah):AJ:=(zh4 t1 t2 h l1 l2).push { cls:=.type "zip",data:=.fields #[.none,.bool Ae,.bool Ae,.ref (zh2 t1 t2 h l1 l2).objs.size,.ref (zh3 t1 t2 h l1 l2).objs.size] }
theorem bH(t1 t2:Ai)(l1 l2:Ah)(xs ys:Bb Aj):Meets (Builtin.«zip.__new__» ⟨[.type "zip",.ref l1,.ref l2],[]⟩) (λ_ R s=>D9 t1 s.heap l1 xs/\D9 t2 s.heap l2 ys/\R (.ok (.ret (.ref (zh4 t1 t2 s.heap l1 l2).objs.size))) {s with heap:=zh5 t1 t2 s.heap l1 l2}):=
 .of_wp λprog w A R s h=>by
  obtain⟨hp,g,d,tk,os⟩:=s;obtain⟨a1,a2,q⟩:=h;have hsub:=sub_zip;have L1:D9 t1 (IU ⟨hp,g,d,tk,os⟩) l1 xs:=a1;have L2:D9 t2 (IU ⟨hp.push (itO t1 l1),g,d,tk,os⟩) l2 ys:=a2.push _
  wp_walk using Lg L1,Lg L2
  exact⟨_,rfl,q⟩
theorem Y_3{t1 t2:Ai}{l1 l2:Ah}{xs ys:Bb Aj}{Q:Vq}(a1:D9 t1 s.heap l1 xs)(a2:D9 t2 s.heap l2 ys)(q:∀ h2,zTn t1 t2 s.heap.objs.size l1 l2 0 h2->(∀ c o,s.heap.get? c=Ab o->h2.get? c=Ab o)->Q (.ref (s.heap.objs.size+4)) {s with heap:=h2}):AC (model prog w) A (call (.type "zip") [.ref l1,.ref l2]) Q E s:=by
 refine callType_new F.called_zip (by decide) (F.typeCall_zip_2 _ _) (F.newCall_zip_2 _ _) (λobj=>F.args_object_init_3 obj _ _) F.entry_zip_new (bH t1 t2 l1 l2 xs ys) ⟨a1,a2,?_⟩
 have s1:(s.heap.push (itO t1 l1)).objs.size=s.heap.objs.size+1:=BR ..;have s2:(zh2 t1 t2 s.heap l1 l2).objs.size=s.heap.objs.size+2:=by rw[BR,s1]
 have s3:(zh3 t1 t2 s.heap l1 l2).objs.size=s.heap.objs.size+3:=by rw[BR,s2]
 have s4:(zh4 t1 t2 s.heap l1 l2).objs.size=s.heap.objs.size+4:=by rw[BR,s3]
 have u5:∀ {c o},(zh4 t1 t2 s.heap l1 l2).get? c=Ab o->(zh5 t1 t2 s.heap l1 l2).get? c=Ab o:=λe=>Ar _ e
 have u4:∀ {c o},(zh3 t1 t2 s.heap l1 l2).get? c=Ab o->(zh5 t1 t2 s.heap l1 l2).get? c=Ab o:=λe=>u5 (Ar _ e)
 have u3:∀ {c o},(zh2 t1 t2 s.heap l1 l2).get? c=Ab o->(zh5 t1 t2 s.heap l1 l2).get? c=Ab o:=λe=>u4 (Ar _ e)
 have u2:∀ {c o},(s.heap.push (itO t1 l1)).get? c=Ab o->(zh5 t1 t2 s.heap l1 l2).get? c=Ab o:=λe=>u3 (Ar _ e)
 have g5:(zh5 t1 t2 s.heap l1 l2).get? (zh4 t1 t2 s.heap l1 l2).objs.size=Ab _:=AH _ rfl;have g4:(zh5 t1 t2 s.heap l1 l2).get? (zh3 t1 t2 s.heap l1 l2).objs.size=Ab _:=u5 (AH _ rfl);have g3:(zh5 t1 t2 s.heap l1 l2).get? (zh2 t1 t2 s.heap l1 l2).objs.size=Ab _:=u4 (AH _ rfl);have g2:(zh5 t1 t2 s.heap l1 l2).get? (s.heap.push (itO t1 l1)).objs.size=Ab _:=u3 (AH _ (N4 _ _));have g1:(zh5 t1 t2 s.heap l1 l2).get? s.heap.objs.size=Ab _:=u2 (AH _ (N4 _ _));show _/\_;rw[s2,s3,s4]at g5;rw[s3]at g4;rw[s1,s2]at g3;rw[s1]at g2;rw[s4];exact⟨⟨_,g5,rfl⟩,q _ ⟨g5,g3,⟨_,_,g4⟩,OP g1,OP g2⟩ λc o e=>u2 (Ar _ e)⟩
end
def Xm(K:Fg)(ta:TA):TI:=λY H R=>ta Y H λvs H1=>∃ t1 t2 a b xs ys,vs=[.ref a,.ref b]/\SqX t1 K H1 a xs/\SqX t2 K H1 b ys/\(xs.length<=sizeLine->R (Itz K t1 t2 a b) H1)
theorem D9.lt(z:D9 t h a its):a<h.objs.size:=by
 cases t with
 |true=>obtain⟨o,e,_⟩:=z;exact AI e
 |false=>obtain⟨o,e,_⟩:=z;exact AI e
theorem lU{a b:Al}(hg:Gl X "zip")(hm:X.mg "zip" = Af)(ha:PA X [a,b] ta)(hs:Av [a,b] X.env=[(Ae,eval a X.env),(Ae,eval b X.env)])(hs2:Av [b] X.env=[(Ae,eval b X.env)]):
  PI X (.Tuple es n tpos) (.Call (.Name "zip" p) [a,b] [] pos) (Xm X.K ta):=by
 intro pI s Y H R I h;refine Call_ (Jo I hg hm PyProof.Rows.boot_zip (CS (thn (ha pos pI s Y H _ I h) λus s1 ⟨vs,H1,I1,r1,q1⟩=>?_) (by rw[hs,hs2]) (by rw[hs2];rfl)))
 obtain⟨t1,t2,c,d,xs,ys,e,sx,sy,q⟩:=q1;subst e;cases r1 with
 |cons r rr=>
  cases rr with
  |cons r' rr=>
   cases rr;cases r;cases r';obtain⟨us,ru,iu,zu⟩:=HZ I1 sx;obtain⟨vs,rv,iv,_⟩:=HZ I1 sy;refine Y_3 iu iv λh2 z kp=>Xf z.1 ?_
   refine⟨s1.heap.objs.size+4,zFp s1.heap.objs.size,_,_,H1,rfl,I1.kept (t':=s1.toks) kp,YU t1 t2 s1.heap.objs.size c d iu.lt iv.lt,z,λb hb=>?_,q zu⟩
   have hb':s1.heap.objs.size<=b:=by
    simp only[zFp,AE,Bp,CQ]at hb;rcases hb with z|z|z|z|z<;>rw[z]<;>simp
   exact I1.fpOk hb' (I1.hok.fresh hb')
theorem OT{ds:Ac D}(r:Rep K CL H A v d)(e:Cm d=.ok ds):∃ t a xs,v=.ref a/\(∀ H2,Kp A H H2->SqX t K H2 a xs)/\Reps K CL H A xs ds:=by
 cases d with
 |lst es=>
  cases e;obtain⟨q,xs,rfl,na,sq,r⟩:=r;exact⟨Ae,q,xs,rfl,λH2 k=>Mc k na sq,r⟩
 |tup es=>
  cases e;obtain⟨q,xs,rfl,na,sq,r⟩:=r;exact⟨Aa,q,xs,rfl,λH2 k=>Ke k na sq,r⟩
 |_=>cases e
theorem NK:∀(xs ys:Ac D),(Fh xs ys).length=min xs.length ys.length
 |[],_=>by simp[Fh]
 |_::_,[]=>by simp[Fh]
 |x::xs,y::ys=>by
  rw[Fh,Bj,NK xs ys];simp only[Bj];omega
theorem QN:∀(xs ys:Ac D)(i:Ag)(d:D),(Fh xs ys)[i]?=Ab d->∃ x y,xs[i]?=Ab x/\ys[i]?=Ab y/\d=.tup [x,y]
 |[],_,i,d,h=>by simp[Fh]at h
 |_::_,[],i,d,h=>by simp[Fh]at h
 |x::xs,y::ys,0,d,h=>by
  rw[Fh]at h;simp only[Vn,Ci]at h;exact⟨x,y,rfl,rfl,h.symm⟩
 |x::xs,y::ys,i+1,d,h=>by
  rw[Fh]at h;simp only[Vm]at h ⊢;exact QN xs ys i d h
theorem Y_4{t1 t2:Ai}{ys:Ac V}{ds es:Ac D}(s1:∀ H2,Kp A H1 H2->SqX t1 K H2 a xs)(s2:∀ H2,Kp A H1 H2->SqX t2 K H2 b ys)(r1:Reps K CL H1 A xs ds)(r2:Reps K CL H1 A ys es):Ie K CL A (Fh ds es) (Itz K t1 t2 a b) H1:=λH k i=>by
 refine⟨λhi=>⟨xs,ys,s1 H k,s2 H k,?_⟩,λd hd=>?_⟩
 .rw[NK]at hi;rw[r1.length,r2.length];omega
 .obtain⟨x,y,hx,hy,rfl⟩:=QN _ _ _ _ hd;obtain⟨u,hu,ru⟩:=r1.get hx;obtain⟨v,hv,rv⟩:=r2.get hy;refine⟨⟨xs,ys,u,v,s1 H k,s2 H k,hu,hv⟩,?_⟩;rintro w' H' ⟨p,x',y',hp,rfl,c1,c2,rfl⟩;have ex:x'=u:=Bh ((c1 xs (s1 H k)).symm.trans hu);have ey:y'=v:=Bh ((c2 ys (s2 H k)).symm.trans hv);subst ex ey;have sm:=Fe hp (.tup [x',y']);exact⟨sm,λB hB aB=>Ji aB hp ⟨K0 ru k hB,K0 rv k hB,trivial⟩⟩
section
variable{X:Cx}{CL:ClA}{W:XW}{pos p:AK}{a b:Al}{fa fb:Rho->R D}
theorem jC(ha:SE X CL W a fa)(hb:SE X CL W b fb)(hg:Gl X "zip")(hm:X.mg "zip" = Af)(hs:Av [a,b] X.env=[(Ae,eval a X.env),(Ae,eval b X.env)])(hs2:Av [b] X.env=[(Ae,eval b X.env)]):
  SI X CL W (.Tuple es n tpos) (.Call (.Name "zip" p) [a,b] [] pos) (λZ=>(fa Z).bind λx=>(fb Z).bind λy=>(Cm x).bind λxs=>(Cm y).bind λys=>.ok (Fh xs ys)):=
 λA=>PI.weak (lU hg hm (ED (ha A) (ED (hb A) FX hs2) (by rw[hs,hs2])) hs hs2) λY H R ⟨hA,Z,g,q⟩=>⟨hA,Z,g,EH.ex q λd v H1 _ s1 r1 p1=>⟨hA.same s1,Z,g.same s1,EH.ex p1 λd2 v2 H2 _ s2 r2 p2=>by
  cases e1:Cm d with
  |bad=>rw[e1]at p2;exact p2.elim
  |exn z=>exact absurd e1 (by cases d<;>simp[Cm])
  |ok ds=>
   cases e2:Cm d2 with
   |bad=>rw[e1,e2]at p2;exact p2.elim
   |exn z=>exact absurd e2 (by cases d2<;>simp[Cm])
   |ok es=>
    rw[e1,e2]at p2;obtain⟨t1,c1,xs,rfl,k1,rs1⟩:=OT (r1.same s2) e1;obtain⟨t2,c2,ys,rfl,k2,rs2⟩:=OT r2 e2;refine⟨t1,t2,c1,c2,xs,ys,rfl,k1 H2 (Kp.of (AB.refl H2)),k2 H2 (Kp.of (AB.refl H2)),λhz=>p2 _ H2 (AB.refl H2) (Y_4 k1 k2 rs1 rs2) ?_⟩
    rw[NK,<-rs1.length];omega⟩⟩
end
theorem Em.live{l:Ag}(z:Em t h j l i):∃ o,h.get? j=Ab o/\∀ v,o.data≠.cell v:=by
 cases t with
 |true=>obtain⟨o,e,c,d⟩:=z;exact⟨o,e,λv z=>by rw[d]at z;cases z⟩
 |false=>obtain⟨o,e,c,d⟩:=z;exact⟨o,e,λv z=>by rw[d]at z;cases z⟩
theorem Em.keep{l:Ag}(z:Em t h j l i)(k:∀ o,h.get? j=Ab o->h2.get? j=Ab o):Em t h2 j l i:=by
 cases t with
 |true=>exact PySem.Heap.IsTupleIter.at z k
 |false=>exact PySem.Heap.IsListIter.at z k
theorem nQ{A:A2}(calm:A.handled=Af)(t:Ai)(j l:Ah)(ne:l≠j)(its:Bb Aj):Draws prog w A j [j,l] its.size (λi v=>its[i]?=Ab v) (λi h=>Em t h j l i/\D9 t h l its):=
 have d:=Kv (prog:=prog) (w:=w) calm t j l ne its
 ⟨λi h z=>let ⟨o,e,_⟩:=z.1.live;⟨o,e⟩,d.frame,d.item,λs Q E h q=>d.done _ s Q E (AR _) h q⟩
theorem fN{A:A2}(calm:A.handled=Af)(t:Ai)(j l:Ah)(ne:l≠j)(its:Bb Aj)(i:Ag)(hi:its.size<=i):Draws prog w A j [j,l] i (λ_ _=>Bk) (λk h=>k=i/\Em t h j l i/\D9 t h l its):=
 have d:=Kv (prog:=prog) (w:=w) calm t j l ne its
 ⟨λ_ h z=>let ⟨o,e,_⟩:=z.2.1.live;⟨o,e⟩,λk h h' z q=>⟨z.1,d.frame i h h' z.2 q⟩,λk s Q E lt z=>absurd z.1 (Bi lt),λs Q E h q=>d.done i s Q E hi h.2 q⟩
noncomputable def Ite(K:Fg)(t:Ai)(a:Ah):It:=
 ⟨λi H=>∃ xs x,SqX t K H a xs/\xs[i]?=Ab x,λi H v H'=>∃ p x,H p=Af/\v=.ref p/\(∀ xs,SqX t K H a xs->xs[i]?=Ab x)/\H'=upd H p (.tup [.int i,x]),λi H=>∃ xs,SqX t K H a xs/\xs.length<=i⟩
def eTn(t:Ai)(I l:Ag)(i:Ag)(h:AJ):Prop:=(∃ old,IsEnum h (I+1) I i old)/\Em t h I l i
theorem YO(t:Ai)(I l:Ag)(b:l<I):Turn P w K (.Tuple es n pos) (Ite K t l) [I,I+1] (I+1) (eTn t I l) where
  mem:=by simp
  obj:=λi h ⟨⟨old,z1⟩,z2⟩ c hc=>by
    simp only[AE,Bp,CQ]at hc;rcases hc with rfl|rfl
    · exact z2.live
    · exact⟨_,z1,λv z=>by cases z⟩
  keep:=λi h h2 ⟨⟨old,z1⟩,z2⟩ k=>⟨⟨old,k _ (by simp) _ z1⟩,z2.keep λo e=>k _ (by simp) o e⟩
  item:=by
    intro X hP hw hK hc i pI s Y H E Iv hf ⟨⟨old,z1⟩,z2⟩ ⟨xs,x,q1,hx⟩;subst hP hw hK;obtain⟨us,rx,px,_⟩:=HZ Iv q1;obtain⟨u,hu,ru⟩:=rx.get hx;have lu:i<us.toArray.size:=by
      have:=(AU.mp hu).1;simpa using this
    refine wpAny_pyNext_enum_itemD (nQ (A:=X.A.in1) (Iv.ok.hd hc) t I l (Bi b) us.toArray) z1 ⟨z2,px⟩ lu (ni0 (by decide)) (by simp only[AE,Bp,CQ,EL];exact⟨ni0 (by decide),Er (AG b (Nat.le_add_right _ _))⟩) λu' h2 tk hu' ho it2 hT sz kp=>⟨_,rfl,wpAny_letOwnedTupleGo_enum ho λh3 d1 sb=>?_⟩
    have eu:u'=u:=by
      rw[List.getElem?_toArray,hu]at hu';exact(Bh hu').symm
    subst eu;have lt:I+1<s.heap.objs.size:=AI z1;have kp3:∀ c o,c∉[I,I+1]->s.heap.get? c=Ab o->h3.get? c=Ab o:=λc o nc q=>by
      simp only[AE,Bp,CQ,EL]at nc;exact sb.extBut c o nc.2 (kp c o nc.2 nc.1 q)
    have nT:∀ c∈[I,I+1],c≠s.heap.objs.size:=λc hc z=>by
      have:c<=I+1:=by
        simp only[AE,Bp,CQ]at hc;rcases hc with z|z<;>rw[z]<;>simp
      exact absurd (z ▸ Gp this lt) (Bt _)
    have I1:Inv X pI Y (upd H s.heap.objs.size (.tup [.int i,x])) { s with heap:=s.heap.push { cls:=.type "tuple",data:=.seq #[.int i tk,u'] },toks:=s.toks }:=
      Iv.laid (λ_ _ q=>Ar _ q) (AR _) ⟨(by decide:2<=sizeLine),[.int i tk,u'],.cons ⟨_,rfl⟩ (.cons ru .nil),⟨_,AH _ rfl,rfl,_,rfl⟩⟩
    have hf':∀ b∈[I,I+1],Gh X pI (upd H s.heap.objs.size (.tup [.int i,x])) b:=λb hb=>⟨by rw[CK (nT b hb)];exact(hf b hb).1,(hf b hb).2⟩
    have I2:Inv X pI Y (upd H s.heap.objs.size (.tup [.int i,x])) {s with heap:=h3,toks:=tk+1}:=Inv.turnedL (s:={ s with heap:=s.heap.push { cls:=.type "tuple",data:=.seq #[.int i tk,u'] },toks:=s.toks }) [I,I+1] I1 (λc o nc q=>by
      rcases WD q with ⟨e1,e2⟩|e1
      · subst e1 e2;exact sb.extBut _ _ (Er lt) hT
      · exact kp3 c o nc e1) hf'
    exact⟨.ref s.heap.objs.size,_,I2,rfl,⟨s.heap.objs.size,x,Iv.fresh,rfl,λzs hz=>by rw[Nv Iv hz q1];exact hx,rfl⟩,⟨⟨u',by simpa using d1⟩,it2.1.keep λo q=>sb.extBut _ o (DV (ni0 (by decide))) q⟩,λb hb=>(hf' b hb).1⟩
  done:=by
    intro X hP hw hK hc i pI s Y H E Iv hf ⟨⟨old,z1⟩,z2⟩ ⟨xs,q1,hk⟩;subst hP hw hK;obtain⟨us,rx,px,_⟩:=HZ Iv q1;have e1:=rx.length;have e2:us.toArray.size<=i:=by rw[Az,<-e1];exact hk
    refine wpAny_pyNext_enum_endD (fN (A:=X.A.in1) (Iv.ok.hd hc) t I l (Bi b) us.toArray i e2) z1 ⟨rfl,z2,px⟩ λh2 eb=>⟨rfl,Inv.turnedL [I] Iv (t':=s.toks) (λc o nc q=>eb c o (λz=>nc (by simp[z])) q) λc hc=>hf c ?_⟩
    have:c=I:=by simpa using hc
    subst this;simp
  self:=λ_ _ _ _ _ st h=>Xe st.1.choose_spec h
section
variable{prog:AM}{w:Ay}{A:A2}{E:Vq}{s:Aq}
theorem ZY(t:Ai)(l:Ah)(xs:Bb Aj):Meets (Builtin.«enumerate.__new__» ⟨[.type "enumerate",.ref l],[]⟩) (λ_ R s=>D9 t s.heap l xs /\
   R (.ok (.ret (.ref (s.heap.push (itO t l)).objs.size))) { s with heap:=(s.heap.push (itO t l)).push { cls:=.type "enumerate",data:=.fields #[.none,.bool Ae,.ref s.heap.objs.size,D4 0,.none,.none] } }):=
 .of_wp λprog w A R s h=>by
  obtain⟨hp,g,d,tk,os⟩:=s;obtain⟨hl,h⟩:=h;have hsub:=sub_enumerate;have hL:D9 t (IU ⟨hp,g,d,tk,os⟩) l xs:=hl
  wp_walk
  refine wpAny_stack_any λst=>AD ?_
  split
  .rename_i c _ _ _ _ _;cases (c==WV "enumerate")
   .wp_walk using Lg hL
    exact⟨_,rfl,h⟩
   .wp_walk using Lg hL
    exact⟨_,rfl,h⟩
  .wp_walk using Lg hL
   exact⟨_,rfl,h⟩
theorem Zc{xs:Bb Aj}{Q:Vq}(hL:D9 t s.heap l xs)(h:∀ h',IsEnum h' (s.heap.objs.size+1) s.heap.objs.size 0 .none->Em t h' s.heap.objs.size l 0->(∀ b o,s.heap.get? b=Ab o->h'.get? b=Ab o)->Q (.ref (s.heap.objs.size+1)) {s with heap:=h'}):
    AC (model prog w) A (call (.type "enumerate") [.ref l]) Q E s:=by
  refine callType_new F.called_enumerate (by decide) (F.typeCall_enumerate_1 _) (F.newCall_enumerate_1 _) (λobj=>F.args_object_init_2 obj _) F.entry_enumerate_new (ZY t l xs) ⟨hL,?_⟩
  have hz:(s.heap.push (itO t l)).objs.size=s.heap.objs.size+1:=BR ..;show _/\_;rw[hz];have he:IsEnum ((s.heap.push (itO t l)).push { cls:=.type "enumerate",data:=.fields #[.none,.bool Ae,.ref s.heap.objs.size,D4 0,.none,.none] }) (s.heap.objs.size+1) s.heap.objs.size 0 .none:=by
    have:=AH (s.heap.push (itO t l)) (o:={ cls:=.type "enumerate",data:=.fields #[.none,.bool Ae,.ref s.heap.objs.size,D4 0,.none,.none] }) rfl;rw[hz]at this;exact this
  exact⟨⟨_,he,rfl⟩,h _ he (OP (Ar _ (AH _ (N4 _ _)))) λb o x=>Ar _ (Ar _ x)⟩
end
def Xn(K:Fg)(ta:TA):TI:=λY H R=>ta Y H λvs H1=>∃ t a xs,vs=[.ref a]/\SqX t K H1 a xs/\(xs.length<=sizeLine->R (Ite K t a) H1)
theorem cQ{a:Al}(hg:Gl X "enumerate")(hm:X.mg "enumerate" = Af)(ha:PA X [a] ta)(hs:Av [a] X.env=[(Ae,eval a X.env)]):
  PI X (.Tuple es n tpos) (.Call (.Name "enumerate" p) [a] [] pos) (Xn X.K ta):=by
 intro pI s Y H R I h;refine Call_ (Jo I hg hm PyProof.Rows.boot_enumerate (CS (thn (ha pos pI s Y H _ I h) λus s1 ⟨vs,H1,I1,r1,q1⟩=>?_) hs rfl))
 obtain⟨t,c,xs,e,sx,q⟩:=q1;subst e;cases r1 with
 |cons r rr=>
  cases rr;cases r;obtain⟨us,ru,pu,zu⟩:=HZ I1 sx;refine Zc pu λh2 z1 z2 kp=>Xe z1 ?_
  refine⟨s1.heap.objs.size+1,[s1.heap.objs.size,s1.heap.objs.size+1],_,_,H1,rfl,I1.kept (t':=s1.toks) kp,YO t s1.heap.objs.size c pu.lt,⟨⟨_,z1⟩,z2⟩,λb hb=>?_,q zu⟩
  have hb':s1.heap.objs.size<=b:=by
   simp only[AE,Bp,CQ]at hb;rcases hb with z|z<;>rw[z]<;>simp
  exact I1.fpOk hb' (I1.hok.fresh hb')
theorem N8:∀(j:Ad)(xs:Ac D),(El j xs).length=xs.length
 |_,[]=>rfl
 |j,x::xs=>by rw[El,Bj,N8,Bj]
theorem Rh:∀(xs:Ac D)(j:Ad)(i:Ag)(d:D),(El j xs)[i]?=Ab d->∃ x,xs[i]?=Ab x/\d=.tup [.int (j+i),x]
 |[],j,i,d,h=>by simp[El]at h
 |x::xs,j,0,d,h=>by
  rw[El]at h;simp only[Vn,Ci]at h;exact⟨x,rfl,by rw[<-h];simp⟩
 |x::xs,j,i+1,d,h=>by
  rw[El]at h;simp only[Vm]at h ⊢;obtain⟨y,h1,h2⟩:=Rh xs (j+1) i d h;exact⟨y,h1,by rw[h2];congr 3;omega⟩
theorem YM{ds:Ac D}(sq:∀ H2,Kp A H1 H2->SqX t K H2 a xs)(r1:Reps K CL H1 A xs ds):Ie K CL A (El 0 ds) (Ite K t a) H1:=λH k i=>by
 have s1:=sq H k;refine⟨λhi=>⟨xs,s1,?_⟩,λd hd=>?_⟩
 .rw[N8]at hi;rw[r1.length];exact hi
 .obtain⟨x,hx,rfl⟩:=Rh _ _ _ _ hd;obtain⟨u,hu,ru⟩:=r1.get hx;refine⟨⟨xs,u,s1,hu⟩,?_⟩;rintro w' H' ⟨p,x',hp,rfl,c1,rfl⟩;have ex:x'=u:=Bh ((c1 xs s1).symm.trans hu);subst ex;rw[CW];exact⟨Fe hp (.tup [.int i,x']),λB hB aB=>Ji aB hp ⟨rfl,K0 ru k hB,trivial⟩⟩
section
variable{X:Cx}{CL:ClA}{W:XW}{pos p:AK}{a:Al}{fa:Rho->R D}
theorem bG(ha:SE X CL W a fa)(hg:Gl X "enumerate")(hm:X.mg "enumerate" = Af)(hs:Av [a] X.env=[(Ae,eval a X.env)]):
  SI X CL W (.Tuple es n tpos) (.Call (.Name "enumerate" p) [a] [] pos) (λZ=>(fa Z).bind λx=>(Cm x).bind λxs=>.ok (El 0 xs)):=
 λA=>PI.weak (cQ hg hm (ED (ha A) FX hs) hs) λY H R ⟨hA,Z,g,q⟩=>⟨hA,Z,g,EH.ex q λd v H1 _ s1 r1 p1=>by
  cases e1:Cm d with
  |bad=>rw[e1]at p1;exact p1.elim
  |exn z=>exact absurd e1 (by cases d<;>simp[Cm])
  |ok ds=>
   rw[e1]at p1;obtain⟨t,c,xs,rfl,k1,rs⟩:=OT r1 e1;exact⟨t,c,xs,rfl,k1 H1 (Kp.of (AB.refl H1)),λhz=>p1 _ H1 (AB.refl H1) (YM k1 rs) (by rw[N8,<-rs.length];exact hz)⟩⟩
end
noncomputable abbrev UK(h:AJ)(z TI TO:Ah)(f0 f1:Aj):Prop:=h.get? z=Ab { cls:=.type "zip",dict:=Af,data:=.fields #[f0,f1,.bool Ae,.ref TI,.ref TO],slots:=#[] }
noncomputable abbrev UL(h:AJ)(T:Ah)(a b c:Aj):Prop:=h.get? T=Ab { cls:=.type "tuple",data:=.seq #[a,b,c] }
section
variable{prog:AM}{w:Ay}{A:A2}{E:Vq}{s:Aq}
def Z_3(t1 t2 t3:Ai)(I l1 l2 l3 i:Ag)(h:AJ):Prop:=UL h (I+3) (.ref (I+0)) (.ref (I+1)) (.ref (I+2))/\Em t1 h (I+0) l1 i/\Em t2 h (I+1) l2 i/\Em t3 h (I+2) l3 i/\(∃ a b c,UL h (I+4) a b c) /\
 (UK h (I+5) (I+3) (I+4) .none (.bool Ae)\/∃(T1:Ag)(f1:Ai),UK h (I+5) (I+3) (I+4) (D4 T1) (.bool f1))
end
section
variable{prog:AM}{w:Ay}{A:A2}{R:Io->Aq->Prop}
theorem D9.at'(z:D9 t h l its)(k:∀ o,h.get? l=Ab o->h2.get? l=Ab o):D9 t h2 l its:=by
 cases t with
 |true=>exact PySem.Heap.IsTuple.at z k
 |false=>exact PySem.Heap.IsList.at z k
theorem Z_3.at'{t1 t2 t3:Ai}{I l1 l2 l3 i:Ag}{h h2:AJ}(z:Z_3 t1 t2 t3 I l1 l2 l3 i h)(k:∀ j,j<=5->∀ o,h.get? (I+j)=Ab o->h2.get? (I+j)=Ab o):Z_3 t1 t2 t3 I l1 l2 l3 i h2:=by
 obtain⟨zI,i1,i2,i3,⟨a,b,c,hO⟩,zz⟩:=z;exact⟨k 3 (by decide) _ zI,i1.at' λo q=>k 0 (by decide) o q,i2.at' λo q=>k 1 (by decide) o q,i3.at' λo q=>k 2 (by decide) o q,⟨a,b,c,k 4 (by decide) _ hO⟩,zz.imp (k 5 (by decide) _) λ⟨T1,f1,hz⟩=>⟨T1,f1,k 5 (by decide) _ hz⟩⟩
end
section
variable{prog:AM}{w:Ay}{A:A2}{E:Vq}{s:Aq}
end
theorem Z_3.ty{t1 t2 t3:Ai}{I l1 l2 l3 i:Ag}(z:Z_3 t1 t2 t3 I l1 l2 l3 i s.heap):s.TypeIs (.ref (I+5)) "zip" := by
 obtain⟨_,_,_,_,_,hz|⟨_,_,hz⟩⟩:=z
 .exact⟨_,hz,rfl⟩
 .exact⟨_,hz,rfl⟩
theorem Z_3.lt{t1 t2 t3:Ai}{I l1 l2 l3 i:Ag}(z:Z_3 t1 t2 t3 I l1 l2 l3 i s.heap):I+5<s.heap.objs.size:=by
 obtain⟨o,h,_⟩:=z.ty;exact AI h
section
variable{prog:AM}{w:Ay}{A:A2}{E:Vq}{s:Aq}
end
section
variable{X:Cx}{CL:ClA}{W:XW}{pos p pos' p':AK}{a b c:Al}{fa fb fc:Rho->R D}
end
section
variable{X:Cx}{CL:ClA}{W:XW}{pos p tpos:AK}{a b c:Al}{fa fb fc:Rho->R D}{x:Ak}
end
section
variable{X:Cx}{CL:ClA}{W:XW}{a:Al}{fa:Rho->R D}
end
section
variable{X:Cx}{CL:ClA}{W:XW}{o o' e:Al}{fe:Rho->R D}{i j:Ag}{apos cpos apos' cpos' pos:AK}
end
section
variable{X:Cx}{CL:ClA}{W:XW}
end
section
variable{X:Cx}
variable{CL:ClA}{W:XW}{pos p pos' p':AK}{a b:Al}{fa fb:Rho->R D}
end
section
variable{X:Cx}{CL:ClA}{W:XW}{e o o' k l:Al}{fe:Rho->R Ov.D}{i ik il:Ag}{pos spos spos' tpos:AK}{kt:Ag}
end
section
variable{prog:AM}{w:Ay}{A:A2}{E:Vq}{s:Aq}
theorem Qm{it t:Ah}{items:Bb Aj}(hne:t≠it):∀(n i:Ag)(s:Aq)(Q:Ac Aj->Aq->Prop),s.heap.IsListIter it t i->s.heap.IsList t items->i+n<=items.size->(∀ h',h'.IsListIter it t (i+n)->D0 it s.heap h'->Q ((items.toList.drop i).take n) {s with heap:=h'})->AC (model prog w) A (draw (.ref it) n) Q E s
 |0,i,s,Q,hit,_,_,hQ=>by
  show AC _ _ (pure []) Q E s;exact AD (by simpa using hQ s.heap hit (WC ..))
 |n+1,i,s,Q,hit,ht,hle,hQ=>by
  have hlt:i<items.size:=by omega
  show AC _ _ (HL (.ref it) >>= _) Q E s;refine Am (Xh hit ht (x:=items[i]) (by simp[hlt]) λh₁ hit₁ hs₁=>?_)
  refine Am (Cz (Qm hne n (i+1) _ _ hit₁ (ht.extBut hs₁.extBut hne) (by omega) λh₂ hit₂ hs₂=>AD ?_))
  have hd:items.toList.drop i=items[i]::items.toList.drop (i+1):=by simp[EW,hlt]
  have:=hQ h₂ (by rw[show i+(n+1)=i+1+n by omega];exact hit₂) (hs₁.trans hs₂)
  rw[hd,List.take_succ_cons]at this;exact this
theorem X5{t:Ah}{Q:Ac Aj->Aq->Prop}(hh:A.handled=Af)(ht:s.heap.IsList t items)(hQ:∀ h',Ho s.heap.objs.size s.heap h'->Q items.toList {s with heap:=h'}):AC (model prog w) A (unpackItems (.ref t) items.size Af) Q E s:=by
 have hlt:t≠s.heap.objs.size:=by obtain⟨o,ho,_⟩:=ht;exact Bi (AI ho)
 have htp:(s.heap.push { cls:=.type "list_iterator",data:=.fields #[.ref t,.int 0 0] }).IsList t items:=by
  obtain⟨o,ho,r⟩:=ht;exact⟨o,Ar _ ho,r⟩
 unfold unpackItems;refine Am ?_
 .unfold notIterableAtAll;refine Am (wpAny_specialOf ht.typeIs slot_list_iter.lookup ?_);refine AD ?_;simp only[U_2,Ii];refine Am (Cz (En ht ?_));refine Am (Cz (Qm hlt items.size 0 _ _ ⟨_,AH _ rfl,rfl,rfl⟩ htp (by omega) λh₁ hit₁ hs₁=>?_))
  have hall:List.take items.size (List.drop 0 items.toList)=items.toList:=by
   rw[Vi];exact Ei (by simp)
  rw[hall];rw[AF (by simp)]
  have ht₁:h₁.IsList t items:=htp.extBut hs₁.extBut hlt;refine Am (Cz (Xg hh hit₁ ht₁ (by simp) λh₂ he₂=>?_))
  simp only[Option.isSome_none,U_2,Ii];refine AD (hQ h₂ λb o hb e=>he₂ b o hb (hs₁.extBut b o hb (Ar _ e)))
theorem X8{elts:Ac Al}{x1}{t:Ah}{Q:Hr->Aq->Prop}(hh:A.handled=Af)(ht:s.heap.IsList t items) (hn:(B5 elts env).length=items.size) (hstar:(B5 elts env).findIdx? (·.1)=Af) (h:∀ h',Ho s.heap.objs.size s.heap h'->AC (model prog w) A (assignInOrder ((B5 elts env).map (·.2)) items.toList) Q E {s with heap:=h'}):AC (model prog w) A (assign (.Tuple elts x1 pos) env (.ref t)) Q E s:=by
 rw[assign_Tuple];refine Am (Gy ?_);unfold unpack;rw[hn,hstar];exact Am (Cz (X5 hh ht h))
end
section
variable{X:Cx}{pos:AK}{CL:ClA}
def gSq(K:Fg)(n:Ag)(t:TGs):TG:=λv Y H Q=>Kz K n t v Y H Q\/∃ a xs,v=.ref a/\SqL K H a xs/\xs.length=n/\t xs Y H Q
theorem sB{k:Ag}{t:TGs}(hc:X.calm=Aa)(h:PGs X es t)(hn:(B5 es X.env).length=n)(hst:(B5 es X.env).findIdx? (·.1)=Af):PG X (.Tuple es k pos) (gSq X.K n t):=by
 intro pI s Y H v u Q I r hw;rcases hw with hw|hw
 .exact OA hc h hn hst pI s Y H v u Q I r hw
 .obtain⟨a,xs,e1,hq,hl,hw⟩:=hw;subst e1;cases r;obtain⟨its,rv,ht,hz⟩:=I.list hq;refine X8 (I.ok.hd hc) ht.isList (by simp[hn,<-hl,rv.length]) hst λh' hx=>?_
  have I1:Inv X pI Y H {s with heap:=h'}:=I.kept (t':=s.toks) λb o e=>hx b o (Bi (AI e)) e
  exact h pI _ Y H xs _ Q I1 (by simpa using rv) hw
end
section
variable{X:Cx}{CL:ClA}{W:XW}
end
end Ov
namespace Ov
open PySem PySem.W PyProof.Rows
variable{p:Bb Ag}{m:Ag}
def Kr{α:Type}(lt:Ag->Ag->Ai)(n:Ag):KasT α->(α->Prop)->Prop
 |.ret a,Q=>Q a
 |.ask i j k,Q=>i<n/\j<n/\Kr lt n (k (lt i j)) Q
theorem Kr.mono{α:Type}{lt:Ag->Ag->Ai}{n:Ag}{Q Q':α->Prop}:∀{t:KasT α},Kr lt n t Q->(∀ a,Q a->Q' a)->Kr lt n t Q'
 |.ret _,h,k=>k _ h
 |.ask i j f,h,k=>⟨h.1,h.2.1,Kr.mono (t:=f (lt i j)) h.2.2 k⟩
theorem Kr.bind{α β:Type}{lt:Ag->Ag->Ai}{n:Ag}{f:α->KasT β}{Q:β->Prop}:∀{t:KasT α},Kr lt n t (λa=>Kr lt n (f a) Q)->Kr lt n (t.bind f) Q
 |.ret _,h=>h
 |.ask i j k,h=>⟨h.1,h.2.1,Kr.bind (t:=k (lt i j)) h.2.2⟩
structure Sto (lt:Ag->Ag->Ai) (n:Ag):Prop where
 tr:∀ i j k,i<n->j<n->k<n->lt i j=Aa->lt j k=Aa->lt i k=Aa
 tot:∀ i j,i<n->j<n->i≠j->lt i j=Ae->lt j i=Aa
 asy:∀ i j,i<n->j<n->lt i j=Aa->lt j i=Ae
noncomputable def at0(p:Bb Ag)(x:Ag):Ag:=p.getD x 0
structure Pm (n:Ag) (p:Bb Ag):Prop where
 sz:p.size=n
 lt:∀ x,x<n->at0 p x<n
 inj:∀ x y,x<n->y<n->at0 p x=at0 p y->x=y
section
variable{lt:Ag->Ag->Ai}{n:Ag}
def PF(lt:Ag->Ag->Ai)(p:Bb Ag)(m:Ag):Prop:=∀ x y,x<y->y<m->lt (at0 p x) (at0 p y)=Aa
def Pz(lt:Ag->Ag->Ai)(p:Bb Ag)(m:Ag):Prop:=∀ x y,x<y->y<m->lt (at0 p y) (at0 p x)=Aa
theorem PF.succ(S:Sto lt n)(hp:Pm n p)(h1:1<=m)(hm:m<n)(h:PF lt p m)(e:lt (at0 p (m-1)) (at0 p m)=Aa):PF lt p (m+1):=λx y hxy hy=>by
 by_cases hym:y<m
 .exact h x y hxy hym
 .have:y=m:=by omega
  subst this;by_cases hx:x=y-1
  .rw[hx];exact e
  .exact S.tr _ _ _ (hp.lt _ (by omega)) (hp.lt _ (by omega)) (hp.lt _ hm) (h x (y-1) (by omega) (by omega)) e
theorem Pz.succ(S:Sto lt n)(hp:Pm n p)(h1:1<=m)(hm:m<n)(h:Pz lt p m)(e:lt (at0 p m) (at0 p (m-1))=Aa):Pz lt p (m+1):=λx y hxy hy=>by
 by_cases hym:y<m
 .exact h x y hxy hym
 .have:y=m:=by omega
  subst this;by_cases hx:x=y-1
  .rw[hx];exact e
  .exact S.tr _ _ _ (hp.lt _ hm) (hp.lt _ (by omega)) (hp.lt _ (by omega)) e (h x (y-1) (by omega) (by omega))
end
section
variable{prog:AM}{w:Ay}{A:A2}{E:Vq}{κ:SortKind}{it:Bb Keyed}
end
section
variable{lt:Ag->Ag->Ai}{n:Ag}
end
def Ou(h:AJ)(v:Aj)(r:Ac Ad):Prop:=∃ a its,v=.ref a/\JH h a its/\HE its.toList r/\r≠[]
theorem Ou.kept{h h':AJ}{v:Aj}{r:Ac Ad}(t:Ou h v r)(k:∀ b o,h.get? b=Ab o->h'.get? b=Ab o):Ou h' v r:=by
 obtain⟨a,its,e,⟨o,ho,q⟩,i,n⟩:=t;exact⟨a,its,e,⟨o,k _ _ ho,q⟩,i,n⟩
section
variable{prog:AM}{w:Ay}{A:A2}{E:Vq}{s:Aq}
end
end Ov
section
namespace Ov
open PySem PySem.Spec PyProof.Rows L2
section
variable{X:Cx}{CL:ClA}{W:XW}
end
end Ov
end
section
namespace Ov
open PySem PySem.Spec PyProof.Rows
section
variable{t:SetTable}{hashAt:Ag->Ad}{h:Ad}
noncomputable def stand(i b:Ag):SetTable.Probe:=⟨i,0,i,b,Af⟩
end
section
variable{prog:AM}{w:Ay}{A:A2}{E:Vq}{s:Aq}{K:Type} [DecidableEq K] {knd:KeyKind prog w K}
end
section
variable{prog:AM}{w:Ay}{A:A2}{R:Io->Aq->Prop}{I:Ah}{fp wr:Ac Ah}{G:Bb EB->Bb EB->Prop}{n:Ag}{P:Ag->Aj->Prop}{St:Ag->Aq->Prop}
end
section
variable{prog:AM}{w:Ay}{A:A2}{E:Vq}{s:Aq}
end
end Ov
end
namespace Ov
open PySem PySem.Spec PyProof.Rows L2
variable{h h':AJ}{P:AM}{w:Ay}{H:Hp}{oe:Dp}{vs:Bb Aj}{Q:Hr->Aq->Prop}{T' C:Ah}{a0:Aj}{X:Cx}{pI:Pn}{Y:L2.St}{K:Fg}{v:Ao Aj}{fc:Rho->R Ai}{fr:Ai}{fe:Rho->R D}{CX:CXT}{fd:BW}{ps:Ac Ak}{x qual c x0 x1:Ak}{p pos:AK}{α:Type}{Z:Rho}{B:Ah->Prop}{ts:Ac Ag}{k l kk:Ag}{d:D}{CL:ClA}{xs ys:Ac Al}{env:Cf}{scope:B0}{as:Es}{xn:Ag->Ac D->R Ex}
section
variable{X:Cx}
def MN(K:Fg)(H:Hp):Ac V->Ac (Ac Ad)->Prop
 |[],[]=>GW
 |x::xs,k::ks=>(∃ b,x=.ref b/\SqT K H b (k.map V.int))/\MN K H xs ks
 |_,_=>Bk
theorem MN.length{K:Fg}{H:Hp}:∀{xs:Ac V}{ks:Ac (Ac Ad)},MN K H xs ks->xs.length=ks.length
 |[],[],_=>rfl
 |_::_,_::_,h=>congrArg (· + 1) (MN.length h.2)
 |[],_::_,h=>h.elim
 |_::_,[],h=>h.elim
variable{CL:ClA}{W:XW}{pos p pos' p':AK}{a:Al}{fa:Rho->R D}
end
section
theorem fH(l:Ah)(items:Bb Aj)(n:Ag)(b:Ah)(items2:Bb Aj)(n2:Ag)(dd:Ao Ah)(sl:Bb (Ao Aj))(hs0:¬(!items.isEmpty&&Dg (items.size+items2.size))=Aa)(hs1:items.size<=sizeLine)(hs2:items.size+items2.size<=sizeLine+1):
  Meets (Builtin.«list.extend» ⟨[.ref l,.ref b],[]⟩) (λ_ R s=>s.heap.get? l=Ab { cls:=.type "list",dict:=Af,data:=.seq items n,slots:=#[] }/\s.heap.get? b=Ab { cls:=.type "tuple",dict:=dd,data:=.seq items2 n2,slots:=sl }/\R (.ok (.ret DR)) {s with heap:=s.heap.update l (FS λx=>x++items2),toks:=s.toks}):=
 .of_wp λprog w A R s h=>by
  obtain⟨hp,g,d,tk,os⟩:=s;obtain⟨hl,hb,h⟩:=h;have f1:=AutoSeq1.idx_int;have f2:=AutoSeq1.sub_tuple_tuple;have f3:=AutoSeq1.sub_list_list;have f4:=AutoSeq1.sub_tuple_list;have f5:=AutoSeq1.sub_list_tuple;
  have hz':(items++items2).size<=sizeLine+1:=by rw[Array.size_append];exact hs2
  wp_walk using (wpAny_updateSeq hl rfl (hz:=hs1) (_hz':=hz')),VQ hl,VQ hb;exact⟨_,rfl,h⟩
end
section
variable{X:Cx}
def rV(K:Fg):V->Ac V->Hp->VK->Prop:=λx vs H Q=>∃ l b xs zs,x=.ref l/\vs=[.ref b]/\H l=Ab (.lst xs)/\SqT K H b zs/\xs.length+zs.length<=sizeLine/\Q .non (upd H l (.lst (xs++zs)))
theorem gJ:MtM X "list.extend" (rV X.K):=by
 intro pI s Y H x vs v us Q I rx rv h;obtain⟨l,b,xs,zs,rfl,rfl,hH,hB,hz,q⟩:=h;cases rx;obtain⟨u,rfl,ru⟩:=rv.one;cases ru;obtain⟨z,its,n,r,hl,e⟩:=I.lstM hH;obtain⟨its2,r2,⟨o,e2,c2,n2,d2⟩,z2⟩:=I.tuple hB;have hl2:=r2.length;obtain⟨oc,od,oda,os⟩:=o;dsimp only at c2 d2;subst c2 d2;have hsz:its.toArray.size+its2.toArray.size<=sizeLine:=by rw[Az,Az];omega
 have hlong:¬ (!its.toArray.isEmpty&&Dg (its.toArray.size+its2.toArray.size))=Aa:=by
  rw[QI hsz,E8];exact AA
 refine JK Et ⟨_,e,rfl⟩ Wt (Wp _ _)
  (fH l its.toArray n b its2.toArray n2 od os hlong (by rw[Az];omega) (by omega)) ⟨e,e2,?_⟩
 refine⟨.non,_,I.lset (its':=its++its2) hH e (by simp) (r.append r2) ?_,rfl,q⟩
 rw[Be];omega
variable{CL:ClA}{W:XW}{o e:Al}{fe:Rho->R D}{i:Ag}{apos cpos pos:AK}
theorem aV(ho:PE X o (Gi i))(he:ST X CL W e fe)(hbase:DI o "extend" X.env (eval o X.env)=eval o X.env)(hfew:((BX cpos (Av [e] X.env)).all (λx=>!x.1)&&(Fv cpos (Ek [] X.env)).all (λx=>x.1.isSome)&&decide ([e].length+([]:Ac CB).length+(if ([]:Ac CB).isEmpty then 0 else 1)<30))=Aa)(hline:(apos.endLine==cpos.line)=Aa)(hs:Av [e] X.env=[(Ae,eval e X.env)])(hsw:CT (.Call (.Attribute o "extend" apos) [e] [] cpos) Af pos.line X.env=pure Ae):
  SS X CL W (.Expr (.Call (.Attribute o "extend" apos) [e] [] cpos) pos) (λZ=>O.of Z (CD Z i) λxs=>O.of Z (fe Z) λx=>O.of Z ((C5 .Add x (.tup [])).bind λy=>biD .list [y]) λd=>O.of Z (Kw d) λys=>if B4 (xs.length+ys.length)=Aa then .next (Z.set i (Ab (.lst (xs++ys),Aa))) else .bad):=λFz B pI s Y H D I ⟨Z,x,p⟩=>by
 refine Ka (MB D7 Et WB gJ ho (ED (he (By B Z Y)) FX hs) hbase hfew hline hs rfl) hsw pI s Y H D I ?_;dsimp only at p;cases e1:CD Z i with
 |bad=>rw[e1]at p;exact p.elim
 |exn z=>exact(LK e1).elim
 |ok ds=>
  rw[e1,O.of_ok]at p;have hi:=LY e1;obtain⟨a,xs,ds',q,e2,ha,hh,r⟩:=x.good.owL hi;cases e2;refine⟨_,q,.inl ⟨rfl,xs,SqL.of hh⟩,x.aok,Z,x.good,BJ.ex x p λd v H' _ s rv x' q'=>?_⟩
  cases d with
  |tup es=>
   obtain⟨b,ys,rfl,h0,h1,rs⟩:=Cv.tup_of rv;have eb:C5 .Add (.tup es) (.tup [])=if (!es.isEmpty&&B4 (es.length+0))=Aa then .ok (.tup (es++[])) else .bad:=rfl
   rw[eb]at q';split at q'
   .rw[R.bind_ok,show biD .list [.tup (es++[])]=.ok (.lst (es++[])) from rfl,O.of_ok,Qv,O.of_ok,BE]at q'
    split at q'
    .rename_i hz;refine⟨a,b,xs,ys,rfl,rfl,s _ _ hh,h1,?_,q' _ _ (x'.upd hi q ((r.same s).append rs))⟩;rw[r.length,rs.length];exact Ga hz
    .exact q'.elim
   .exact q'.elim
  |_=>exact q'.elim
end
section
open PySem.AutoSeq1 (wpAny_loadPart')
end
section
variable{prog:AM}{w:Ay}{A:A2}{R:Io->Aq->Prop}{I S T:Ah}{u v:Aj}{c:Ag}{P:Ag->Aj->Prop}{St:Ag->AJ->Prop}{s:Aq}{r q:Ac Ad}
end
section
variable{X:Cx}{CL:ClA}{W:XW}
end
def MO(e T:Ah)(cls:Aj)(dx:Ao Ah)(fl:Aj)(h:AJ):Prop:=∃ oe vs oT ts a0,h.get? e=Ab oe/\oe.cls=cls/\oe.dict=dx/\vs[0]?=Ab a0/\oe.data=.fields vs/\vs[1]?=Ab (.ref T)/\T≠e/\h.get? T=Ab oT/\oT.data=.fields ts/\ts[3]?=Ab fl
noncomputable abbrev Fly(e T:Ah)(cls:Aj)(dx:Ao Ah)(h:AJ):Prop:=MO e T cls dx DR h
noncomputable def sY(C:Ah)(dx:Ao Ah)(t:Ah):Dp:={cls:=.ref C,dict:=dx,data:=.fields #[.ref t,.none,.none,.none,.bool Ae,.none]}
structure Shift (ex fs:Ac Ah) (h h':AJ):Prop where
 keep:∀ b o,h.get? b=Ab o->b∉ex->b∉fs->h'.get? b=Ab o
 slot:∀ b o,h.get? b=Ab o->b∈fs->∃ sl,h'.get? b=Ab {o with slots:=sl}
theorem Shift.trans{ex fs:Ac Ah}{h1 h2:AJ}(a:Shift ex fs h h1)(b:Shift ex fs h1 h2):Shift ex fs h h2:=
 ⟨λc o q n m=>b.keep c o (a.keep c o q n m) n m,λc o q m=>by
  obtain⟨sl,e1⟩:=a.slot c o q m;obtain⟨sl',e2⟩:=b.slot c _ e1 m;exact⟨sl',e2⟩⟩
theorem ObjOk.isThere{a:Ah}:∀(o:HO),L2.ObjOk P w H h a o->∃ ob,h.get? a=Ab ob
 |.lst _,x=>by obtain⟨_,_,_,_,e⟩:=x;exact⟨_,e⟩
 |.tup _,x=>by obtain⟨_,_,_,p⟩:=x;obtain⟨o,e,_⟩:=p;exact⟨_,e⟩
 |.dK _,x=>by obtain⟨_,_,_,_,o,_,_,e,_⟩:=x;exact⟨_,e⟩
 |.dT _,x=>by obtain⟨_,_,_,_,o,_,_,e,_⟩:=x;exact⟨_,e⟩
 |.set _ _,x=>by obtain⟨o,_,_,_,e,_⟩:=x;exact⟨_,e⟩
 |.ins _ _ _,x=>by obtain⟨_,_,_,e,_⟩:=x;exact⟨_,e⟩
 |.own _,x=>x
 |.xd _,x=>by obtain⟨_,⟨_,_,_,e,_⟩,_⟩:=x;exact⟨_,e⟩
 |.met _ _,x=>⟨_,x⟩
 |.rng _ _,x=>by obtain⟨_,_,_,e⟩:=x;exact⟨_,e⟩
 |.frz _ _,x=>⟨_,x.1⟩
 |.tbl _,x=>⟨_,x⟩
 |.ext _,x=>x.2.1
theorem Q5{a:Ah}(x:HOk P w H h)(e:h.get? a=Af):H a=Af:=by
 cases q:H a with
 |none=>rfl
 |some o=>
  obtain⟨ob,z⟩:=ObjOk.isThere o (x a o q);rw[e]at z;cases z
theorem HOk.shift{ex fs:Ac Ah}(x:HOk P w H h)(sh:Shift ex fs h h')(h1:∀ b∈ex,H b=Af)(h2:∀ b∈fs,H b=Af):HOk P w H h':=λa o e=>
 (x a o e).stay (λb u hb q=>by
  have hs:∃ v,H b=Ab v:=by
   rcases hb with rfl|hb
   .exact⟨_,e⟩
   .exact⟨_,hb⟩
  obtain⟨v,hv⟩:=hs;exact sh.keep b u q (λz=>by rw[h1 b z]at hv;cases hv) (λz=>by rw[h2 b z]at hv;cases hv)) (λ_ q=>q) λ_ _ q=>q
theorem Un.shift{fs0 fs ex:Ac Ah}{H':Hp}{h0:AJ}(u:Un fs0 [] H H' h0 h)(sh:Shift ex fs h h')(h1:∀ b∈ex,h0.get? b=Af)(h2:∀ b∈fs,b∈fs0\/h0.get? b=Af):Un fs0 [] H H' h0 h' where
 keep:=λb o q n hb hx=>sh.keep b o (u.keep b o q n hb hx) (λz=>by rw[h1 b z]at q;cases q) λz=>(h2 b z).elim hb λe=>by rw[e]at q;cases q
 slot:=λb o q n hb hx=>by
  obtain⟨sl,e1⟩:=u.slot b o q n hb hx;by_cases hf:b∈fs
  .obtain⟨sl',e2⟩:=sh.slot b _ e1 hf;exact⟨sl',e2⟩
  .exact⟨sl,sh.keep b _ e1 (λz=>by rw[h1 b z]at q;cases q) hf⟩
 free:=u.free
 there:=λb o q hx=>by
  obtain⟨o',e1⟩:=u.there b o q hx;by_cases hf:b∈fs
  .obtain⟨sl',e2⟩:=sh.slot b _ e1 hf;exact⟨_,e2⟩
  .exact⟨o',sh.keep b _ e1 (λz=>by rw[h1 b z]at q;cases q) hf⟩
 tups:=u.tups
 frzs:=u.frzs
 tbls:=u.tbls
theorem fO(f:Bb Aj->Bb Aj)(o:Dp):(Fq f o).dict=o.dict:=by
 obtain⟨c,d,dt,sl⟩:=o;cases dt<;>rfl
section
variable{M:IQ}{A:A2}{E:Vq}{s:Aq}{env:Cf}{outer:Ac Cf}{L e T:Ah}{cls:Aj}{dx:Ao Ah}{base h:AJ}
theorem QB{hd:Aj}{nx:Ai}(hfr:A.frames=Ab (env::outer))(hf:env.frame=Ab L)(ff:s.heap.FunFrames base (env::outer))(he:s.heap.get? e=Ab oe)(dt:oe.data=.fields vs)(hz:1<vs.size)(hQ:∀ h' T' oT ts,h'.get? e=Ab (Fq (·.setIfInBounds 1 (.ref T')) oe)->T'≠e->s.heap.get? T'=Af->h'.get? T'=Ab oT->oT.data=.fields ts->ts[3]?=Ab (D4 L)->Shift [e] (frs (env::outer)) s.heap h'->Q () {s with heap:=h'}):
  AC M A (do
   let fr <-frameOf env
   let pl <-entryPlaceOf L nx
   let en <-VY hd fr .none (D4 L) .none pl
   setField (.ref e) 1 en) Q E s:=by
 have nf:e∉frs (env::outer):=λz=>by
  obtain⟨_,o,q,n⟩:=ff.mem z;rw[he]at q;cases q;exact n vs dt
 refine Am (wpAny_frameOf_fun hfr ff hf λk1 so=>Am (wpAny_entryPlaceOf λpl ip=>?_))
 obtain⟨sz,sm,sl⟩:=so;have e1:k1.get? e=Ab oe:=(sm e nf).trans he;unfold VY;unfold newFields;refine Am (CJ ?_ (ip.sizeOk5 _ _ _ _ _));generalize hX:({ cls:=.type "traceback",dict:=Af,data:=.fields ([hd,.ref L,.none,D4 L,.none]++(if pl.isEmpty then F8 6 DR else pl)).toArray }:Dp)=ob
 have od:ob.data=.fields ([hd,.ref L,.none,D4 L,.none]++(if pl.isEmpty then F8 6 DR else pl)).toArray:=by rw[<-hX]
 have nl:k1.objs.size≠e:=Er (AI e1);have e2:=Ar ob e1;refine Fc e2 dt hz ?_;have up:∀ b,b≠e->((k1.push ob).update e (Fq (·.setIfInBounds 1 (.ref k1.objs.size)))).get? b=(k1.push ob).get? b:=λb nb=>CY _ _ (DV nb)
 have lf:ob.isFreed=Ae:=by rw[<-hX];rfl
 refine hQ _ k1.objs.size ob _ (C8 _ e2 (Ev (C9 dt _))) nl ?_ ((up _ nl).trans (AH k1 lf)) od ?_ ⟨λb o q n1 n2=>?_,λb o q hb=>?_⟩
 .rw[sz];exact FQ (AR _)
 .simp
 .have nb:b≠e:=λz=>n1 (by rw[z];exact Aw)
  rw[up b nb];exact Ar ob ((sm b n2).trans q)
 .obtain⟨sl',q'⟩:=sl b o q;have nb:b≠e:=λz=>nf (z ▸ hb)
  exact⟨sl',(up b nb).trans (Ar ob q')⟩
theorem Ql{oT:Dp}{ts:Bb Aj}{fl:Aj}(hc:oe.cls=cls)(hx:oe.dict=dx)(h0:vs[0]?=Ab a0)(dt:oe.data=.fields vs)(hz:1<vs.size)(g:h'.get? e=Ab (Fq (·.setIfInBounds 1 (.ref T')) oe))(ne:T'≠e)(gT:h'.get? T'=Ab oT)(dT:oT.data=.fields ts)(f3:ts[3]?=Ab fl):MO e T' cls dx fl h':=
 ⟨_,_,oT,ts,a0,g,(WE _ _).trans hc,(fO _ _).trans hx,by rw[Array.getElem?_setIfInBounds_ne (by decide)];exact h0,C9 dt _,by simp[hz],ne,gT,dT,f3⟩
theorem JY{i:Ag}{v:Aj}(q:vs[i]?=Ab v):i<vs.size:=(Array.getElem?_eq_some_iff.mp q).1
theorem Zj(hfr:A.frames=Ab (env::outer))(hf:env.frame=Ab L)(ff:s.heap.FunFrames base (env::outer))(fl:Fly e T cls dx s.heap)(hQ:∀ h' T',MO e T' cls dx (D4 L) h'->Shift [e,T] (frs (env::outer)) s.heap h'->s.heap.get? T'=Af->Q () {s with heap:=h'}):AC M A (Iy (.ref e) env) Q E s:=by
 obtain⟨oe,vs,oT,ts,a0,he,hc,hx,h0,dt,h1,ne,hT,dT,h3⟩:=fl;have z3:=JY h3;unfold Iy;simp only[hf];refine Am (BL he dt h1 ?_);rw[Ax (by simp:(Hh T != DR)=Aa)]
 refine Am (BL hT dT h3 ?_);rw[AF (by simp[D4]:¬ (DR==D4 L)=Aa)]
 refine Am (Fc hT dT z3 ?_);have up:∀ b,b≠T->(s.heap.update T (Fq (·.setIfInBounds 3 DR))).get? b=s.heap.get? b:=λb nb=>CY _ _ (DV nb)
 have rcd:∀ b o,s.heap.get? b=Ab o->(∀ us,o.data≠.fields us)->b≠T:=λb o q n z=>by
  rw[z,hT]at q;cases q;exact n ts dT
 refine QB (base:=base) hfr hf (ff.of_keeps λb o q n=>⟨o,(up b (rcd b o q n)).trans q,rfl⟩) ((up e (DV ne)).trans he) dt (JY h1) λh' T' oT' ts' g nT gn gT dT' f3 sh=>?_
 have T0:s.heap.get? T'=Af:=by
  by_cases z:T'=T
  .rw[z]at gn;rw[C8 _ hT (Ev (C9 dT _))]at gn;cases gn
  .rw[<-up T' z];exact gn
 refine hQ h' T' (Ql hc hx h0 dt (JY h1) g nT gT dT' f3) ⟨λb o q n1 n2=>?_,λb o q hb=>?_⟩ T0
 .simp only[AE,Bp,CQ,EL]at n1;exact sh.keep b o ((up b n1.2).trans q) (by simp[n1.1]) n2
 .obtain⟨_,o',q',n⟩:=ff.mem hb;rw[q]at q';cases q';exact sh.slot b o ((up b (rcd b o q n)).trans q) hb
theorem Sa{fv:Aj}(fl:MO e T cls dx fv s.heap)(hQ:∀ h',Fly e T cls dx h'->(∀ b o,b≠T->s.heap.get? b=Ab o->h'.get? b=Ab o)->Q () {s with heap:=h'}):AC M A (setFlight (.ref e) Af) Q E s:=by
 obtain⟨oe,vs,oT,ts,a0,he,hc,hx,h0,dt,h1,ne,hT,dT,h3⟩:=fl;have z3:=JY h3;unfold setFlight;refine Am (BL he dt h1 ?_);rw[Ax (by simp:(Hh T != DR)=Aa)]
 refine Fc hT dT z3 (hQ _ ?_ λb o nb q=>(CY _ _ (DV nb)).trans q)
 exact⟨oe,vs,_,_,a0,(CY _ _ ne).trans he,hc,hx,h0,dt,h1,ne,C8 _ hT (Ev (C9 dT _)),C9 dT _,by simp[z3]⟩
theorem Qz{h1 h2:AJ}{ex:Ac Ah}(ff:s.heap.FunFrames base (env::outer))(sh:Shift ex (frs (env::outer)) s.heap h1)(hT:s.heap.get? T'=Af)(k:∀ b o,b≠T'->h1.get? b=Ab o->h2.get? b=Ab o):Shift ex (frs (env::outer)) s.heap h2:=
 ⟨λb o q n1 n2=>k b o (λz=>by rw[z,hT]at q;cases q) (sh.keep b o q n1 n2),λb o q hb=>let ⟨sl,q'⟩:=sh.slot b o q hb;⟨sl,k b _ (λz=>by rw[z,hT]at q;cases q) q'⟩⟩
theorem Za(hfr:A.frames=Ab (env::outer))(hf:env.frame=Ab L)(ff:s.heap.FunFrames base (env::outer))(fl:Fly e T cls dx s.heap)(hQ:∀ h' T',Fly e T' cls dx h'->Shift [e,T] (frs (env::outer)) s.heap h'->(T'=T\/s.heap.get? T'=Af)->Q () {s with heap:=h'}):AC M A (leaving env (.ref e)) Q E s:=by
 unfold leaving;exact Am (Zj hfr hf ff fl λh1 T' f1 sh hT=>Sa f1 λh2 f2 k=>hQ h2 T' f2 (Qz ff sh hT k) (.inr hT))
theorem Yw(hfr:A.frames=Ab (env::outer))(hf:env.frame=Ab L)(ff:s.heap.FunFrames base (env::outer))(he:s.heap.get? e=Ab oe)(hc:oe.cls=cls)(hx:oe.dict=dx)(dt:oe.data=.fields vs)(h0:vs[0]?=Ab a0)(h1:vs[1]?=Ab .none)(hQ:∀ h' T',Fly e T' cls dx h'->Shift [e] (frs (env::outer)) s.heap h'->s.heap.get? T'=Af->Q () {s with heap:=h'}):AC M A (leaving env (.ref e)) Q E s:=by
 unfold leaving Iy;simp only[hf];refine Am (Am (BL he dt h1 ?_));rw[AF (by decide)]
 exact QB (base:=base) hfr hf ff he dt (JY h1) λh' T' oT ts g nT gn gT dT f3 sh=>Sa (Ql hc hx h0 dt (JY h1) g nT gT dT f3) λh2 f2 k=>hQ h2 T' f2 (Qz ff sh gn k) gn
end
def CXR(P:AM)(w:Ay):CXT:=λouter H s E ev s'=>∃ e T cls dx H',ev=.ref e/\s'.os=s.os/\E9 s'.gens/\Un (frs outer) [] H H' s.heap s'.heap/\HOk P w H' s'.heap/\Fly e T cls dx s'.heap/\H' e=Af/\H' T=Af/\s.heap.get? e=Af/\s.heap.get? T=Af/\E cls dx H'
def PJ(X:Cx)(CL:ClA)(W:XW):Prop:=∀ pI Y H s e C dx t x,Inv X pI Y H s->(X.ex=[]->X.s₀.heap.get? e=Af)->H e=Af->s.heap.get? e=Ab (sY C dx t)->G4 X.K CL H (.ref C) dx x->W x H->X.xe (.ref e) s
section
variable{P:AM}{w:Ay}{K:Fg}{mg:Ak->Ao Aj}{base:AJ}{N:Ac Ak}{qual:Ak}{scope:B0}{f:Ah}{cd:Aj}{A:A2}{outer:Ac Cf}{s:Aq}{H:Hp}{E:XK}{CL:ClA}{W:XW}
theorem R9{s:Aq}(I:Inv X pI Y H s):∀ b∈frs X.stack,b∈X.fs\/X.s₀.heap.get? b=Af:=λb hb=>by
 rcases AE.mp (I.stkSub b hb) with z|z
 .exact .inr (by rw[z];exact FQ I.ok.above)
 .exact .inl z
theorem LQ{s:Aq}{b:Ah}(I:Inv X pI Y H s)(hx:X.ex=[])(h:s.heap.get? b=Af):X.s₀.heap.get? b=Af:=by
 cases q:X.s₀.heap.get? b with
 |none=>rfl
 |some o=>
  obtain⟨o',z⟩:=I.base.there b o q (by rw[hx];simp)
  rw[h]at z;cases z
theorem qP(hE:∀ x cls dx H',W x H'->G4 K CL H' cls dx x->E cls dx H'):∀ A',Jw (CXR P w) (Gn (CXR P w) P w K mg base N qual scope f cd A outer s H E) (EKW K CL A' W):=by
 intro A' pI Y H1 s1 ev s2 I h;obtain⟨e,T,cls,dx,H',rfl,os,bare,un,hok,fl,he,hT,ne,nT,x,xr,wx⟩:=h;have I':=I.call' (s':=s2) (ch:=[]) os un hok bare (λb z=>absurd z (by simp))
 have hb0:Un (frs outer) [] H H' s.heap s2.heap:=I'.base;show AC (model P w) (A.deeper (EK qual scope s.heap.objs.size f cd)) (leaving (EK qual scope s.heap.objs.size f cd) (.ref e)) _ _ s2;refine Za (L:=s.heap.objs.size) I'.ok.frames rfl I'.stack fl λh' T' fl' sh hT'=>?_
 have e0:s.heap.get? e=Af:=LQ I rfl ne;have T0:s.heap.get? T=Af:=LQ I rfl nT;refine⟨e,T',cls,dx,H',rfl,I'.os,bare,Un.shift hb0 sh ?_ (R9 I'),HOk.shift hok sh ?_ I'.stkFree,fl',he,?_,e0,?_,?_⟩
 .intro b hb;rcases AE.mp hb with rfl|hb
  .exact e0
  .rw[Bm.mp hb];exact T0
 .intro b hb;rcases AE.mp hb with rfl|hb
  .exact he
  .rw[Bm.mp hb];exact hT
 .rcases hT' with rfl|z
  .exact hT
  .exact Q5 hok z
 .rcases hT' with rfl|z
  .exact T0
  .exact LQ I' rfl z
 .exact hE x cls dx H' wx xr
theorem rzR(hE:∀ x cls dx H',W x H'->G4 K CL H' cls dx x->E cls dx H'):PJ (Gn (CXR P w) P w K mg base N qual scope f cd A outer s H E) CL W:=by
 intro pI Y H1 s1 e C dx t x I e0 he ge xr hw;have hb0:Un (frs outer) [] H H1 s.heap s1.heap:=I.base;have e0':s.heap.get? e=Af:=e0 rfl;show AC (model P w) (A.deeper (EK qual scope s.heap.objs.size f cd)) (leaving (EK qual scope s.heap.objs.size f cd) (.ref e)) _ _ s1;refine Yw (cls:=.ref C) (dx:=dx) (L:=s.heap.objs.size) I.ok.frames rfl I.stack ge rfl rfl rfl (a0:=.ref t) rfl rfl λh' T' fl' sh hT'=>?_
 have one:∀{Z_:Ah->Prop},Z_ e->∀ b∈[e],Z_ b:=λ{Z_} z b hb=>by rw[Bm.mp hb];exact z
 exact⟨e,T',.ref C,dx,H1,rfl,I.os,I.bare,Un.shift hb0 sh (one e0') (R9 I),HOk.shift I.hok sh (one (Z_:=λb=>H1 b=Af) he) I.stkFree,fl',he,Q5 I.hok hT',e0',LQ I rfl hT',hE x _ dx H1 hw xr⟩
theorem ownR:FH (model P w) (Gn (CXR P w) P w K mg base N qual scope f cd A outer s H E).A (Gn (CXR P w) P w K mg base N qual scope f cd A outer s H E).env (Gn (CXR P w) P w K mg base N qual scope f cd A outer s H E).xe:=PassesOwn.leaving
end
noncomputable def veB:Ac Aj:=[.type "ValueError",.type "Exception",.type "BaseException",.type "object"]
noncomputable def E7(K:Fg)(C:Ah)(v:Ao Aj):Ai:=match K.lookup C with
  | some ⟨.type "type",_,.cls c,z⟩=>(match c.mro,z.toList with
    |.ref c0::tl,[_,_,_,_,Ab (.builtin nw),_]=>c0==C&&(nw == "ValueError.__new__" && (!c.hasDel&&(PySem.W.tailIn K veB tl&&(PySem.W.nsOkIn K c.ns&&BO K c.ns "__init__" == Ab v))))
    | _,_=>Ae)
  |_=>Ae
structure XcOk (K:Fg) (C:Ah):Prop where
 exc:∃ v,E7 K C v=Aa
 ga:Bx K (.ref C) "__getattribute__" = Ab (Ab (.builtin "BaseException.__getattribute__"))
 gt:Bx K (.ref C) "__getattr__" = Ab Af
 cl:Bx K (.ref C) "__class__" = Ab (Ab (.builtin "object.__class__"))
 ob:DH K C (.type "object")=Ab Aa
 be:Ef K (.ref C) (.type "BaseException")=Ab Aa
 cs:(Ee K C).isSome=Aa
 ve:DW K (.ref C) (.type "ValueError")=Ab Aa
section
variable{prog:AM}{w:Ay}{A:A2}{E:Vq}{h:AJ}{g:Bb EB}{d:HP}{t:Ag}{os:HF}{K:Fg}{e C:Ah}
end
def Ug(X:Cx)(pI:Pn)(e:Ah):Prop:=e≠X.env.locals/\(∀ x c,X.env.cells.lookup x=Ab c->c≠e)/\(∀ p∈X.pn++pI,p.1≠e)/\X.s₀.heap.get? e=Af
section
variable{X:Cx}{pI:Pn}{Y:L2.St}{H:Hp}{s:Aq}{e:Ah}
end
noncomputable def Cx.hot(X:Cx)(e:Ah):Cx:={X with A:=X.A.mark (Ab (.ref e)),calm:=Ae,xe:=λ_ _=>Bk}
section
variable{X:Cx}{pI:Pn}{Y:L2.St}{H:Hp}{s:Aq}{e:Ah}
end
noncomputable def tI(X:Cx)(CL:ClA)(pI:Pn)(Y:L2.St)(H:Hp)(y:Ex)(Xw:Vq):Prop:=
 ∀ s' H' e T cls dx,Inv X pI Y H' s'->AB H H'->Fly e T cls dx s'.heap->H' e=Af->H' T=Af->Ug X pI e->Ug X pI T->G4 X.K CL H' cls dx y->Xw (.ref e) s'
def STB(X:Cx)(CL:ClA)(body:Ac AO)(f:Rho->O):Prop:=∀ Fz B pI s Y H D Z (Xw:Vq),FH (model X.prog X.w) X.A X.env Xw->Inv X pI Y H s->Sx X.K CL Fz B Z Y H ->
  (match f Z with
   |.exn y Z'=>Z'=Z->tI X CL pI Y H y Xw
   | o=>BJ X.K CL Fz B (λ_ _=>Bk) o D)->(∀ y Z',f Z=.exn y Z'->Z'=Z)->AC (model X.prog X.w) X.A (execs body X.env) (SP X pI D) Xw s
noncomputable def Cx.pw(X:Cx)(pI:Pn)(Xw:Vq):Cx:={X with pn:=X.pn++pI,xe:=Xw}
section
variable{X:Cx}{pI pins':Pn}{Y:L2.St}{H:Hp}{s:Aq}{Xw:Vq}
end
section
variable{X:Cx}{CL:ClA}{k n:Ag}{fr:Ai}{f:Ah}{fd:BW}{ps:Ac Ak}{F:Ac D->R D}{x:Ak}{p pos pos2:AK}{e:Al}{es:Ac Al}{fs ft:Rho->R (Ac D)}{sh:Rho->Ai}
variable(hx0:X.ex=[])(G:FnOk X.prog X.w X.K X.mg X.base (CXR X.prog X.w) k f fd ps (spD X.K CL n fr F))(hr:Room k X.A)(hg:Gl X x)(hm:X.mg x=Ab (.ref f))
    (hk:CC X.K (.ref f)=Aa) (hb:GC X.K fd ps []) (hst:∀ Z,sh Z=Aa->ft Z=fs Z) (hn:∀ Z ds,ft Z=.ok ds->ds.length=n) (hnx:∀ Z y,ft Z≠.exn y)
    (hdb:(x==("__debug__" : Ak))=Ae) (he:Av (e::es) X.env=(Ae,eval e X.env)::Av es X.env) (hpl:∀ pos,(BX pos (Av es X.env)).any (·.1)=Ae)
    (ha:∀ pI Xw,FH (model X.prog X.w) X.A X.env Xw->SA (Cx.pw X pI Xw) CL (λ_ _=>Bk) (e::es) fs/\SAT (Cx.pw X pI Xw) CL (λ_ _=>Bk) (e::es) ft)
include hx0 G hr hg hm hk hb hst hn hnx hdb he hpl ha
end
section
variable{X:Cx}{CL:ClA}{W:XW}
def oE(K:Fg)(CL:ClA)(up:Ag->Ac Ag)(c':Ag)(C':Ah):Prop:=∀ c C,CL c=Ab C->DW K (.ref C) (.ref C')=Ab ((up c).contains c')
variable{a:Al}{fa:Rho->R D}{up:Ag->Ac Ag}{x:Ak}{p p2 pos:AK}
end
theorem S4(q:E7 K C v=Aa):∃ dd cd sl bm,K.lookup C=Ab ⟨.type "type",dd,.cls cd,sl⟩/\cd.mro=.ref C::bm:=by
 unfold E7 at q;split at q
 .rename_i dd cd sl ho;split at q
  .rename_i C' bm k0 k1 k2 k3 n k5 hm hs;simp only[Ap,A7,Bu]at q;obtain⟨rfl,_⟩:=q;exact⟨dd,cd,sl,bm,ho,hm⟩
  .cases q
 .cases q
theorem Oi(q:E7 K C v=Aa):∃ cd bm,Ee K C=Ab cd/\cd.mro=.ref C::bm:=by
 obtain⟨dd,cd,sl,bm,h1,h2⟩:=S4 q;exact⟨cd,bm,by unfold Ee;rw[h1],h2⟩
theorem nL(q:E7 K C v=Aa):Dt K (.ref C)=Ab (.type "type"):=by
 obtain⟨dd,cd,sl,bm,h1,h2⟩:=S4 q;show (K.lookup C).map _=_;rw[h1];rfl
theorem gN{C':Ah}{v:Ai}{i i':Ao Aj}(q:E7 K C i=Aa)(q':E7 K C' i'=Aa)(su:Ef K (.ref C) (.ref C')=Ab v):DW K (.ref C) (.ref C')=Ab v:=by
 unfold DW;by_cases e:C=C'
 .subst e;obtain⟨cd,bm,h1,h2⟩:=Oi q;have su':DH K C (.ref C)=Ab v:=su;have:v=Aa:=by
   unfold DH at su';rw[h1,VI,h2,AF (by simp)]at su'
   rw[<-Bh su'];simp
  rw[Ax (by simp),this]
 .rw[AF (λz=>e (WT (A7.mp z)))]
  obtain⟨cd,bm,h1,h2⟩:=Oi q';show (if ((Ee K C').isSome&&Dt K (.ref C')==Ab (.type "type"))=Aa then Ef K (.ref C) (.ref C') else Af)=_
  rw[h1,nL q',Ax (by simp),su]
noncomputable abbrev XH:CXT:=λ_ _ _ _ _ _=>Bk
structure HotOk (P:AM) (w:Ay) (K:Fg) (mg:Ak->Ao Aj) (base:AJ) (k:Ag) (f:Ah) (fd:BW) (ps:Ac Ak) (sp:Sp):Prop where
 len:∀ vs H Q E,sp vs H Q E->vs.length=ps.length
 run:∀(A:A2)(ev:Ah)(outer:Ac Cf)(s:Aq)(H:Hp)(args:Args)(us:Ac Aj)(vs:Ac V)(Q:VK)(E:XK),Room k A->Env0 P w K mg base (A.mark (Ab (.ref ev))) outer s H->GO s fd args (ps.zip us)->A9 vs us->sp vs H Q E ->
  F9 (model P w) (A.mark (Ab (.ref ev))) (.call (.ref f) args) (CR XH outer P w H s Q E) s
theorem Zx{C':Ah}{v:Ai}{i:Ao Aj}(q:E7 K C i=Aa)(mr:DH K C' (.type "object")=Ab Aa)(ty:Dt K (.ref C')=Ab (.type "type"))(su:Ef K (.ref C) (.ref C')=Ab v):DW K (.ref C) (.ref C')=Ab v:=by
 unfold DW;by_cases e:C=C'
 .subst e;obtain⟨cd,bm,h1,h2⟩:=Oi q;have su':DH K C (.ref C)=Ab v:=su;have:v=Aa:=by
   unfold DH at su';rw[h1,VI,h2,AF (by simp)]at su'
   rw[<-Bh su'];simp
  rw[Ax (by simp),this]
 .rw[AF (λz=>e (WT (A7.mp z)))]
  show (if ((Ee K C').isSome&&Dt K (.ref C')==Ab (.type "type"))=Aa then Ef K (.ref C) (.ref C') else Af)=_
  have cs:(Ee K C').isSome=Aa:=by
   unfold DH at mr;cases e1:Ee K C' with
   |none=>rw[e1]at mr;cases mr
   |some cd=>rfl
  rw[cs,ty,Ax (by simp),su]
def spH(K:Fg)(CL:ClA)(n:Ag)(fr:Ai)(F:Ac D->R D):Sp:=λvs H Q _=>∃(ds:Ac D)(A:Ah->Prop),vs.length=n/\AOk H A/\Reps K CL H A vs ds/\(match F ds with
  |.ok d=>∀ v H',AB H H'->EU K CL fr H A H' v d->Q v H'
  |.exn _=>Bk
  | .bad=>Bk)
section
variable{X:Cx}{CL:ClA}{ev:Ah}
end
section
variable{M:IQ}{A:A2}{E:Vq}{s:Aq}{env:Cf}{nm q:Ak}{C N:Ah}{bs bm bmB:Ac Aj}{hdct:Ai}{sn:Ac Ak}{sub:Ac Aj}{ab:Ai}{col:Ao Ai}{dd:Ao Ah}{k0 k1 k2 k3 k5:Ao Aj}{B newId initId:CG}
end
section
variable{prog:AM}{w:Ay}{A:A2}{E:Vq}{h:AJ}{g:Bb EB}{d:HP}{t:Ag}{os:HF}
variable{nm q:Ak}{C N fI:Ah}{bs bm bmB:Ac Aj}{hdct:Ai}{sn:Ac Ak}{sub:Ac Aj}{ab:Ai}{col:Ao Ai}{dd:Ao Ah}{k0 k1 k2 k3 k5:Ao Aj}{B newId initId:CG}{mN:Ak->Ao Aj}{rest:Ac Aj}{oI:Dp}
end
section
variable{prog:AM}{w:Ay}{A:A2}{E:Vq}{s:Aq}{env:Cf}
variable{nm q:Ak}{C N fI:Ah}{bs bm bmB:Ac Aj}{hdct:Ai}{sn:Ac Ak}{sub:Ac Aj}{ab:Ai}{col:Ao Ai}{dd:Ao Ah}{k0 k1 k2 k3 k5:Ao Aj}{B newId initId:CG}{mN:Ak->Ao Aj}
end
section
variable{prog:AM}{w:Ay}{A:A2}{E:Vq}{h:AJ}{g:Bb EB}{d:HP}{tk0:Ag}{os:HF}
variable{nm q:Ak}{C N e t:Ah}{dx:Ao Ah}{bs bm bmB:Ac Aj}{hdct:Ai}{sn:Ac Ak}{sub:Ac Aj}{ab:Ai}{col:Ao Ai}{dd:Ao Ah}{k0 k1 k2 k3 k5:Ao Aj}{B newId initId:CG}
end
section
variable{X:Cx}{CL:ClA}{pI:Pn}{Y:L2.St}{H:Hp}{s:Aq}
end
section
variable{X:Cx}{CL:ClA}
end
section
variable{X:Cx}{CL:ClA}{C:Ah}{nm q:Ak}{N:Ah}{bs bm:Ac Aj}{hdct:Ai}{sn:Ac Ak}{sub:Ac Aj}{ab:Ai}{col:Ao Ai}{dd:Ao Ah}{k0 k1 k2 k3 k5:Ao Aj}
end
section
variable{prog:AM}{w:Ay}{A:A2}{E:Vq}{h:AJ}{g:Bb EB}{d:HP}{tk0:Ag}{os:HF}{K:Fg}
variable{nm q:Ak}{C N e t:Ah}{bs bm bmB:Ac Aj}{sn:Ac Ak}{sub:Ac Aj}{ab:Ai}{col:Ao Ai}{dd:Ao Ah}{k0 k1 k2 k3 k5:Ao Aj}{B newId sa owner:CG}
end
section
variable{prog:AM}{w:Ay}{A:A2}{E:Vq}{h:AJ}{g:Bb EB}{d:HP}{tk0:Ag}{os:HF}{K:Fg}
variable{nm q:Ak}{C N e t:Ah}{bs bm bmB:Ac Aj}{sn:Ac Ak}{sub:Ac Aj}{ab:Ai}{col:Ao Ai}{dd:Ao Ah}{k0 k1 k2 k3 k5:Ao Aj}{B newId sa owner:CG}
end
section
variable{X:Cx}{pI:Pn}{Y:L2.St}{H:Hp}{s:Aq}{e:Ah}
end
section
variable{X:Cx}{C:Ah}{nm q:Ak}{N:Ah}{bs bm:Ac Aj}{sn:Ac Ak}{sub:Ac Aj}{ab:Ai}{col:Ao Ai}{dd:Ao Ah}{k0 k1 k2 k3 k5:Ao Aj}
end
noncomputable def JB(K:Fg)(C:Ah):Ai:=match K.lookup C with
  |some ⟨_,_,.cls c,_⟩=>c.hasDict
  |_=>Ae
noncomputable def UY(g par f z:Ak)(k:Ag)(np apos p1 p2 p3 p4 p5 cpos p6 p7 p8 p9 p10:AK):Ac AO:=
 [.Expr (.Call (.Attribute (.Name g np) "__init__" apos) [.Name "self" p1,.JoinedStr [.FormattedValue (.Name par p2) (-1) Af p3,.Constant (.str z) k p4] p5] [] cpos) p6,.Assign [.Attribute (.Name "self" p7) f p8] (.Name par p9) p10]
inductive XIn (K:Fg) (mg:Ak->Ao Aj) (C:Ah) (f:Ak):Prop
 |mk {fI OV:Ah} {x qual g par z:Ak} {st:AO} {fd:BW} {k:Ag} {np apos p1 p2 p3 p4 p5 cpos p6 p7 p8 p9 p10:AK} (xc:E7 K C (Ab (.ref fI))=Aa) (dc:JB K C=Aa) (fn:Fun K x qual st fI fd) (ty:Dt K (.ref fI)=Ab (.type "function"))
  (S:FnScope ["self",par] ["self",par] (Dv st)) (l1:(Dv st).names.lookup ("self" : Ak)=Ab .local) (l2:(Dv st).names.lookup par=Ab .local) (bd:GC K fd ["self",par] []) (body:Fw st=UY g par f z k np apos p1 p2 p3 p4 p5 cpos p6 p7 p8 p9 p10)
  (gl:(Dv st).names.lookup g=Ab .globalImplicit) (mo:mg g=Ab (.ref OV)) (dg:(g==("__debug__" : Ak))=Ae) (dp:(par==("__debug__" : Ak))=Ae) (dq:(par==("__classdict__" : Ak))=Ae)
  (s1:GM K (.ref OV) "__getattribute__" = Ab (Ab (.builtin "type.__getattribute__"))) (s2:Hj K OV (.type "type")=Aa) (s3:Hi K (.ref OV) (.type "type") "__init__" = Ab (.val (.builtin "ValueError.__init__")))
  (hl:(apos.endLine==cpos.line)=Aa) (hz:z.length<=1000) (hf:Bx K (.ref C) f=Ab Af) (hs:Bx K (.ref C) "__setattr__" = Ab (Ab (.builtin "object.__setattr__"))):XIn K mg C f
section
variable{P:AM}{w:Ay}{K:Fg}{mg:Ak->Ao Aj}{base:AJ}{CL:ClA}{C fI OV:Ah}{x qual g par z f:Ak}{st:AO}{fd:BW}{k:Ag}{np apos p1 p2 p3 p4 p5 cpos p6 p7 p8 p9 p10:AK}
variable{nm q:Ak}{N:Ah}{bs bm:Ac Aj}{sn:Ac Ak}{sub:Ac Aj}{ab:Ai}{col:Ao Ai}{dd:Ao Ah}{k0 k1 k2 k3 k5:Ao Aj}
end
section
variable{X:Cx}{CL:ClA}{W:XW}
def MG(xn:Ag->Ac D->R Ex)(c:Ag)(f:Ak)(ds:Ac D):Prop:=∃ d n,ds=[d]/\xfD (n+1) d=Aa/\n<=1/\xn c ds=.ok ⟨c,[(f,d)]⟩
end
section
variable{prog:AM}{w:Ay}{A:A2}{E:Vq}{h:AJ}{g:Bb EB}{d:HP}{t:Ag}{os:HF}{K:Fg}{e C dx:Ah}{f:Ak}{mA:Ak->Ao Aj}{v:Aj}
end
section
variable{X:Cx}{CL:ClA}{W:XW}{K:Fg}{H:Hp}{A:Ah->Prop}
end
section
variable{K:Fg}{CL:ClA}{Fz:Ah->HO->Prop}{B:Ah->Prop}{Z:Rho}{Y:L2.St}{H H0 H1:Hp}{W:XW}{o:O}{D':Ends}
def IH(K:Fg)(CL:ClA)(Fz:Ah->HO->Prop)(B:Ah->Prop)(W:XW)(Y:L2.St)(H0:Hp)(o:O)(D:Ends):Prop:=match o with
  |.next _=>∀ H,AB H0 H->D.nx Y H
  |.ret d fr=>BJ K CL Fz B W (.ret d fr) D
  |.exn x Z=>BJ K CL Fz B W (.exn x Z) D
  |_=>Bk
theorem IH.same(s:AB H0 H1)(p:IH K CL Fz B W Y H0 o D'):IH K CL Fz B W Y H1 o D':=by
 cases o with
 |next Z=>exact λH s'=>p H (s.trans s')
 |_=>exact p
theorem Sx.drop(x:Sx K CL Fz B Z Y H)(i:Ag){Y':L2.St}(hl:Y'.length=Y.length)(hs:∀ j,i≠j->Y'[j]?=Y[j]?):Sx K CL Fz B (Z.set i Af) Y' H:=by
 have get:∀(j:Ag)(y:D×Ai),(Z.set i Af)[j]?=Ab (Ab y)->i≠j/\Z[j]?=Ab (Ab y):=λj y h=>by
  by_cases hj:i=j
  .subst hj;have:=Gb h;cases this
  .exact⟨hj,by rw[Cb hj]at h;exact h⟩
 have sub:∀ a,By B (Z.set i Af) Y' a->By B Z Y a:=λa h=>by
  rcases h with h|⟨j,e,h1,h2⟩
  .exact .inl h
  .obtain⟨hj,h1⟩:=get j _ h1;rw[hs j hj]at h2;exact .inr ⟨j,e,h1,h2⟩
 have hlen:(Z.set i Af).length=Y'.length:=by rw[A6,hl];exact x.len
 refine⟨⟨λj e h=>?_,λj e h=>?_,hlen⟩,λa h=>x.aok a (sub a h),λj e a h1 h2=>?_,λj k e f a h1 h2 h3 h4=>?_,x.same,hlen⟩
 .obtain⟨hj,h1⟩:=get j _ h;obtain⟨w',q,rw'⟩:=x.good.sh j e h1;exact⟨w',by rw[hs j hj];exact q,Rep.sub sub _ rw'⟩
 .obtain⟨hj,h1⟩:=get j _ h;obtain⟨a,u,q,ha,hh,rr⟩:=x.good.ow j e h1;exact⟨a,u,by rw[hs j hj];exact q,.inr ⟨j,e,h,by rw[hs j hj];exact q⟩,hh,rr.sub sub⟩
 .obtain⟨hj,h1⟩:=get j _ h1;rw[hs j hj]at h2;exact x.new j e a h1 h2
 .obtain⟨hj,h1⟩:=get j _ h1;obtain⟨hk,h2⟩:=get k _ h2;rw[hs j hj]at h3;rw[hs k hk]at h4;exact x.dis j k e f a h1 h2 h3 h4
end
section
variable{X:Cx}{CL:ClA}{W:XW}{st:AO}{rest:Ac AO}{f g:Rho->O}{pos:AK}
def NS(X:Cx)(CL:ClA)(W:XW)(st:AO)(f:Rho->O):Prop:=∀ Fz B,PS X st (λD Y H=>∃ Z,Sx X.K CL Fz B Z Y H/\IH X.K CL Fz B W Y H (f Z) D)
def NSc(X:Cx)(CL:ClA)(W:XW)(sts:Ac AO)(f:Rho->O):Prop:=∀(tail:Ac AO)(u:TS),PSs X tail u->∀ Fz B,PSs X (sts++tail) (λD Y H=>∃ Z,Sx X.K CL Fz B Z Y H/\IH X.K CL Fz B W Y H (f Z) {D with nx:=u D})
noncomputable def Px:O->Ai
 |.ret _ _=>Aa
 |.exn _ _=>Aa
 |.bad=>Aa
 |_=>Ae
theorem SS.ns(h:SS X CL W st f)(hn:∀ Z,Px (f Z)=Aa):NS X CL W st f:=λFz B=>PS.weak (h Fz B) λD Y H ⟨Z,x,p⟩=>⟨Z,x,by
 have:=hn Z;cases e:f Z with
 |ret d b=>rw[e]at p;exact p
 |exn y Z'=>rw[e]at p;exact p
 |bad=>rw[e]at p;exact p
 | _=>rw[e]at this;cases this⟩
theorem qV{c:Al}{a b:Ac AO}{fa fb:Rho->O}(hc:SB X CL W c fc)(ha:NSc X CL W a fa)(hb:NSc X CL W b fb):NS X CL W (.If c a b pos) (λZ=>O.of Z (fc Z) λk=>if k=Aa then fa Z else fb Z):=λFz B pI s Y H D I ⟨Z,x,p⟩=>by
 have ha':=ha [] _ LX Fz B;have hb':=hb [] _ LX Fz B;rw[BE]at ha' hb';refine O4 (hc (By B Z Y)) ha' hb' pI s Y H D I ⟨x.aok,Z,x.good,?_⟩;dsimp only at p;cases e:fc Z with
 |bad=>rw[e]at p;exact p.elim
 |exn y=>rw[e]at p;exact λH' s=>p H' λb o z=>s _ _ (x.same b o z)
 |ok k=>
  rw[e,O.of_ok]at p;intro H' s;cases k with
  |true=>exact⟨Z,x.grow s,IH.same s p⟩
  |false=>exact⟨Z,x.grow s,IH.same s p⟩
theorem gD:NSc X CL W [] (λZ=>.next Z):=λtail u h Fz B=>PSs.weak h λD Y H ⟨Z,x,p⟩=>p H (AB.refl H)
theorem Zu(h1:NS X CL W st f)(hk:∀ Z Z',f Z=.next Z'->Z'=Z)(h2:NSc X CL W rest g):NSc X CL W (st::rest) (λZ=>(f Z).seq g):=λtail u h Fz B=>PSs.weak (NC (h1 Fz B) (h2 tail u h Fz B)) λD Y H ⟨Z,x,p⟩=>⟨Z,x,by
 dsimp only at p;cases e:f Z with
 |next Z'=>
  rw[e]at p;have:=hk _ _ e;subst this;exact λH' s=>⟨Z',x.grow s,IH.same s p⟩
 |ret d b=>rw[e]at p;exact p
 |exn y Z'=>rw[e]at p;exact p
 | _=>rw[e]at p;exact p.elim⟩
def tP1(X:Cx)(CL:ClA)(Fz:Ah->HO->Prop)(B:Ah->Prop)(Z:Rho)(Y0:L2.St)(r:R D)(b:Ai):TE:=λY H Q=>Y=Y0/\Sx X.K CL Fz B Z Y H/\match r with
  |.ok d=>∀ v H',AB H H'->Rep X.K CL H' B v d->(b=Aa->∀ ds,d=.lst ds->∃ a xs,v=.ref a/\(∀ o,¬ Fz a o)/\H' a=Ab (.lst xs)/\xs.length=ds.length)->Q v H'
  |_=>Bk
def tPs(X:Cx)(CL:ClA)(Fz:Ah->HO->Prop)(B:Ah->Prop)(Z:Rho)(Y0:L2.St)(r:R (Ac (D×Ai))):TA:=λY H Q=>Y=Y0/\Sx X.K CL Fz B Z Y H/\match r with
  |.ok xs=>∀ vs H',AB H H'->Reps X.K CL H' B vs (xs.map (·.1))->(∀(k:Ag)(ds:Ac D),xs[k]?=Ab (.lst ds,Aa)->∃ a ys,vs[k]?=Ab (.ref a)/\(∀ o,¬ Fz a o)/\H' a=Ab (.lst ys)/\ys.length=ds.length)->Q vs H'
  |_=>Bk
variable{Fz:Ah->HO->Prop}{B:Ah->Prop}{Z:Rho}{Y0:L2.St}{e:Al}{es:Ac Al}
theorem To(he:SC X CL W fr e fe):PE X e (tP1 X CL Fz B Z Y0 (noX (fe Z)) fr):=λpI s Y H Q I ⟨e0,x,p⟩=>by
 subst e0;refine he (By B Z Y) pI s Y H Q I ⟨x.aok,Z,x.good,?_⟩;cases e1:fe Z with
 |bad=>rw[e1]at p;exact p.elim
 |exn y=>rw[e1]at p;exact p.elim
 |ok d=>
  rw[e1]at p;refine λv H' s r=>p v H' s (Rep.sub (λa h=>.inl h) _ r.1) λz ds ed=>?_
  obtain⟨a,xs,h0,h1,h2,h3⟩:=r.2 z ds ed;refine⟨a,xs,h0,λo z=>?_,h2,h3.length⟩
  have:=x.same a o z;rw[h1]at this;cases this
theorem hG{i:Ag}(he:PE X e (Gi i)):PE X e (tP1 X CL Fz B Z Y0 (noX (DT Z i)) (Ky Z i)):=λpI s Y H Q I ⟨e0,x,p⟩=>by
 subst e0;refine he pI s Y H Q I ?_;cases e:DT Z i with
 |bad=>rw[e]at p;exact p.elim
 |exn z=>exact(NL e).elim
 |ok d=>
  rw[e]at p;obtain⟨o,e⟩:=N2 e;have eo:Ky Z i=o:=by unfold Ky;rw[e]
  rw[eo]at p;cases o with
  |false=>
   obtain⟨v,q,r⟩:=x.good.sh i d e;exact⟨v,q,p v H (AB.refl H) (Rep.sub (λa h=>.inl h) _ r) λz=>nomatch z⟩
  |true=>
   obtain⟨a,u,q,ha,hh,r⟩:=x.good.ow i d e;obtain⟨n1,n2⟩:=x.new i _ a e q;refine⟨_,q,p _ H (AB.refl H) (r.rep n2 hh λa h=>.inl h) λ_ ds' e'=>?_⟩
   cases e';obtain⟨xs,rfl,r'⟩:=r.lst_of;exact⟨a,xs,rfl,n1,hh,r'.length⟩
theorem jU:PA X [] (tPs X CL Fz B Z Y0 (.ok [])):=PA.weak FX λY H Q ⟨e0,x,p⟩=>p [] H (AB.refl H) trivial λk ds z=>by simp at z
theorem bX{r:R D}{b:Ai}{rs:R (Ac (D×Ai))}(he:PE X e (tP1 X CL Fz B Z Y0 r b))(hs:PA X es (tPs X CL Fz B Z Y0 rs))(hst:Av (e::es) X.env=(Ae,eval e X.env)::Av es X.env):PA X (e::es) (tPs X CL Fz B Z Y0 (r.bind λd=>rs.bind λxs=>.ok ((d,b)::xs))):=PA.weak (ED he hs hst) λY H Q ⟨e0,x,p⟩=>⟨e0,x,by
 cases e1:r with
 |bad=>rw[e1]at p;exact p.elim
 |exn y=>rw[e1]at p;exact p.elim
 |ok d=>
  rw[e1,R.bind_ok]at p;intro v H1 s1 r1 f1;refine⟨e0,x.grow s1,?_⟩;cases e2:rs with
  |bad=>rw[e2]at p;exact p.elim
  |exn y=>rw[e2]at p;exact p.elim
  |ok xs=>
   rw[e2,R.bind_ok]at p;intro vs H2 s2 r2 f2;refine p (v::vs) H2 (s1.trans s2) ⟨r1.same s2,r2⟩ λk ds z=>?_
   cases k with
   |zero=>
    have z':(d,b)=(.lst ds,Aa):=Bh z;cases z';obtain⟨a,ys,h1,h2,h3,h4⟩:=f1 rfl ds rfl;exact⟨a,ys,by rw[h1];rfl,h2,s2 _ _ h3,h4⟩
   | succ k=>exact f2 k ds z⟩
theorem aS{x1:Ag}{tp:AK}{fs:Rho->R (Ac (D×Ai))}(hs:∀ Fz B Z Y0,PA X es (tPs X CL Fz B Z Y0 (fs Z)))(hz:∀ Z xs,fs Z=.ok xs->xs.length<=100000):SS X CL W (.Return (Ab (.Tuple es x1 tp)) pos) (λZ=>O.of Z (noX (fs Z)) λxs=>if xs.all Ku=Aa then .ret (.tup (xs.map (·.1))) Aa else .bad):=λFz B pI s Y H D I ⟨Z,x,p⟩=>by
 refine Mg (SH (hs Fz B Z Y)) pI s Y H D I ⟨rfl,x,?_⟩;dsimp only at p;cases e:fs Z with
 |bad=>rw[e]at p;exact p.elim
 |exn y=>rw[e]at p;exact p.elim
 |ok xs=>
  rw[e]at p;have p:BJ X.K CL Fz B W (if xs.all Ku=Aa then .ret (.tup (xs.map (·.1))) Aa else .bad) D:=p
  by_cases hk:xs.all Ku=Aa
  .rw[Ax hk]at p;intro vs H1 s1 r1 f1;refine⟨by rw[r1.length,Bl,EO];have:=hz Z xs e;omega,λq hq=>?_⟩
   have aok:AOk H1 B:=λa h=>(x.aok.same s1) a (.inl h)
   have sm:AB H1 (upd H1 q (.tup vs)):=Fe hq _;refine p (.ref q) _ (λb o z=>sm _ _ (s1 _ _ (x.same b o z))) (Ji aok hq r1) (λ_ ds' z=>by cases z) λ_ ds' z hl=>?_
   cases z;refine⟨q,vs,rfl,SqT.of G0,r1.same sm,λk es' z=>?_⟩
   rw[Dm]at z;cases ek:xs[k]? with
   |none=>rw[ek]at z;cases z
   |some y=>
    rw[ek]at z;have z:y.1=.lst es':=Bh z;have hy:=Dr.mp hk y (DP ek);obtain⟨d,b⟩:=y;cases z;have hb:b=Aa:=hy;subst hb;obtain⟨a,ys,h1,h2,h3,h4⟩:=f1 k es' ek;exact⟨a,ys,h1,h2,sm _ _ h3,h4⟩
  .rw[AF hk]at p;exact p.elim
end
section
variable{X:Cx}{CL:ClA}{W:XW}
def SF(X:Cx)(CL:ClA)(W:XW)(e:Al)(f:Rho->R D):Prop:=∀ A,PE X e (λY H Q=>AOk H A/\∃ Z,Good X.K CL A Z Y H/\Bf (λH' v d=>Rep X.K CL H' A v d/\FT X.K CL A (λa=>H a=Af) H' v d) W H (f Z) Q)
theorem Z_6{k n:Ag}{f:Ah}{F:Ac D->R D}{e:Al}{es:Ac Al}{fs ft:Rho->R (Ac D)}{sh:Rho->Ai}(G:FnOk X.prog X.w X.K X.mg X.base CX k f fd ps (spD X.K CL n Aa F))(hr:Room k X.A)(hg:Gl X x)(hm:X.mg x=Ab (.ref f))(hk:CC X.K (.ref f)=Aa)(hb:GC X.K fd ps [])(hx:∀ A,Jw CX X (EKW X.K CL A W))(ha:SA X CL W (e::es) fs)(hst:∀ Z,sh Z=Aa->ft Z=fs Z)(hn:∀ Z ds,ft Z=.ok ds->ds.length=n)(hdb:(x==("__debug__" : Ak))=Ae)(he:Av (e::es) X.env=(Ae,eval e X.env)::Av es X.env)(hpl:∀ pos,(BX pos (Av es X.env)).any (·.1)=Ae):SF X CL W (.Call (.Name x p) (e::es) [] pos) (λZ=>if sh Z=Aa then (ft Z).bind F else .bad):=λA pI s Y H Q I ⟨hA,Z,gd,q⟩=>by
 dsimp only at q;by_cases hs:sh Z=Aa
 .rw[Ax hs,hst Z hs]at q;refine Ob G hr hg hm hk hb .nil (hx A) (ha A) hdb he (hpl _) pI s Y H Q I ⟨hA,Z,gd,?_⟩;cases e1:fs Z with
  |bad=>rw[e1]at q;exact q
  |exn y=>rw[e1]at q;exact q
  |ok ds=>
   rw[e1,R.bind_ok]at q;intro vs H1 s1 r1;refine⟨ds,A,by rw[BE,r1.length];exact hn Z ds (by rw[hst Z hs];exact e1),hA.same s1,by rw[BE];exact r1,?_⟩
   cases e2:F ds with
   |ok d=>
    rw[e2]at q;exact λv H2 s2 r2=>q v H2 (s1.trans s2) ⟨r2.1.1,(r2.2 rfl).mono λa z=>s1.free z⟩
   |exn y=>rw[e2]at q;exact λcls dx H2 s2 xr=>⟨y,xr,q H2 (s1.trans s2)⟩
   |bad=>rw[e2]at q;exact q.elim
 .rw[AF hs]at q;exact q.elim
theorem SM{r:R α}{f:α->O}{Fz:Ah->HO->Prop}{D':Ends}(h:BJ K CL Fz B W (O.of Z (noX r) f) D'):∃ d,r=.ok d/\BJ K CL Fz B W (f d) D':=by
 cases r with
 |ok d=>exact⟨d,rfl,h⟩
 |exn y=>exact h.elim
 |bad=>exact h.elim
theorem SE.any{e:Al}{f:Rho->R D}(h:SE X CL W e f):PE X e (λY H Q=>∃ A,AOk H A/\∃ Z,Good X.K CL A Z Y H/\Bf (λH=>Rep X.K CL H A) W H (f Z) Q):=λpI s Y H Q I ⟨A,z⟩=>h A pI s Y H Q I z
theorem SB.any{e:Al}{f:Rho->R Ai}(h:SB X CL W e f):PT X e (λY H Q=>∃ A,AOk H A/\∃ Z,Good X.K CL A Z Y H/\C1 W H (f Z) Q):=λpI s Y H Q I ⟨A,z⟩=>h A pI s Y H Q I z
def okN(Z:Rho)(o:O):Prop:=o=.next Z\/Px o=Aa
def PH(K:Fg)(CL:ClA)(ts:Ac Ag)(k:Ag)(g:TG)(Tg:L2.St->Hp->V->Prop):Prop:=∀ Fz B Z Y H N v d Z1 Q,Sx K CL Fz B Z Y H->Rep K CL H (By B Z Y) v d->FT K CL (By B Z Y) N H v d->Js ts d Z=.ok Z1 ->
 (∀ Y1,Sx K CL Fz B Z1 Y1 H->(∀ H',Sx K CL Fz B Z Y H'->Sx K CL Fz B (Hy ts Z) Y1 H')->(∀ ds es,d=.tup ds->ds[k]?=Ab (.lst es)->k<2->(ts.all λi=>decide (i<Z.length))=Aa->∃ a xs,Tg Y1 H (.ref a)/\N a/\H a=Ab (.lst xs)/\xs.length=es.length)->Q Y1 H)->g v Y H Q
theorem RP{g:TG}{Tg:L2.St->Hp->V->Prop}{v0 o c e:Al}{S1:AO}{pre a b:Ac AO}{ap cp q1 q2:AK}{fcall:Rho->R D}{fp fa fb:Rho->O}(hcall:SF X CL W v0 fcall)(k1:∀ te,PE X v0 te->PS X S1 (Li te g))(hset:PH X.K CL ts k g Tg)(hTm:∀ Y H H' u,AB H H'->Tg Y H u->Tg Y H' u)(hT:PE X o (λY H Q=>∃ u,Tg Y H u/\Q u H))(hp:NSc X CL W pre fp)(hpk:∀ Z,okN Z (fp Z))(hc:SB X CL W c fc)(ha:NSc X CL W a fa)(hak:∀ Z,okN Z (fa Z))(hb:NSc X CL W b fb)(hbk:∀ Z,okN Z (fb Z))(he:SE X CL W e fe)(hbase:DI o "append" X.env (eval o X.env)=eval o X.env)(hfew:((BX cp (Av [e] X.env)).all (λx=>!x.1)&&(Fv cp (Ek [] X.env)).all (λx=>x.1.isSome)&&decide ([e].length+([]:Ac CB).length+(if ([]:Ac CB).isEmpty then 0 else 1)<30))=Aa)(hline:(ap.endLine==cp.line)=Aa)(hs:Av [e] X.env=[(Ae,eval e X.env)])(hsw:CT (.Call (.Attribute o "append" ap) [e] [] cp) Af q1.line X.env=pure Ae):
  SSs X CL W (S1::(pre++[.If c a (b++[.Expr (.Call (.Attribute o "append" ap) [e] [] cp) q1]) q2])) (λZ=>JG ts (fcall Z) k fp fa fb fc fe Z):=λFz B pI s Y H D I ⟨Z,x,p⟩=>by
 have hsp:PS X (.Expr (.Call (.Attribute o "append" ap) [e] [] cp) q1) _:=Ka (MB D7 Wy WA Qg hT (ED he.any FX hs) hbase hfew hline hs rfl) hsw;have ha':=ha [] _ LX Fz B;rw[BE]at ha';unfold JG at p;obtain⟨d,e1,p⟩:=SM p;cases es:Js ts d Z with
 |bad=>rw[es]at p;exact p.elim
 |exn y=>
  exfalso
  unfold Js at es;split at es
  .cases es
  .split at es
   .split at es<;>cases es
   .cases es
  .cases es
 |ok Z1=>
 rw[es,O.of_ok]at p;refine(NC (k1 _ (hcall (By B Z Y))) (hp _ _ (Rw (O4 hc.any ha' (hb _ _ (Rw hsp) Fz B))) Fz B)) pI s Y H D I ⟨x.aok,Z,x.good,?_⟩;rw[e1];intro v H1 s1 ⟨rv,ft⟩;refine hset Fz B Z Y H1 (λa=>H a=Af) v d Z1 _ (x.grow s1) rv ft es λY1 x1 hoff htg=>⟨Z1,x1,?_⟩
 have xe:∀ H',AB H H'->Sx X.K CL Fz B (Hy ts Z) Y1 H':=λH' z=>hoff H' (x.grow z)
 rcases hpk Z1 with ep|ep
 rotate_left
 .cases eo:fp Z1 with
  |ret d' b'=>rw[eo]at p;exact p
  |exn y Z'=>rw[eo]at p;exact p
  |bad=>rw[eo]at p;exact p.elim
  |_=>rw[eo]at ep;cases ep
 rw[ep]at p ⊢;intro H2 s2;obtain⟨qb,e2,p⟩:=SM (show BJ X.K CL Fz B W (O.of Z1 (noX (fc Z1)) _) D from p)
 refine⟨By B Z1 Y1,(x1.grow s2).aok,Z1,(x1.grow s2).good,?_⟩;rw[e2];intro H3 s3;cases qb with
 |true=>
  have p:BJ X.K CL Fz B W ((fa Z1).seq λ_=>.next (Hy ts Z)) D:=p
  refine⟨Z1,(x1.grow s2).grow s3,?_⟩;rcases hak Z1 with ea|ea
  .rw[ea]at p ⊢;exact λH4 s4=>p Y1 H4 (xe H4 (((s1.trans s2).trans s3).trans s4))
  .cases eo:fa Z1 with
   |ret d' b'=>rw[eo]at p;exact p
   |exn y Z'=>rw[eo]at p;exact p
   |bad=>rw[eo]at p;exact p.elim
   |_=>rw[eo]at ea;cases ea
 |false=>
  have p:BJ X.K CL Fz B W (((fb Z1).seq λ_=>Lj ts d k (fe Z1) Z1 Z).seq λ_=>.next (Hy ts Z)) D:=p
  refine⟨Z1,(x1.grow s2).grow s3,?_⟩;rcases hbk Z1 with eb|eb
  rotate_left
  .cases eo:fb Z1 with
   |ret d' b'=>rw[eo]at p;exact p
   |exn y Z'=>rw[eo]at p;exact p
   |bad=>rw[eo]at p;exact p.elim
   |_=>rw[eo]at eb;cases eb
  rw[eb]at p ⊢;intro H4 s4;have p:BJ X.K CL Fz B W ((Lj ts d k (fe Z1) Z1 Z).seq λ_=>.next (Hy ts Z)) D:=p
  unfold Lj at p;cases d with
  |tup ds=>
   dsimp only at p;cases ek:ds[k]? with
   |none=>rw[ek]at p;exact p.elim
   |some dk=>
    rw[ek]at p;cases dk with
    |lst xs0=>
     dsimp only at p;cases e5:fe Z1 with
     |bad=>rw[e5]at p;exact p.elim
     |exn y=>rw[e5]at p;exact p.elim
     |ok dv=>
      rw[e5]at p;have p:BJ X.K CL Fz B W ((if (B4 (xs0.length+1)&&decide (k<2)&&ts.all (λi=>decide (i<Z.length)))=Aa then O.next Z1 else .bad).seq λ_=>.next (Hy ts Z)) D:=p
      by_cases hk:(B4 (xs0.length+1)&&decide (k<2)&&ts.all (λi=>decide (i<Z.length)))=Aa
      .rw[Ax hk]at p;have p:BJ X.K CL Fz B W (.next (Hy ts Z)) D:=p;rw[Ap,Ap]at hk;obtain⟨⟨hz,hk2⟩,hts⟩:=hk;obtain⟨l,xs,tg,hn,hl,hlen⟩:=htg ds xs0 rfl ek (Bq hk2) hts;have s14:=(s2.trans s3).trans s4;have hl4:=s14 _ _ hl;refine⟨.ref l,hTm _ _ _ _ s14 tg,.inl ⟨rfl,xs,SqL.of hl4⟩,By B Z1 Y1,(((x1.grow s2).grow s3).grow s4).aok,Z1,(((x1.grow s2).grow s3).grow s4).good,?_⟩;rw[e5];intro u H5 s5 ru;have hl5:=s5 _ _ hl4;refine⟨l,xs,u,rfl,rfl,hl5,?_,p Y1 _ (xe _ λb' o' z=>?_)⟩
       .have:=Ga hz;omega
       .have ne:b'≠l:=λz'=>by rw[z',hn]at z;cases z
        rw[CK ne];exact s5 _ _ (s14 _ _ (s1 _ _ z))
      .rw[AF hk]at p;exact p.elim
    |_=>exact p.elim
  |_=>exact p.elim
theorem cU{i:Ag}{v:V}:∀ a,By B (Z.set i (Ab (d,Ae))) (Y.set i (Ab v)) a->By B Z Y a:=λa h=>by
 rcases h with h|⟨j,e,h1,h2⟩
 .exact .inl h
 .by_cases hj:i=j
  .subst hj;have:=Gb h1;cases this
  .rw[Cb hj]at h1 h2;exact .inr ⟨j,e,h1,h2⟩
theorem Z_8(x k:Ag):PH K CL [x] k (Ey x) (λY H u=>∃ q us,Y[x]?=Ab (Ab (.ref q))/\SqT K H q us/\us[k]?=Ab u):=λFz B Z Y H N v d Z1 Q xx rv ft es kk=>by
 cases es;refine kk _ (xx.set x rv) (λH' y=>y.drop x (by rw[A6]) λj hj=>Cb hj) λds es e ek _ hts=>?_
 subst e;obtain⟨q,us,rfl,hq,_,hi⟩:=ft ds rfl (Cs.mpr ⟨_,DP ek,rfl⟩);obtain⟨a,xs,h1,h2,h3,h4⟩:=hi k es ek;have hx:x<Y.length:=by
  rw[<-xx.len];simpa using hts
 exact⟨a,xs,⟨q,us,BP hx,hq,h1⟩,h2,h3,h4⟩
theorem Z_7(x y k:Ag):PH K CL [x,y] k (gSq K 2 (GA (Ey x) (GA (Ey y) Hd))) (λY H u=>Y[if k=0 then x else y]?=Ab (Ab u)):=λFz B Z Y H N v d Z1 Q xx rv ft es kk=>by
  unfold Js at es;dsimp only at es;split at es
  · rename_i d1 d2;split at es
    · cases es
    · rename_i hne;have hxy:x≠y:=λz=>hne (by rw[z];exact Cw y)
      cases es;have hu:∃ q us,v=.ref q/\SqT K H q us/\Reps K CL H (By B Z Y) us [d1,d2]/\∀(k:Ag)(es:Ac D),[d1,d2][k]?=Ab (.lst es)->∃ a xs,us[k]?=Ab (.ref a)/\N a/\H a=Ab (.lst xs)/\xs.length=es.length:=by
        cases hl:([d1,d2].any G6) with
        |true=>exact ft _ rfl hl
        |false=>
          obtain⟨q,us,e,_,hq,rs⟩:=rv;refine⟨q,us,e,hq,rs,λk es ek=>?_⟩
          have:=Cs.mpr ⟨_,DP ek,(rfl:G6 (.lst es)=Aa)⟩;rw[hl]at this;cases this
      obtain⟨q,us,rfl,hq,rs,hi⟩:=hu
      match us,rs with
      |[u1,u2],rs=>
        obtain⟨r1,r2,_⟩:=rs;refine .inl ⟨q,[u1,u2],rfl,hq,rfl,u1,[u2],rfl,u2,[],rfl,rfl,?_⟩;refine kk _ ((xx.set x r1).set y (Rep.sub cU _ r2)) (λH' z=>(z.drop x (Y':=Y.set x (Ab u1)) (by rw[A6]) λj hj=>Cb hj).drop y (by rw[A6]) λj hj=>Cb hj) λds es e ek hk hts=>?_
        cases e;obtain⟨a,xs,h1,h2,h3,h4⟩:=hi k es ek;refine⟨a,xs,?_,h2,h3,h4⟩;have hts':x<Y.length/\y<Y.length:=by
          rw[<-xx.len];simpa using hts
        match k,hk,h1 with
        |0,_,h1=>
          have h1:u1=.ref a:=Bh h1;subst h1;show ((Y.set x (Ab (.ref a))).set y (Ab u2))[x]?=_;rw[Cb (DV hxy),BP hts'.1]
        |1,_,h1=>
          have h1:u2=.ref a:=Bh h1;subst h1;show ((Y.set x (Ab u1)).set y (Ab (.ref a)))[y]?=_;rw[BP (by rw[A6];exact hts'.2)]
  · cases es
end
theorem noF{P:Prop}(h:Ae=Aa):P:=nomatch h
structure Tc where
 sc:B0
 N:Ac Ak
 /-- a def's name,its number,how many parameters it has -/
 fns:Ac (Ak×Ag×Ag)
 /-- built-in names that the text does not hide -/
 bl:Ac Ak
 /-- exceptions' classes by their names: those that are raised,all that are asked for -/
 rzs:Ac (Ak×Ag)
 exs:Ac (Ak×Ag)
 /-- the text's constants -/
 gls:Ac (Ak×Ag)
noncomputable def Pp(T:Tc)(x:Ak):Ai:=match T.sc.names.lookup x with
  |some .local=>Aa
  |some .cell=>Aa
  |some .free=>Aa
  |_=>Ae
noncomputable def Ib(T:Tc)(x:Ak):Ai:=match T.sc.names.lookup x with
  |some .local=>Aa
  |some .cell=>Aa
  |_=>Ae
noncomputable def glB(T:Tc)(x:Ak):Ai:=T.sc.names.lookup x==Ab .globalImplicit
noncomputable def JC:Al->Ao (Ak×AK)
 |.Name x p=>Ab (x,p)
 |_=>Af
theorem J9{e:Al}{t:Ak×AK}(h:JC e=Ab t):e=.Name t.1 t.2:=by
 cases e with
 |Name x p=>cases h;rfl
 |_=>exact nomatch (show Af=Ab t from h)
noncomputable def Pk:Al->Ao (Al×Ac Al×AK)
  | .Call f as ks p=>(match ks with
    |[]=>Ab (f,as,p)
    | _=>Af)
  |_=>Af
theorem RH{e:Al}{t:Al×Ac Al×AK}(h:Pk e=Ab t):e=.Call t.1 t.2.1 [] t.2.2:=by
 cases e with
 |Call f as ks p=>
  cases ks with
  |nil=>cases h;rfl
  |cons=>exact nomatch (show Af=Ab t from h)
 |_=>exact nomatch (show Af=Ab t from h)
noncomputable def Lh{α:Type}:Ac α->Ao (α×α)
 |[a,b]=>Ab (a,b)
 |_=>Af
theorem L0{l:Ac α}{t:α×α}(h:Lh l=Ab t):l=[t.1,t.2]:=by
 cases l with
 |nil=>exact nomatch (show Af=Ab t from h)
 |cons a l=>
  cases l with
  |nil=>exact nomatch (show Af=Ab t from h)
  |cons b l=>
   cases l with
   |nil=>cases h;rfl
   |cons=>exact nomatch (show Af=Ab t from h)
noncomputable def Ut:Al->Ao (Al×Ak×AK)
 |.Attribute o m p=>Ab (o,m,p)
 |_=>Af
theorem bQ{e:Al}{t:Al×Ak×AK}(h:Ut e=Ab t):e=.Attribute t.1 t.2.1 t.2.2:=by
 cases e with
 |Attribute o m p=>cases h;rfl
 |_=>exact nomatch (show Af=Ab t from h)
noncomputable def xMt(e:Al):Ao (Ak×Ak×Al×Al):=(Pk e).bind λc=>(Ut c.1).bind λa=>(JC a.1).bind λx=>(Lh c.2.1).bind λab=>if a.2.2.endLine=c.2.2.line then Ab (x.1,a.2.1,ab.1,ab.2) else Af
theorem S7{e y v:Al}{m:Ak}(h:xMt e=Ab (x,m,y,v)):∃ p ap cp,e=.Call (.Attribute (.Name x p) m ap) [y,v] [] cp/\ap.endLine=cp.line:=by
 obtain⟨c,e1,h⟩:=AN.mp h;obtain⟨a,e2,h⟩:=AN.mp h;obtain⟨x',e3,h⟩:=AN.mp h;obtain⟨ab,e4,h⟩:=AN.mp h;by_cases hl:a.2.2.endLine=c.2.2.line
 .rw[Ax hl]at h;cases h;rw[RH e1,bQ e2,J9 e3,L0 e4];exact⟨_,_,_,rfl,hl⟩
 .rw[AF hl]at h;cases h
noncomputable def Ur:Al->Ai
 |.Dict ks vs _=>ks.isEmpty&&vs.isEmpty
 |_=>Ae
theorem bO{e:Al}(h:Ur e=Aa):∃ p,e=.Dict [] [] p:=by
 cases e with
 |Dict ks vs p=>
  cases ks with
  |nil=>
   cases vs with
   |nil=>exact⟨p,rfl⟩
   |cons=>exact nomatch (show Ae=Aa from h)
  |cons=>exact nomatch (show Ae=Aa from h)
 |_=>exact nomatch (show Ae=Aa from h)
noncomputable def Ll(x:Ak):Ai:=!(x==("__debug__" : Ak)) && !(x==("__classdict__" : Ak)) && !(x==("__name__" : Ak))
noncomputable def isV(T:Tc)(x:Ak)(i:Ag):Ai:=T.N[i]? == Ab x&&Pp T x&&Ll x
noncomputable def isB(T:Tc)(x:Ak):Ai:=T.bl.contains x&&glB T x&&Ll x
theorem CO{a b:Ai}(h:(a&&b)=Aa):a=Aa/\b=Aa:=(Ap a b).mp h
theorem orT{a b:Ai}(h:(a||b)=Aa):a=Aa\/b=Aa:=(Ca a b).mp h
noncomputable def G2(e:Al)(F:Ak->Ai):Ai:=if c:e.ctorIdx=23 then Wg (motive_1:=λ_=>Ai) e c λx _=>F x else Ae
theorem GX{e:Al}{F:Ak->Ai}(h:G2 e F=Aa):∃ x p,e=Wf x p/\F x=Aa:=by
 by_cases c:e.ctorIdx=23
 .exact Wg (motive_1:=λe=>G2 e F=Aa->∃ x p,e=Wf x p/\F x=Aa) e c (λx p h=>⟨x,p,rfl,h⟩) h
 .exact noF ((B7 c).symm.trans h)
noncomputable def Jy(e:Al)(F:Const->Ai):Ai:=if c:e.ctorIdx=19 then Wa (motive_1:=λ_=>Ai) e c λc _ _=>F c else Ae
theorem KZ{e:Al}{F:Const->Ai}(h:Jy e F=Aa):∃ c u p,e=V9 c u p/\F c=Aa:=by
 by_cases c:e.ctorIdx=19
 .exact Wa (motive_1:=λe=>Jy e F=Aa->∃ c u p,e=V9 c u p/\F c=Aa) e c (λc u p h=>⟨c,u,p,rfl,h⟩) h
 .exact noF ((B7 c).symm.trans h)
noncomputable def O1(e:Al)(F:Al->Fu->Al->Ai):Ai:=if c:e.ctorIdx=2 then V2 (motive_1:=λ_=>Ai) e c λx o y _=>F x o y else Ae
theorem Zr{e:Al}{F:Al->Fu->Al->Ai}(h:O1 e F=Aa):∃ x o y p,e=V1 x o y p/\F x o y=Aa:=by
 by_cases c:e.ctorIdx=2
 .exact V2 (motive_1:=λe=>O1 e F=Aa->∃ x o y p,e=V1 x o y p/\F x o y=Aa) e c (λx o y p h=>⟨x,o,y,p,rfl,h⟩) h
 .exact noF ((B7 c).symm.trans h)
noncomputable def Lm(e:Al)(F:JM->Al->Ai):Ai:=if c:e.ctorIdx=3 then Wo (motive_1:=λ_=>Ai) e c λo x _=>F o x else Ae
theorem RE{e:Al}{F:JM->Al->Ai}(h:Lm e F=Aa):∃ o x p,e=Wn o x p/\F o x=Aa:=by
 by_cases c:e.ctorIdx=3
 .exact Wo (motive_1:=λe=>Lm e F=Aa->∃ o x p,e=Wn o x p/\F o x=Aa) e c (λo x p h=>⟨o,x,p,rfl,h⟩) h
 .exact noF ((B7 c).symm.trans h)
noncomputable def Kt(e:Al)(F:BoolOp->Ac Al->AK->Ai):Ai:=if c:e.ctorIdx=0 then V4 (motive_1:=λ_=>Ai) e c λo xs p=>F o xs p else Ae
theorem NI{e:Al}{F:BoolOp->Ac Al->AK->Ai}(h:Kt e F=Aa):∃ o xs p,e=V3 o xs p/\F o xs p=Aa:=by
 by_cases c:e.ctorIdx=0
 .exact V4 (motive_1:=λe=>Kt e F=Aa->∃ o xs p,e=V3 o xs p/\F o xs p=Aa) e c (λo xs p h=>⟨o,xs,p,rfl,h⟩) h
 .exact noF ((B7 c).symm.trans h)
noncomputable def Ks(e:Al)(F:Al->Ac Db->Ac Al->Ai):Ai:=if c:e.ctorIdx=15 then V8 (motive_1:=λ_=>Ai) e c λx os ys _=>F x os ys else Ae
theorem NG{e:Al}{F:Al->Ac Db->Ac Al->Ai}(h:Ks e F=Aa):∃ x os ys p,e=V7 x os ys p/\F x os ys=Aa:=by
 by_cases c:e.ctorIdx=15
 .exact V8 (motive_1:=λe=>Ks e F=Aa->∃ x os ys p,e=V7 x os ys p/\F x os ys=Aa) e c (λx os ys p h=>⟨x,os,ys,p,rfl,h⟩) h
 .exact noF ((B7 c).symm.trans h)
noncomputable def Lf(e:Al)(F:Al->Ac Al->Ac CB->AK->Ai):Ai:=if c:e.ctorIdx=16 then V6 (motive_1:=λ_=>Ai) e c λf as ks p=>F f as ks p else Ae
theorem NH{e:Al}{F:Al->Ac Al->Ac CB->AK->Ai}(h:Lf e F=Aa):∃ f as ks p,e=V5 f as ks p/\F f as ks p=Aa:=by
 by_cases c:e.ctorIdx=16
 .exact V6 (motive_1:=λe=>Lf e F=Aa->∃ f as ks p,e=V5 f as ks p/\F f as ks p=Aa) e c (λf as ks p h=>⟨f,as,ks,p,rfl,h⟩) h
 .exact noF ((B7 c).symm.trans h)
noncomputable def Mr(e:Al)(F:Al->Ak->AK->Ai):Ai:=if c:e.ctorIdx=20 then V0 (motive_1:=λ_=>Ai) e c λo m p=>F o m p else Ae
theorem Q3{e:Al}{F:Al->Ak->AK->Ai}(h:Mr e F=Aa):∃ o m p,e=VZ o m p/\F o m p=Aa:=by
 by_cases c:e.ctorIdx=20
 .exact V0 (motive_1:=λe=>Mr e F=Aa->∃ o m p,e=VZ o m p/\F o m p=Aa) e c (λo m p h=>⟨o,m,p,rfl,h⟩) h
 .exact noF ((B7 c).symm.trans h)
noncomputable def Ko(e:Al)(F:Al->Al->Ai):Ai:=if c:e.ctorIdx=21 then Wk (motive_1:=λ_=>Ai) e c λx y _=>F x y else Ae
theorem LP{e:Al}{F:Al->Al->Ai}(h:Ko e F=Aa):∃ x y p,e=Wj x y p/\F x y=Aa:=by
 by_cases c:e.ctorIdx=21
 .exact Wk (motive_1:=λe=>Ko e F=Aa->∃ x y p,e=Wj x y p/\F x y=Aa) e c (λx y p h=>⟨x,y,p,rfl,h⟩) h
 .exact noF ((B7 c).symm.trans h)
noncomputable def OY(e:Al)(F:Ao Al->Ao Al->Ao Al->Ai):Ai:=if c:e.ctorIdx=26 then Wi (motive_1:=λ_=>Ai) e c λl u s _=>F l u s else Ae
theorem ZU{e:Al}{F:Ao Al->Ao Al->Ao Al->Ai}(h:OY e F=Aa):∃ l u s p,e=Wh l u s p/\F l u s=Aa:=by
 by_cases c:e.ctorIdx=26
 .exact Wi (motive_1:=λe=>OY e F=Aa->∃ l u s p,e=Wh l u s p/\F l u s=Aa) e c (λl u s p h=>⟨l,u,s,p,rfl,h⟩) h
 .exact noF ((B7 c).symm.trans h)
noncomputable def IL(e:Al)(F:Ac Al->Ai):Ai:=if c:e.ctorIdx=25 then Wm (motive_1:=λ_=>Ai) e c λxs _ _=>F xs else Ae
theorem KY{e:Al}{F:Ac Al->Ai}(h:IL e F=Aa):∃ xs c p,e=Wl xs c p/\F xs=Aa:=by
 by_cases c:e.ctorIdx=25
 .exact Wm (motive_1:=λe=>IL e F=Aa->∃ xs c p,e=Wl xs c p/\F xs=Aa) e c (λxs c p h=>⟨xs,c,p,rfl,h⟩) h
 .exact noF ((B7 c).symm.trans h)
noncomputable def OZ(e:Al)(F:Ac Al->Ai):Ai:=if c:e.ctorIdx=24 then Wc (motive_1:=λ_=>Ai) e c λxs _=>F xs else Ae
theorem ZV{e:Al}{F:Ac Al->Ai}(h:OZ e F=Aa):∃ xs p,e=Wb xs p/\F xs=Aa:=by
 by_cases c:e.ctorIdx=24
 .exact Wc (motive_1:=λe=>OZ e F=Aa->∃ xs p,e=Wb xs p/\F xs=Aa) e c (λxs p h=>⟨xs,p,rfl,h⟩) h
 .exact noF ((B7 c).symm.trans h)
noncomputable def O0(e:Al)(F:Al->Ac Il->B0->Ai):Ai:=if c:e.ctorIdx=8 then We (motive_1:=λ_=>Ai) e c λx gs sc _=>F x gs sc else Ae
theorem Zn{e:Al}{F:Al->Ac Il->B0->Ai}(h:O0 e F=Aa):∃ x gs sc p,e=Wd x gs sc p/\F x gs sc=Aa:=by
 by_cases c:e.ctorIdx=8
 .exact We (motive_1:=λe=>O0 e F=Aa->∃ x gs sc p,e=Wd x gs sc p/\F x gs sc=Aa) e c (λx gs sc p h=>⟨x,gs,sc,p,rfl,h⟩) h
 .exact noF ((B7 c).symm.trans h)
noncomputable def O2(e:AO)(F:Ac Al->Al->Ai):Ai:=if c:e.ctorIdx=5 then WK (motive_2:=λ_=>Ai) e c λts v _=>F ts v else Ae
theorem Zs{e:AO}{F:Ac Al->Al->Ai}(h:O2 e F=Aa):∃ ts v p,e=WJ ts v p/\F ts v=Aa:=by
 by_cases c:e.ctorIdx=5
 .exact WK (motive_2:=λe=>O2 e F=Aa->∃ ts v p,e=WJ ts v p/\F ts v=Aa) e c (λts v p h=>⟨ts,v,p,rfl,h⟩) h
 .exact noF ((B7 c).symm.trans h)
noncomputable def Le(e:AO)(F:Al->Ai):Ai:=if c:e.ctorIdx=24 then WM (motive_2:=λ_=>Ai) e c λv _=>F v else Ae
theorem NE{e:AO}{F:Al->Ai}(h:Le e F=Aa):∃ v p,e=WL v p/\F v=Aa:=by
 by_cases c:e.ctorIdx=24
 .exact WM (motive_2:=λe=>Le e F=Aa->∃ v p,e=WL v p/\F v=Aa) e c (λv p h=>⟨v,p,rfl,h⟩) h
 .exact noF ((B7 c).symm.trans h)
noncomputable def Kq(e:AO)(F:Ao Al->Ai):Ai:=if c:e.ctorIdx=3 then WQ (motive_2:=λ_=>Ai) e c λo _=>F o else Ae
theorem Q1{e:AO}{F:Ao Al->Ai}(h:Kq e F=Aa):∃ o p,e=WP o p/\F o=Aa:=by
 by_cases c:e.ctorIdx=3
 .exact WQ (motive_2:=λe=>Kq e F=Aa->∃ o p,e=WP o p/\F o=Aa) e c (λo p h=>⟨o,p,rfl,h⟩) h
 .exact noF ((B7 c).symm.trans h)
noncomputable def Lk(e:AO)(F:Al->Ac AO->Ac AO->Ai):Ai:=if c:e.ctorIdx=12 then WO (motive_2:=λ_=>Ai) e c λt xs ys _=>F t xs ys else Ae
theorem Oc{e:AO}{F:Al->Ac AO->Ac AO->Ai}(h:Lk e F=Aa):∃ t xs ys p,e=Stmt.If t xs ys p/\F t xs ys=Aa:=by
 by_cases c:e.ctorIdx=12
 .exact WO (motive_2:=λe=>Lk e F=Aa->∃ t xs ys p,e=Stmt.If t xs ys p/\F t xs ys=Aa) e c (λt xs ys p h=>⟨t,xs,ys,p,rfl,h⟩) h
 .exact noF ((B7 c).symm.trans h)
noncomputable def Mn(e:AO)(F:Al->Al->Ac AO->Ac AO->Ai):Ai:=if c:e.ctorIdx=9 then WN (motive_2:=λ_=>Ai) e c λt it xs ys _=>F t it xs ys else Ae
theorem Q2{e:AO}{F:Al->Al->Ac AO->Ac AO->Ai}(h:Mn e F=Aa):∃ t it xs ys p,e=Stmt.For t it xs ys p/\F t it xs ys=Aa:=by
 by_cases c:e.ctorIdx=9
 .exact WN (motive_2:=λe=>Mn e F=Aa->∃ t it xs ys p,e=Stmt.For t it xs ys p/\F t it xs ys=Aa) e c (λt it xs ys p h=>⟨t,it,xs,ys,p,rfl,h⟩) h
 .exact noF ((B7 c).symm.trans h)
noncomputable def Mh{α:Type}:Ac α->(α->Ac α->Ai)->Ai
 |[],_=>Ae
 |x::xs,F=>F x xs
theorem Nr{l:Ac α}{F:α->Ac α->Ai}(h:Mh l F=Aa):∃ x xs,l=x::xs/\F x xs=Aa:=by
 cases l with
 |nil=>exact noF h
 |cons x xs=>exact⟨x,xs,rfl,h⟩
theorem Hw{l:Ac α}(h:l.isEmpty=Aa):l=[]:=List.isEmpty_iff.mp h
noncomputable def EE{α:Type}(l:Ac α)(F:α->Ai):Ai:=Mh l λx r=>r.isEmpty&&F x
theorem Ff{l:Ac α}{F:α->Ai}(h:EE l F=Aa):∃ x,l=[x]/\F x=Aa:=by
 obtain⟨x,r,rfl,h⟩:=Nr h;obtain⟨h1,h2⟩:=CO h;exact⟨x,by rw[Hw h1],h2⟩
noncomputable def Hz{α:Type}(l:Ac α)(F:α->α->Ai):Ai:=Mh l λx r=>EE r λy=>F x y
theorem Je{l:Ac α}{F:α->α->Ai}(h:Hz l F=Aa):∃ x y,l=[x,y]/\F x y=Aa:=by
 obtain⟨x,r,rfl,h⟩:=Nr h;obtain⟨y,rfl,h⟩:=Ff h;exact⟨x,y,rfl,h⟩
noncomputable def Jz(e:Al)(F:Ak->Ac Al->Ai):Ai:=Lf e λf as ks _=>G2 f λg=>ks.isEmpty&&F g as
theorem J8{e:Al}{F:Ak->Ac Al->Ai}(h:Jz e F=Aa):∃ g p as q,e=.Call (.Name g p) as [] q/\F g as=Aa:=by
 obtain⟨f,as,ks,q,rfl,h⟩:=NH h;obtain⟨g,p,rfl,h⟩:=GX h;obtain⟨h1,h2⟩:=CO h;exact⟨g,p,as,q,by rw[Hw h1],h2⟩
noncomputable def OB(e:Al)(F:Ak->Al->Ac Al->Ai):Ai:=Jz e λg l=>Mh l λx xs=>F g x xs
theorem Nn{e:Al}{F:Ak->Al->Ac Al->Ai}(h:OB e F=Aa):∃ g p x xs q,e=.Call (.Name g p) (x::xs) [] q/\F g x xs=Aa:=by
 obtain⟨g,p,as,q,rfl,h⟩:=J8 h;obtain⟨x,xs,rfl,h⟩:=Nr h;exact⟨g,p,x,xs,q,rfl,h⟩
noncomputable def MC(st:AO)(F:Ak->Ak->Ac Al->Ai):Ai:=Le st λe=>Lf e λf as ks cp=>Mr f λo m ap=>G2 o λx=>ks.isEmpty&&(ap.endLine==cp.line&&F x m as)
theorem ND{st:AO}{F:Ak->Ak->Ac Al->Ai}(h:MC st F=Aa):∃ x p m ap as cp q,st=.Expr (.Call (.Attribute (.Name x p) m ap) as [] cp) q/\ap.endLine=cp.line/\F x m as=Aa:=by
 obtain⟨e,q,rfl,h⟩:=NE h;obtain⟨f,as,ks,cp,rfl,h⟩:=NH h;obtain⟨o,m,ap,rfl,h⟩:=Q3 h;obtain⟨x,p,rfl,h⟩:=GX h;obtain⟨h1,h⟩:=CO h;obtain⟨h2,h3⟩:=CO h;exact⟨x,p,m,ap,as,cp,q,by rw[Hw h1],eq_of_beq h2,h3⟩
noncomputable def Ms(st:AO)(F:Al->Al->Ai):Ai:=O2 st λts v=>EE ts λt=>F t v
theorem NJ{st:AO}{F:Al->Al->Ai}(h:Ms st F=Aa):∃ t v q,st=.Assign [t] v q/\F t v=Aa:=by
 obtain⟨ts,v,q,rfl,h⟩:=Zs h;obtain⟨t,rfl,h⟩:=Ff h;exact⟨t,v,q,rfl,h⟩
noncomputable def O3(st:AO)(F:Ak->Al->Ai):Ai:=Ms st λt v=>G2 t λx=>F x v
theorem QG{st:AO}{F:Ak->Al->Ai}(h:O3 st F=Aa):∃ x p v q,st=.Assign [.Name x p] v q/\F x v=Aa:=by
 obtain⟨t,v,q,rfl,h⟩:=NJ h;obtain⟨x,p,rfl,h⟩:=GX h;exact⟨x,p,v,q,rfl,h⟩
noncomputable def Pt(e:Al)(F:Al->Al->Al->Ac Al->B0->Ai):Ai:=O0 e λx gs sc=>EE gs λg=>decide (g.is_async=0)&&F x g.target g.iter g.ifs sc
theorem RF{e:Al}{F:Al->Al->Al->Ac Al->B0->Ai}(h:Pt e F=Aa):∃ x t it ifs sc p,e=.ListComp x [⟨t,it,ifs,0⟩] sc p/\F x t it ifs sc=Aa:=by
 obtain⟨x,gs,sc,p,rfl,h⟩:=Zn h;obtain⟨g,rfl,h⟩:=Ff h;obtain⟨t,it,ifs,a⟩:=g;obtain⟨h1,h2⟩:=CO h;have h1:a=0:=Bq h1;subst h1;exact⟨x,t,it,ifs,sc,p,rfl,h2⟩
noncomputable def MK(e:E)(F:E->Ai):Ai:=if c:e.ctorIdx=8 then E.no.elim (motive_1:=λ_=>Ai) e c F else Ae
theorem cI{e:E}{F:E->Ai}(h:MK e F=Aa):∃ a,e=E.no a/\F a=Aa:=by
 by_cases c:e.ctorIdx=8
 .exact E.no.elim (motive_1:=λe=>MK e F=Aa->∃ a,e=E.no a/\F a=Aa) e c (λa h=>⟨a,rfl,h⟩) h
 .exact noF ((B7 c).symm.trans h)
noncomputable def Mt(e:E)(F:Es->Ai):Ai:=if c:e.ctorIdx=9 then E.and.elim (motive_1:=λ_=>Ai) e c F else Ae
theorem Zt{e:E}{F:Es->Ai}(h:Mt e F=Aa):∃ es,e=E.and es/\F es=Aa:=by
 by_cases c:e.ctorIdx=9
 .exact E.and.elim (motive_1:=λe=>Mt e F=Aa->∃ es,e=E.and es/\F es=Aa) e c (λes h=>⟨es,rfl,h⟩) h
 .exact noF ((B7 c).symm.trans h)
noncomputable def MJ(e:E)(F:Es->Ai):Ai:=if c:e.ctorIdx=10 then E.or.elim (motive_1:=λ_=>Ai) e c F else Ae
theorem cH{e:E}{F:Es->Ai}(h:MJ e F=Aa):∃ es,e=E.or es/\F es=Aa:=by
 by_cases c:e.ctorIdx=10
 .exact E.or.elim (motive_1:=λe=>MJ e F=Aa->∃ es,e=E.or es/\F es=Aa) e c (λes h=>⟨es,rfl,h⟩) h
 .exact noF ((B7 c).symm.trans h)
noncomputable def Mo(e:E)(F:Db->E->E->Ai):Ai:=if c:e.ctorIdx=11 then E.cmp.elim (motive_1:=λ_=>Ai) e c F else Ae
theorem Zo{e:E}{F:Db->E->E->Ai}(h:Mo e F=Aa):∃ o a b,e=E.cmp o a b/\F o a b=Aa:=by
 by_cases c:e.ctorIdx=11
 .exact E.cmp.elim (motive_1:=λe=>Mo e F=Aa->∃ o a b,e=E.cmp o a b/\F o a b=Aa) e c (λo a b h=>⟨o,a,b,rfl,h⟩) h
 .exact noF ((B7 c).symm.trans h)
noncomputable def Mp(e:E)(F:Db->Db->E->E->E->Ai):Ai:=if c:e.ctorIdx=12 then E.cmp2.elim (motive_1:=λ_=>Ai) e c F else Ae
theorem Zp{e:E}{F:Db->Db->E->E->E->Ai}(h:Mp e F=Aa):∃ o q a b c,e=E.cmp2 o q a b c/\F o q a b c=Aa:=by
 by_cases c:e.ctorIdx=12
 .exact E.cmp2.elim (motive_1:=λe=>Mp e F=Aa->∃ o q a b c,e=E.cmp2 o q a b c/\F o q a b c=Aa) e c (λo q a b c h=>⟨o,q,a,b,c,rfl,h⟩) h
 .exact noF ((B7 c).symm.trans h)
noncomputable def Mq(e:E)(F:BI->Es->Ai):Ai:=if c:e.ctorIdx=15 then E.bi.elim (motive_1:=λ_=>Ai) e c F else Ae
theorem Zq{e:E}{F:BI->Es->Ai}(h:Mq e F=Aa):∃ b as,e=E.bi b as/\F b as=Aa:=by
 by_cases c:e.ctorIdx=15
 .exact E.bi.elim (motive_1:=λe=>Mq e F=Aa->∃ b as,e=E.bi b as/\F b as=Aa) e c (λb as h=>⟨b,as,rfl,h⟩) h
 .exact noF ((B7 c).symm.trans h)
noncomputable def Pu(e:E)(F:Ai->Ai):Ai:=if c:e.ctorIdx=1 then E.bl.elim (motive_1:=λ_=>Ai) e c F else Ae
theorem cJ{e:E}{F:Ai->Ai}(h:Pu e F=Aa):∃ b,e=E.bl b/\F b=Aa:=by
 by_cases c:e.ctorIdx=1
 .exact E.bl.elim (motive_1:=λe=>Pu e F=Aa->∃ b,e=E.bl b/\F b=Aa) e c (λb h=>⟨b,rfl,h⟩) h
 .exact noF ((B7 c).symm.trans h)
noncomputable def Mx(e:E):Ai:=decide (e.ctorIdx=0)
theorem Zz{e:E}(h:Mx e=Aa):e=.non:=E.non.elim (motive_1:=λe=>e=.non) e (Bq h) rfl
noncomputable def Dh:Al->Ai
 |.Starred _ _=>Ae
 |_=>Aa
noncomputable def L6:Al->Ai
 |.Slice _ _ _ _=>Ae
 |_=>Aa
noncomputable def Ld:Al->Ai
 |.Set _ _ _=>Ae
 |_=>Aa
noncomputable def IE:Al->Ai
 |.ListComp _ _ _ _=>Ae
 |.SetComp _ _ _ _=>Ae
 |.DictComp _ _ _ _ _=>Ae
 |_=>Aa
noncomputable def Ux(tu:Ai):Al->Ai
 |.Tuple ..=>tu
 |.Name ..=>!tu
 |_=>Ae
noncomputable def sP:Al->Ai
 |.Tuple _ _ _=>Aa
 |_=>Ae
noncomputable def TD:Al->Ai
 |.Tuple _ _ _=>Ae
 |_=>Aa
noncomputable def LI:Al->Ai
 |.UnaryOp _ _ _=>Ae
 |.BoolOp _ _ _=>Ae
 |.IfExp _ _ _ _=>Ae
 |.Compare _ _ _ _=>Ae
 |_=>Aa
noncomputable def O6:Ki->Ao Ak
 |.int=>Ab "int"
 |.bool=>Ab "bool"
 |.str=>Ab "str"
 |.list=>Ab "list"
 |.tuple=>Ab "tuple"
 |_=>Af
noncomputable def O7:BI->Ao Ak
 |.len=>Ab "len"
 |.abs=>Af
 |.max=>Af
 |.min=>Af
 |.int=>Af
 |.list=>Ab "list"
 |.tuple=>Ab "tuple"
 |.all=>Ab "all"
 |.any=>Af
 |.sum=>Ab "sum"
 |.sorted=>Af
 |.tmin=>Af
 |.tmax=>Af
 |_=>Af
noncomputable def O5(o scope:B0):B0:={scope with names:=scope.names.map λ(n,k)=>if (k==.free&&o.kind==.function&&o.names.lookup n==Ab .cell) then (n,.cell) else (n,k)}
noncomputable def Kx:Ac Ag->Ac Ak->Ac Ak->Ac Ak
 |t::ts,x::xs,N=>Kx ts xs ((N.map λy=>if y==x then N.getD t x else y).set t x)
 |_,_,N=>N
noncomputable def Kg:Ac Ak->Ai
 |[]=>Aa
 |x::xs=>!xs.contains x&&Kg xs
noncomputable def Ln(T:Tc)(scope:B0)(ts:Ac Ag)(N':Ac Ak):Ai:=
  scope.kind==.function&&scope.names.all (λy=>scope.names.lookup y.1==Ab y.2) &&
  scope.names.all (λy=>y.2 != .free||T.sc.names.lookup y.1==Ab .cell||T.sc.names.lookup y.1==Ab .free) &&
  N'.length==T.N.length&&Kg N' &&
  (AS N'.length).all λi=>ts.contains i||(match N'[i]? with
    |some x=>(scope.names.lookup x != Ab .local&&scope.names.lookup x != Ab .cell)&&(scope.names.lookup x != Ab .free||T.N[i]? == Ab x)
    | none=>Aa)
noncomputable def ES:Ac Al->Ao (Ac Ak)
 |[]=>Ab []
 |.Name x _::r=>(ES r).map (x :: ·)
 |_=>Af
noncomputable def tgN(ys:Ac Al):Ac Ak:=(ES ys).getD []
noncomputable def tgB(T:Tc):Ac Ag->Ac Ak->Ai
 |[],[]=>Aa
 |t::ts,x::xs=>T.N[t]? == Ab x&&T.sc.names.lookup x==Ab .local&&tgB T ts xs
 |_,_=>Ae
noncomputable def tgO(T:Tc)(scope:B0)(t:Ag)(x:Ak):Ai:=T.N[t]? == Ab x&&(T.sc.names.lookup x==Ab .local||(T.sc.names.lookup x==Ab .cell&&scope.names.lookup x==Ab .cell))
noncomputable def tgC(T:Tc):Ac Ag->Ac Ak->Ai
 |[],[]=>Aa
 |t::ts,x::xs=>T.N[t]? == Ab x&&Ib T x&&tgC T ts xs
 |_,_=>Ae
noncomputable def Tc.blk(T:Tc)(scope:B0)(ts:Ac Ag)(xs:Ac Ak):Tc:={T with sc:=O5 T.sc scope,N:=Kx ts xs T.N}
noncomputable def Pv:E->Ai
 |.lst _=>Aa
 |.comp _ _ _ _=>Aa
 |.compT _ _ _ _=>Aa
 |.bin .Add _ _=>Aa
 |.bi .list _=>Aa
 |.sl _ _ _=>Aa
 |_=>Ae
noncomputable def MF:E->Ao E
  | .bi b as=>(match b with
    | .list=>(match as with
      | .cons x r=>(match r with
        | .nil=>(match x with
          | .bin op a c=>(match op with
            | .Add=>(match c with
              | .tup es=>(match es with
                |.nil=>Ab a
                | _=>Af)
              | _=>Af)
            | _=>Af)
          | _=>Af)
        | _=>Af)
      | .nil=>Af)
    | _=>Af)
  |_=>Af
theorem Z_4{e a:E}(q:MF e=Ab a):e=.bi .list (.cons (.bin .Add a (.tup .nil)) .nil):=by
 unfold MF at q
 repeat' split at q
 all_goals first|cases q;done|skip
 cases q;rfl
theorem gG(U:Gam){e:E}(h:Pv e=Aa):CM U e=Aa:=by
 unfold Pv at h;split at h<;>first|rfl|cases h
noncomputable def UH:Al->Ao (Al×Al×AK)
  | .Compare x ops ys p=>(match ops with
    | [.Lt]=>(match ys with
      |[y]=>Ab (x,y,p)
      | _=>Af)
    | _=>Af)
  |_=>Af
noncomputable def Pc(_:Es):Ao (E×E):=Af
noncomputable def Pj(_:Tc)(_:Tc->Al->E->Ai)(_:Al)(_:Ac Db)(_:Ac Al)(_:BI)(_:Es):Ai:=Ae
noncomputable def UC(T:Tc)(e:Al)(b:BI)(as:Es):Ai:=Ae
noncomputable def Sq:Al->Ao (Ak×AK)
 |.Name x p=>Ab (x,p)
 |_=>Af
noncomputable def Sr:Al->Ao (Al×Ac Al×Ac CB×AK)
 |.Call f as ks p=>Ab (f,as,ks,p)
 |_=>Af
noncomputable def one{α:Type}:Ac α->Ao α
 |[a]=>Ab a
 |_=>Af
noncomputable def UD(e:Al):Ao (Ak×Ak×Ac Al):=(Sr e).bind λc=>(Sq c.1).bind λg=>(one c.2.1).bind λa=>(Sr a).bind λd=>(Sq d.1).bind λh=>if (c.2.2.1.isEmpty&&d.2.2.1.isEmpty)=Aa then Ab (g.1,h.1,d.2.1) else Af
noncomputable def UT(e:Al):Ao (Ak×Ak×Al×Al):=match UD e with
  | some (g,h,bs)=>(match bs with
    |[x,y]=>Ab (g,h,x,y)
    | _=>Af)
  |none=>Af
noncomputable def Pf(_:Es):Ao (E×E):=Af
noncomputable def US(e:Al):Ao (Ak×Ak×Al):=match UD e with
  | some (g,h,bs)=>(match bs with
    |[x]=>Ab (g,h,x)
    | _=>Af)
  |none=>Af
noncomputable def Pe(_:Es):Ao E:=Af
noncomputable def PD(_:Es):Ao E:=Af
noncomputable def Ui(_:Al):Ao Al:=Af
noncomputable def Uy:Al->Ao (Al×Ad)
  | .Subscript v s _=>(match s with
    | .Slice lo hi st _=>(match lo with
      | some (.Constant (.int k) _ _)=>(match hi with
        | none=>(match st with
          |some (.Constant (.int j) _ _)=>if j=2 then Ab (v,k) else Af
          | _=>Af)
        | some _=>Af)
      | _=>Af)
    | _=>Af)
  |_=>Af
noncomputable def Pd(_:Es):Ao (E×Ad):=Af
mutual
noncomputable def A8:Ag->Tc->Al->E->Ai
  |0,_,_,_=>Ae
  |n+1,T,e,c=>match c with
    |.non=>Jy e λc=>decide (c=.none)
    |.bl b=>Jy e λc=>decide (c=.bool b)
    |.int i=>Jy e λc=>decide (c=.int i)
    |.str x=>Jy e λc=>decide (c=.str x)
    |.var i=>G2 e λx=>isV T x i
    |.glob g=>Ae
    |.bin op a b=>O1 e λx op' y=>decide (op'=op)&&A8 n T x a&&A8 n T y b
    |.un op a=>Ae
    |.no a=>Lm e λo x=>decide (o=.Not)&&A8 n T x a
    |.and es=>Kt e λo xs _=>decide (o=.And)&&(chkEs n T xs es && !xs.isEmpty)
    |.or es=>Kt e λo xs _=>decide (o=.Or)&&(chkEs n T xs es && !xs.isEmpty)
    |.cmp op a b=>Ks e λx os ys=>EE os λop'=>EE ys λy=>decide (op'=op) && !behindInMarks op y&&A8 n T x a&&A8 n T y b
    |.cmp2 op1 op2 a b c=>Ks e λx os ys=>Hz os λo1 o2=>Hz ys λy z=>decide (o1=op1)&&decide (o2=op2) && !lastMarks [op1,op2] [y,z]&&A8 n T x a&&A8 n T y b&&A8 n T z c
    |.ite c a b=>Ae
    |.call f as=>OB e λg x xs=>(T.fns.any λp=>p.1==g&&p.2.1==f&&p.2.2==xs.length+1)&&decide (xs.length<900)&&glB T g&&Ll g&&chkEs n T (x::xs) as
    |.bi b as=>(OB e λg x xs=>O7 b==Ab g&&isB T g&&chkEs n T (x::xs) as)||UC T e b as||(match Pf as with|some (a,c)=>(match UT e with|some (g,h,x,y)=>decide (b=.list)&&g==("list" : Ak)&&h==("range" : Ak)&&isB T g&&isB T h&&Dh x&&Dh y&&A8 n T x a&&A8 n T y c|none=>Ae)|none=>Ae)||(match Pd as with|some (a,k)=>(match Uy e with|some (x,j)=>decide (b=.stp)&&decide (j=k)&&decide (0<=k)&&A8 n T x a|none=>Ae)|none=>Ae)||(match Pe as with|some a=>(match US e with|some (g,h,x)=>decide (b=.lset)&&g==("len" : Ak)&&h==("set" : Ak)&&isB T g&&isB T h&&Dh x&&A8 n T x a|none=>Ae)|none=>Ae)||(match Pc as with|some (a,c)=>(match UH e with|some (x,y,_)=>decide (b=.tlt) && !behindInMarks .Lt y&&A8 n T x a&&A8 n T y c|none=>Ae)|none=>Ae)||(match PD as with|some a=>(match Ui e with|some x=>decide (b=.rvs)&&A8 n T x a|none=>Ae)|none=>Ae)
    |.isi a ks=>EE ks λk=>Jz e λg l=>Hz l λx t=>G2 t λt=>g==("isinstance" : Ak)&&isB T g&&O6 k==Ab t&&isB T t&&Dh x&&A8 n T x a
    |.idx a i=>Ko e λx y=>L6 y&&A8 n T x a&&A8 n T y i
    |.sl a lo hi=>Ko e λx s=>OY s λl h st=>st.isNone&&(A8 n T x a&&chkO n T l lo&&chkO n T h hi)
    |.tup es=>IL e λxs=>chkEs n T xs es&&decide (xs.length<=1000)
    |.lst es=>OZ e λxs=>chkEs n T xs es&&decide (xs.length<=1000)
    |.comp elt t it c=>Pt e λx tg iter ifs scope=>G2 tg λy=>chkI n T Ae iter it&&Ld iter&&Ln T scope [t] (Kx [t] [y] T.N)&&tgO (T.blk scope [t] [y]) scope t y&&chkT n (T.blk scope [t] [y]) ifs c&&A8 n (T.blk scope [t] [y]) x elt
    |.compT elt ts it c=>Pt e λx tg iter ifs scope=>IL tg λys=>(ES ys).isSome&&chkI n T Aa iter it&&Ld iter&&Ln T scope ts (Kx ts (tgN ys) T.N)&&tgB (T.blk scope ts (tgN ys)) ts (tgN ys)&&chkT n (T.blk scope ts (tgN ys)) ifs c&&A8 n (T.blk scope ts (tgN ys)) x elt
    |.tupI _=>Ae
    |.dget i a c=>(match xMt e with|some (x,m,y,z)=>m==("get" : Ak)&&isV T x i&&Dh y&&Dh z&&A8 n T y a&&A8 n T z c|none=>Ae)
    |.fld _ _=>Ae
noncomputable def G9:Ag->Tc->Al->E->Ai
 |0,_,_,_=>Ae
 |n+1,T,e,c=>(Lm e λo x=>decide (o=.Not)&&(MK c λa=>G9 n T x a)) ||
  (Kt e λo xs _=>(decide (o=.And)&&(Mt c λes=>chkBs n T xs es && !xs.isEmpty))||(decide (o=.Or)&&(MJ c λes=>chkBs n T xs es && !xs.isEmpty))) ||
  (Ks e λx os ys=>(Mo c λop a b=>EE os λop'=>EE ys λy=>decide (op'=op) && !behindInMarks op y&&A8 n T x a&&A8 n T y b) ||
   (Mp c λop1 op2 a b c=>Hz os λo1 o2=>Hz ys λy z=>decide (o1=op1)&&decide (o2=op2) && !lastMarks [op1,op2] [y,z]&&A8 n T x a&&A8 n T y b&&A8 n T z c) ||
   (Mq c λb as=>Pj T (A8 n) x os ys b as)) ||
  LI e&&A8 n T e c
noncomputable def chkBs:Ag->Tc->Ac Al->Es->Ai
  |0,_,_,_=>Ae
  |n+1,T,xs,es=>match xs,es with
    |[],.nil=>Aa
    |x::xs,.cons e es=>G9 n T x e&&chkBs n T xs es
    |_,_=>Ae
noncomputable def chkEs:Ag->Tc->Ac Al->Es->Ai
  |0,_,_,_=>Ae
  |n+1,T,xs,es=>match xs,es with
    |[],.nil=>Aa
    |x::xs,.cons e es=>Dh x&&A8 n T x e&&chkEs n T xs es
    |_,_=>Ae
noncomputable def chkO:Ag->Tc->Ao Al->E->Ai
  |0,_,_,_=>Ae
  |n+1,T,x,e=>match x with
    |none=>Mx e
    |some x=>!(Mx e)&&A8 n T x e
noncomputable def chkT:Ag->Tc->Ac Al->E->Ai
  |0,_,_,_=>Ae
  |n+1,T,xs,e=>match xs with
    |[]=>Pu e λb=>b
    |x::r=>r.isEmpty&&G9 n T x e
noncomputable def chkI:Ag->Tc->Ai->Al->I->Ai
  |0,_,_,_,_=>Ae
  |n+1,T,tu,e,i=>match i with
    |.e a=>A8 n T e a
    |.rng a=>Jz e λg l=>EE l λx=>g==("range" : Ak)&&isB T g&&Dh x&&A8 n T x a
    |.enm a=>Jz e λg l=>EE l λx=>tu&&g==("enumerate" : Ak)&&isB T g&&Dh x&&A8 n T x a
    |.zip a b=>Jz e λg l=>Hz l λx y=>tu&&g==("zip" : Ak)&&isB T g&&Dh x&&Dh y&&A8 n T x a&&A8 n T y b
    |.rng2 a b=>Jz e λg l=>Hz l λx y=>g==("range" : Ak)&&isB T g&&Dh x&&Dh y&&A8 n T x a&&A8 n T y b
    |.zip3 a b c=>Ae
end
noncomputable def T5(_:Ag)(_:Tc)(_:Ag)(_:Ac AO)(_:Ss):Ai:=Ae
noncomputable def Xy:E->Ai
  | .bi b as=>(match b,as with
    |.len,.nil=>Aa
    | _,_=>Ae)
  |_=>Ae
noncomputable def Xx:S->Ai
 |.expr e=>Xy e
 |_=>Ae
noncomputable def MQ:Ss->Ai
 |.cons s _=>Xx s
 |.nil=>Ae
noncomputable def JF:Ag->Tc->Ac AO->Ss->(Ac AO->Ai)->Ai
  |0,_,_,_,_=>Ae
  |n+1,T,sts,ss,kk=>match ss with
    |.nil=>kk sts
    | .cons s ss=>(match sts with
      |[]=>Ae
      | st::sts=>(match s with
        |.ife c a b=>Lk st λt xs ys=>G9 n T t c&&JF n T xs a (λr=>r.isEmpty)&&JF n T ys b (λr=>r.isEmpty)
        |.ret e=>Kq st λo=>match o with|some v=>A8 n T v e|none=>Ae
        | _=>Ae)&&JF n T sts ss kk)
noncomputable def sZ(n:Ag)(T:Tc)(ts:Ac Ag)(k:Ag)(e:E)(sp:AO):Ai:=match ts with
  |[x]=>Le sp λe0=>Lf e0 λfx l ks cp=>ks.isEmpty&&(EE l λv=>Mr fx λw m ap=>m==("append" : Ak)&&ap.endLine==cp.line&&(Ko w λo i=>(G2 o λy=>isV T y x)&&Jy i λc=>decide (c=.int (k:Ad)))&&Dh v&&A8 n T v e)
  |[x,y]=>MC sp λz m l=>EE l λv=>m==("append" : Ak)&&isV T z (if k=0 then x else y)&&Dh v&&A8 n T v e
  |_=>Ae
noncomputable def tB(n:Ag)(T:Tc)(ts:Ac Ag)(f:Ag)(as:Es)(s1:AO):Ai:=match ts with
  |[x]=>O3 s1 λy v=>T.N[x]? == Ab y&&Ib T y&&IE v&&A8 n T v (.call f as)
  |[x,z]=>Ms s1 λt v=>IL t λys=>(ES ys).isSome&&tgC T [x,z] (tgN ys)&&TD v&&A8 n T v (.call f as)
  |_=>Ae
noncomputable def Pb(n:Ag)(T:Tc)(ts:Ac Ag)(f:Ag)(as:Es)(pre:Ss)(c:E)(a b:Ss)(k:Ag)(e:E)(s1:AO)(q:Ac AO):Ai:=
 tB n T ts f as s1&&JF n T q pre λr=>EE r λst=>Lk st λt xs ys=>G9 n T t c&&JF n T xs a (λr=>r.isEmpty)&&JF n T ys b λr=>EE r λsp=>sZ n T ts k e sp
mutual
noncomputable def JE:Ag->Tc->AO->S->Ai
  |0,_,_,_=>Ae
  |n+1,T,st,s=>match s with
    |.pass=>Ae
    |.brk=>Ae
    |.cont=>Ae
    |.asg i _ e=>O3 st λx v=>T.N[i]? == Ab x&&Ib T x&&A8 n T v e
    |.asgT ts e=>Ae
    |.expr e=>Le st λv=>IE v&&A8 n T v e
    |.ret e=>Kq st λo=>match o with|some v=>A8 n T v e|none=>Ae
    |.retN=>Ae
    |.ife c a b=>Lk st λt xs ys=>G9 n T t c&&chkSs n T xs a&&chkSs n T ys b
    |.fors t it body=>Mn st λtg iter xs ys=>ys.isEmpty&&(G2 tg λx=>tgC T [t] [x]&&Ld iter&&chkI n T Ae iter it&&chkSs n T xs body)
    |.forT ts it body=>Mn st λtg iter xs zs=>zs.isEmpty&&(IL tg λys=>(ES ys).isSome&&tgC T ts (tgN ys)&&Ld iter&&chkI n T Aa iter it&&chkSs n T xs body)
    |.whl c body=>Ae
    |.rais c as=>!(T.rzs.any λp=>p.2==c)
    |.tryx _ _ _ _=>Ae
    |.try2 _ _ _ _ _ _ _=>Ae
    |.app i e=>MC st λx m l=>EE l λv=>m==("append" : Ak)&&isV T x i&&Dh v&&A8 n T v e
    |.ext i e=>MC st λx m l=>EE l λv=>m==("extend" : Ak)&&isV T x i&&Dh v&&(Pv e&&A8 n T v e||(match MF e with|some a=>A8 n T v a|none=>Ae))
    |.rev i=>Ae
    |.clr i=>Ae
    |.put i k e=>Ms st λt v=>Ko t λo y=>G2 o λx=>isV T x i&&L6 y&&A8 n T y k&&A8 n T v e
    |.swp _ _ _=>Ae
    |.apop _ _ _=>Ae
    |.ins i k e=>Ae
    |.dnw i=>(match st with | .Assign [.Name x _] v _=>T.N[i]? == Ab x&&Ib T x&&Ur v|_=>Ae)
    |.dput i k e=>(match st with | .Assign [.Subscript (.Name x _) y _] v _=>isV T x i&&L6 y&&A8 n T y k&&A8 n T v e|_=>Ae)
    |.dsd i k e=>(match st with | .Expr w _=>(match xMt w with|some (x,m,y,v)=>m==("setdefault" : Ak)&&isV T x i&&Dh y&&Dh v&&A8 n T y k&&A8 n T v e|none=>Ae)|_=>Ae)
    |.blk _ _ _ _ _ _ _ _ _=>Ae
    |.retT es=>Kq st λo=>match o with|some v=>IL v λl=>decide (l.length<=1000)&&chkEs n T l es|none=>Ae
    |.rel _=>Ae
noncomputable def chkSs:Ag->Tc->Ac AO->Ss->Ai
  |0,_,_,_=>Ae
  | n+1,T,sts,ss=>(match ss with
    |.nil=>sts.isEmpty
    |.cons (.rel i) ss=>chkSs n T sts ss
    | .cons (.blk ts f as pre c a b k e) ss=>(match ss with
      | .nil=>(match sts with
        |s1::q=>Pb n T ts f as pre c a b k e s1 q
        | []=>Ae)
      | _=>Ae)
    | .cons s ss=>(match sts with
      |st::r=>JE n T st s&&chkSs n T r ss
      | []=>Ae))||MQ ss
end
noncomputable def G8(fuel:Ag)(hot:Ai)(fns:Ac (Ak×Ag×Ag))(bl:Ac Ak)(rzs exs gls:Ac (Ak×Ag))(ps N:Ac Ak)(st:AO)(df:Df):Ai:=
  let sc:=Dv st
  sc.kind==.function && !sc.isCoroutine && !sc.isGenerator&&Kg N&&N.take ps.length==ps&&ps.all (λx=>sc.names.lookup x==Ab .local||sc.names.lookup x==Ab .cell)&&sc.names.all (λy=>y.2 != .free)&&N.length==df.n &&
  (match hot with
  |true=>T5 fuel ⟨sc,N,fns,bl,rzs,exs,gls⟩ 0 (Fw st) df.body
  | false=>chkSs fuel ⟨sc,N,fns,bl,rzs,exs,gls⟩ (Fw st) df.body)
structure XT (up:Ag->Ac Ag) (xn:Ag->Ac D->R Ex) (CL:ClA) (rzs exs:Ac (Ak×Ag)) (K:Fg) (mg:Ak->Ao Aj):Prop where
 xc:∀ c C,CL c=Ab C->XcOk K C
 rz:∀ p∈rzs,∃ C,CL p.2=Ab C/\mg p.1=Ab (.ref C)
 ex:∀ p∈exs,∃ C,mg p.1=Ab (.ref C)/\oE K CL up p.2 C/\∀ c D,CL c=Ab D->Ef K (.ref D) (.ref C)=Ab ((up c).contains p.2)
 made:∀ c C ds,CL c=Ab C->xn c ds=.bad\/(xn c ds=.ok ⟨c,[]⟩/\E7 K C Af=Aa)\/∃ f,XIn K mg C f/\MG xn c f ds
 nf:∀ c C,CL c=Ab C->∀ f:Ak,(f==("triple" : Ak)||f==("points" : Ak))=Aa->JB K C=Aa/\Bx K (.ref C) f=Ab Af
 xb:∀ c,(∀ p∈rzs,p.2≠c)->∀ ds,xn c ds=.bad
def PN(K:Fg)(mg:Ak->Ao Aj)(CL:ClA)(x:Ak)(d:D):Prop:=∃ u v,mg x=Ab u/\Bv v u/\∀ H A,Rep K CL H A v d
structure VX (U:Gam) (CL:ClA) (k:Ag) (W:XW) (T:Tc) (X:Cx):Prop where
 sc:X.env.scope=T.sc
 kd:T.sc.kind=.function
 N:X.N=T.N
 nd:T.N.Nodup
 calm:X.calm=Aa
 room:Room k X.A
 bl:∀ x,x∈T.bl->X.mg x=Af
 fn:∀ p∈T.fns,∃ f fd ps,X.mg p.1=Ab (.ref f)/\CC X.K (.ref f)=Aa/\GC X.K fd ps []/\ps.length=p.2.2%1000/\(p.2.2<1000->FnOk X.prog X.w X.K X.mg X.base (CXR X.prog X.w) k f fd ps (spD X.K CL (p.2.2%1000) (U.fr p.2.1) (U.F p.2.1)))/\(1000<=p.2.2->HotOk X.prog X.w X.K X.mg X.base k f fd ps (spH X.K CL (p.2.2%1000) (U.fr p.2.1) (U.F p.2.1)))
 own:FH (model X.prog X.w) X.A X.env X.xe
 px:∀ A,Jw (CXR X.prog X.w) X (EKW X.K CL A W)
 rz:PJ X CL W
 xt:XT U.up U.xn CL T.rzs T.exs X.K X.mg
 gl:∀ p∈T.gls,PN X.K X.mg CL p.1 (U.G p.2)
theorem SL:∀ A,Jw (CXR X.prog X.w) X (EKW X.K CL A W0):=λA pI Y H s ev s' I h=>by
 obtain⟨e,T,cls,dx,H',_,_,_,_,_,_,_,_,_,_,x,_,w⟩:=h;exact w.elim
theorem Uh:PJ X CL W0:=λ_ _ _ _ _ _ _ _ _ _ _ _ _ _ z=>z.elim
def Rf{α:Type}(g f:Rho->R α):Prop:=∀ Z,g Z=.bad\/g Z=f Z
section
variable{X:Cx}{CL:ClA}{W:XW}{a:Al}{f g:Rho->R D}
theorem SE.ref(h:SE X CL W a f)(r:Rf g f):SE X CL W a g:=λA=>PE.weak (h A) λY H Q ⟨hA,Z,q,p⟩=>⟨hA,Z,q,by
 rcases r Z with e|e
 .rw[e]at p;exact p.elim
 .rw[e]at p;exact p⟩
theorem SB.ref{f g:Rho->R Ai}(h:SB X CL W a f)(r:Rf g f):SB X CL W a g:=λA=>PT.weak (h A) λY H Q ⟨hA,Z,q,p⟩=>⟨hA,Z,q,by
 rcases r Z with e|e
 .rw[e]at p;exact p.elim
 .rw[e]at p;exact p⟩
theorem SW.ref{f g:Rho->R Ai}(h:SW X CL W a f)(r:Rf g f):SW X CL W a g:=λA=>PW.weak (h A) λY H Q ⟨hA,Z,q,p⟩=>⟨hA,Z,q,by
 rcases r Z with e|e
 .rw[e]at p;exact p.elim
 .rw[e]at p;exact p⟩
theorem SC.ref(h:SC X CL W fr a f)(r:Rf g f):SC X CL W fr a g:=λA=>PE.weak (h A) λY H Q ⟨hA,Z,q,p⟩=>⟨hA,Z,q,by
 rcases r Z with e|e
 .rw[e]at p;exact p.elim
 .rw[e]at p;exact p⟩
theorem SS.ref{st:AO}{f g:Rho->O}(h:SS X CL W st f)(r:∀ Z,g Z=.bad\/g Z=f Z):SS X CL W st g:=λFz B=>PS.weak (h Fz B) λD Y H ⟨Z,x,p⟩=>⟨Z,x,by
 rcases r Z with e|e
 .rw[e]at p;exact p.elim
 .rw[e]at p;exact p⟩
end
theorem K1:∀{l:Ac Ak},Kg l=Aa->l.Nodup
 |[],_=>HC
 |x::xs,h=>by
  unfold Kg at h;simp only[Ap,Bu,Vg,Ed]at h;exact List.nodup_cons.mpr ⟨h.1,K1 h.2⟩
section
variable{T:Tc}{X:Cx}{U:Gam}{CL:ClA}{k:Ag}{W:XW}
theorem bS(h:Pp T x=Aa):Vis T.sc x:=by
 unfold Pp at h;split at h
 .exact .inl (by assumption)
 .exact .inr (.inl (by assumption))
 .exact .inr (.inr (by assumption))
 .cases h
theorem K3(h:Ib T x=Aa):Loc T.sc x:=by
 unfold Ib at h;split at h
 .exact .inl (by assumption)
 .exact .inr (by assumption)
 .cases h
theorem L7(h:Ll x=Aa):(x==("__debug__" : Ak))=Ae/\(x==("__classdict__" : Ak))=Ae/\x≠"__name__" := by
 unfold Ll at h;simp only[Ap,Bu]at h;exact⟨h.1.1,h.1.2,λe=>by subst e;exact absurd h.2 (by simp)⟩
theorem Gc{i:Ag}(v:VX U CL k W T X)(h:isV T x i=Aa):PE X (.Name x pos) (Gi i):=by
 unfold isV at h;simp only[Ap,A7]at h;obtain⟨h2,h3,_⟩:=L7 h.2;exact lW (by rw[v.N];exact h.1.1) (by rw[v.sc];exact bS h.1.2) h2 h3
theorem Jq(v:VX U CL k W T X)(h:isB T x=Aa):Gl X x/\X.mg x=Af/\x≠"__name__"/\(x==("__debug__" : Ak))=Ae:=by
 unfold isB glB at h;simp only[Ap,A7,Vg,AW]at h;obtain⟨h2,h3,h4⟩:=L7 h.2;exact⟨by show X.env.scope.names.lookup x=_;rw[v.sc];exact h.1.2,v.bl x h.1.1,h4,h2⟩
theorem Cc{x:Al}(h:Dh x=Aa):Av (x::xs) env=(Ae,eval x env)::Av xs env:=by
 cases x<;>first|rfl|cases h
theorem QS{y:Al}(h:L6 y=Aa):Oa y:=by
 intro o i;cases y<;>first|rfl|cases h
theorem Md{e:Al}(h:Ld e=Aa):∀ x,CI e env x=pure x:=by
 intro x;cases e<;>first|rfl|cases h
theorem On{e:Al}{t:Ao Al}(h:IE e=Aa):CT e t l env=pure Ae:=by
 cases e<;>first|rfl|cases h
theorem aJ{e:Al}(h:LI e=Aa):∀ whole,HI e env whole=(do let v <-whole;HM e.pos;holding [v] (truthy v)):=by
 intro whole;cases e<;>first|rfl|cases h
theorem Ys(v:VX U CL k W T X)(scope:B0):relabel scope X.env=O5 T.sc scope:=by
 unfold relabel O5;have:∀ n,X.env.kindOf n=T.sc.names.lookup n:=λn=>by show X.env.scope.names.lookup n=_;rw[v.sc]
 simp only[this,v.sc]
theorem OK{N':Ac Ak}(v:VX U CL k W T X)(h:Ln T scope ts N'=Aa):BlockOk X scope N' ts/\N'.Nodup/\scope.kind=.function:=by
 unfold Ln at h;simp only[Ap,A7,Dr,Ca,Ih,ne_eq]at h;obtain⟨⟨⟨⟨⟨h1,h2⟩,h4⟩,h5⟩,h6⟩,h7⟩:=h;have at7:∀ i x,N'[i]?=Ab x->i∈ts\/((scope.names.lookup x≠Ab .local/\scope.names.lookup x≠Ab .cell)/\(scope.names.lookup x≠Ab .free\/T.N[i]?=Ab x)):=λi x e=>by
  have hi:=(AU.mp e).1;have:=h7 i (A4.mpr hi);rcases this with z|z
  .exact .inl (by simpa using z)
  .rw[e]at z;simp only[Ap,Ih,ne_eq,Ca,A7]at z;exact .inr z
 refine⟨⟨h1,h2,λy hy hl=>by rw[h2 y hy,hl],λy hy hf=>?_,by rw[v.N];exact h5,λi x e hf hn=>?_,λi x e hl=>?_⟩,K1 h6,h1⟩
 .rw[v.sc];rcases h4 y hy with (z|z)|z
  .exact absurd hf z
  .exact .inl z
  .exact .inr z
 .rw[v.N];rcases at7 i x e with z|⟨_,z⟩
  .exact absurd z hn
  .exact z.resolve_left λq=>q hf
 .rcases at7 i x e with z|⟨z,_⟩
  .exact z
  .exact hl.elim (λq=>absurd q z.1) (λq=>absurd q z.2)
theorem VX.blk{xs:Ac Ak}{cl:Ac (Ak×Ah)}{s:Aq}{fp:Ac Ah}(v:VX U CL k W T X)(h:Ln T scope ts (Kx ts xs T.N)=Aa):VX U CL k W0 (T.blk scope ts xs) (cxC X scope cl C (Kx ts xs T.N) s H fp):=by
 obtain⟨_,h2,h3⟩:=OK v h;exact⟨Ys v scope,h3,rfl,h2,v.calm,v.room,v.bl,v.fn,PassesOwn.never,SL,Uh,v.xt,v.gl⟩
theorem cC{t:Ag}(v:VX U CL k W T X)(hfn:scope.names.lookup x=Ab .cell->X.fn x=Aa)(h:tgO T scope t x=Aa):PG X (.Name x pos) (Ey t):=by
 unfold tgO at h;simp only[Ap,Ca,A7]at h;rcases h with ⟨h1,h2|h2⟩
 .exact K4 (by rw[v.N];exact v.nd) (by rw[v.N];exact h1) (by rw[v.sc];exact .inl h2) (.inr (by rw[v.sc];exact h2))
 .exact K4 (by rw[v.N];exact v.nd) (by rw[v.N];exact h1) (by rw[v.sc];exact .inr h2.1) (.inl (hfn h2.2))
theorem Nk{y:Al}{r:Ac Al}{zs:Ac Ak}(h:ES (y::r)=Ab zs):∃ x p ws,y=.Name x p/\ES r=Ab ws/\zs=x::ws:=by
 cases y with
 |Name x p=>
  have h':(ES r).map (x :: ·)=Ab zs:=h;cases e:ES r with
  |none=>rw[e]at h';cases h'
  |some ws=>rw[e]at h';cases h';exact⟨x,p,ws,rfl,rfl,rfl⟩
 |_=>cases h
theorem NP(x:Ak)(p:AK)(r:Ac Al)(env:Cf):B5 (.Name x p::r) env=(Ae,assign (.Name x p) env)::B5 r env:=rfl
theorem Nj:∀(ys:Ac Al)(zs:Ac Ak),ES ys=Ab zs->(B5 ys env).length=ys.length/\(B5 ys env).findIdx? (·.1)=Af/\(B5 ys env).map (·.2)=ys.map λy=>assign y env:=by
 intro ys
 induction ys with
 |nil=>intro _ _;exact⟨rfl,rfl,rfl⟩
 |cons y r ih=>
  intro zs h;obtain⟨x,p,ws,rfl,e,rfl⟩:=Nk h;obtain⟨h1,h2,h3⟩:=ih ws e;rw[NP];refine⟨?_,?_,?_⟩
  .rw[Bj,Bj,h1]
  .rw[List.findIdx?_cons,h2];simp
  .rw[Ba,Ba,h3]
theorem aI(v:VX U CL k W T X):∀(ys:Ac Al)(ts:Ac Ag)(zs:Ac Ak),ES ys=Ab zs->tgB T ts zs=Aa->PGs X ys (ts.foldr (λt u=>GA (Ey t) u) Hd)/\ts.length=ys.length:=by
 intro ys
 induction ys with
 |nil=>
  intro ts zs e h;cases e;cases ts with
  |nil=>exact⟨Rx,rfl⟩
  |cons t ts=>cases h
 |cons y r ih=>
  intro ts zs e h;obtain⟨x,p,ws,rfl,e2,rfl⟩:=Nk e;cases ts with
  |nil=>cases h
  |cons t ts=>
   have h':(T.N[t]? == Ab x&&T.sc.names.lookup x==Ab .local&&tgB T ts ws)=Aa:=h;simp only[Ap,A7]at h';obtain⟨h1,h2⟩:=ih ts ws e2 h'.2;exact⟨QY (K4 (by rw[v.N];exact v.nd) (by rw[v.N];exact h'.1.1) (by rw[v.sc];exact .inl h'.1.2) (.inr (by rw[v.sc];exact h'.1.2))) h1 (by rw[NP];rfl),congrArg (· + 1) h2⟩
theorem aH(v:VX U CL k W T X)(hn:(ES ys).isSome=Aa)(h:tgB T ts (tgN ys)=Aa):PG X (.Tuple ys kk pos) (Kz X.K ts.length (ts.foldr (λt u=>GA (Ey t) u) Hd)):=by
 cases e:ES ys with
 |none=>rw[e]at hn;cases hn
 |some zs=>
  have e2:tgN ys=zs:=by unfold tgN;rw[e];rfl
  rw[e2]at h;obtain⟨h1,h2⟩:=aI v ys ts zs e h;obtain⟨h3,h4,_⟩:=Nj (env:=X.env) ys zs e;exact OA v.calm h1 (by rw[h3,h2]) h4
end
noncomputable def Es.len:Es->Ag
 |.nil=>0
 |.cons _ es=>es.len+1
theorem Om(U:Gam)(Z:Rho):∀(es:Es)(ds:Ac D),evA U Z es=.ok ds->ds.length=es.len
 |.nil,ds,h=>by cases h;rfl
 |.cons e es,ds,h=>by
  obtain⟨x,h1,h2⟩:=Jh (Rg U Z e es ▸ h);obtain⟨xs,h3,h4⟩:=Jh h2;cases h4;exact congrArg (· + 1) (Om U Z es xs h3)
theorem Ol(U:Gam)(Z:Rho):∀(es:Es)(ds:Ac D),evB U Z es=.ok ds->ds.length=es.len
 |.nil,ds,h=>by cases h;rfl
 |.cons e es,ds,h=>by
  obtain⟨x,h1,h2⟩:=Jh (Re U Z e es ▸ h);obtain⟨xs,h3,h4⟩:=Jh h2;cases h4;exact congrArg (· + 1) (Ol U Z es xs h3)
theorem Td(U:Gam)(Z:Rho)(e:E)(h:shE Z e=Aa):top Z e (evE U Z e)=evE U Z e:=by
 cases e with
 |var i=>
  show DT Z i=Fi Z i;have h':shV Z i=Aa:=h;unfold shV at h';unfold DT Fi;cases q:Z[i]? with
  |none=>rfl
  |some x=>
   cases x with
   |none=>rfl
   |some y=>
    obtain⟨d,o⟩:=y;cases o with
    |true=>rw[q]at h';cases h'
    |false=>rfl
 |_=>rfl
theorem OR(U:Gam)(Z:Rho):∀(es:Es),FD Z es=Aa->evB U Z es=evA U Z es
 |.nil,_=>rfl
 |.cons e es,h=>by
  simp only[YR,Ap]at h;rw[Rg,Re,Td U Z e h.1,OR U Z es h.2]
theorem OD(U:Gam)(c:E):Rf (λZ=>evE U Z c) (λZ=>top Z c (evE U Z c)):=λZ=>by
 by_cases h:shE Z c=Aa
 .exact .inr (Td U Z c h).symm
 .cases c with
  |var i=>
   refine .inl ?_;show Fi Z i=.bad;have h':¬ shV Z i=Aa:=h;unfold shV at h';unfold Fi;cases q:Z[i]? with
   |none=>rfl
   |some x=>
    cases x with
    |none=>rfl
    |some y=>
     obtain⟨d,o⟩:=y;cases o with
     |true=>rfl
     |false=>rw[q]at h';exact absurd rfl h'
  |_=>exact absurd rfl h
def Pcs(X:Cx)(CL:ClA)(W:XW)(e:Al)(f:Rho->R D):Prop:=∃ tg iter elt ifs scope pos N' ts fi fc fe as g,e=.ListComp elt [⟨tg,iter,ifs,0⟩] scope pos/\BlockOk X scope N' ts/\SI X CL W tg iter fi/\GG X.K CL ts as g /\
 (∀ cl C s H fp,PG (cxC X scope cl C N' s H fp) tg g)/\(∀ cl C s H fp,STs (cxC X scope cl C N' s H fp) CL ifs fc)/\(∀ cl C s H fp,SE (cxC X scope cl C N' s H fp) CL W0 elt fe)/\(∀ x,CI iter X.env x=pure x) /\
 ∀ Z,f Z=(fi Z).bind λxs=>(noX (BN (λx=>(as x Z).bind fc) (λx=>(as x Z).bind fe) xs)).bind λys=>.ok (.lst ys)
theorem Pcs.sc{W:XW}{e:Al}{f:Rho->R D}(hc:X.calm=Aa)(h:Pcs X CL W e f):SC X CL W Aa e f:=by
 obtain⟨tg,iter,elt,ifs,scope,pos,N',ts,fi,fc,fe,as,g,rfl,B,hi,hGG,hg,ht,he,hs,ef⟩:=h;exact SC.congr (aC hc B hi hGG hg ht he hs) ef
structure OkE (U:Gam) (CL:ClA) (W:XW) (X:Cx) (e:Al) (c:E):Prop where
 se:SE X CL W e (λZ=>evE U Z c)
 st:ST X CL W e (λZ=>top Z c (evE U Z c))
 nw:CM U c=Aa->SC X CL W Aa e (λZ=>evE U Z c)
 cp:IE e=Ae->Pcs X CL W e (λZ=>evE U Z c)
section
variable{U:Gam}{CL:ClA}{W:XW}{X:Cx}{e:Al}{c:E}
theorem E5(h:SE X CL W e (λZ=>evE U Z c))(ht:∀ Z r,top Z c r=r)(hn:CM U c=Ae)(hc:IE e=Aa):OkE U CL W X e c:=
 ⟨h,by simp only[ht];exact h.st,λz=>absurd z (by rw[hn];decide),λz=>absurd z (by rw[hc];decide)⟩
theorem OC(h:SC X CL W Aa e (λZ=>evE U Z c))(ht:∀ Z r,top Z c r=r)(hc:IE e=Aa):OkE U CL W X e c:=
 ⟨h.se,by simp only[ht];exact h.se.st,λ_=>h,λz=>absurd z (by rw[hc];decide)⟩
theorem TC(hc:X.calm=Aa)(h:Pcs X CL W e (λZ=>evE U Z c))(ht:∀ Z r,top Z c r=r):OkE U CL W X e c:=
 ⟨(h.sc hc).se,by simp only[ht];exact(h.sc hc).se.st,λ_=>h.sc hc,λ_=>h⟩
end
theorem tD{k:Ki}(h:O6 k=Ab x):∃ T,tyK k=Ab T/\C0 x=Ab (.type T):=by
 cases k<;>simp only[O6]at h<;>cases h
 .exact⟨_,rfl,PyProof.Rows.boot_int⟩
 .exact⟨_,rfl,PyProof.Rows.boot_bool⟩
 .exact⟨_,rfl,PyProof.Rows.boot_str⟩
 .exact⟨_,rfl,VM⟩
 .exact⟨_,rfl,VN⟩
structure Snd (U:Gam) (CL:ClA) (k:Ag) (n:Ag):Prop where
 e:∀(W:XW)(T:Tc)(X:Cx)(x:Al)(c:E),VX U CL k W T X->A8 n T x c=Aa->OkE U CL W X x c
 b:∀(W:XW)(T:Tc)(X:Cx)(x:Al)(c:E),VX U CL k W T X->G9 n T x c=Aa->SB X CL W x (λZ=>(top Z c (evE U Z c)).bind BY)
 bs:∀(W:XW)(T:Tc)(X:Cx)(xs:Ac Al)(es:Es)(pos:AK),VX U CL k W T X->chkBs n T xs es=Aa->xs≠[]->SW X CL W (.BoolOp .And xs pos) (λZ=>(evN U Z es).bind BY)/\SW X CL W (.BoolOp .Or xs pos) (λZ=>(evO U Z es).bind BY)
 es:∀(W:XW)(T:Tc)(X:Cx)(xs:Ac Al)(es:Es),VX U CL k W T X->chkEs n T xs es=Aa->SA X CL W xs (λZ=>evA U Z es)/\SAT X CL W xs (λZ=>evB U Z es)/\xs.length=es.len/\(∀ pos,xs≠[]->SE X CL W (.BoolOp .And xs pos) (λZ=>evN U Z es)/\SE X CL W (.BoolOp .Or xs pos) (λZ=>evO U Z es))/\(∀ pos,(BX pos (Av xs X.env)).any (·.1)=Ae)
 o:∀(W:XW)(T:Tc)(X:Cx)(x:Ao Al)(c:E),VX U CL k W T X->chkO n T x c=Aa->SO X CL W x (λZ=>(top Z c (evE U Z c)).bind (slE c))
 t:∀(T:Tc)(X:Cx)(xs:Ac Al)(c:E),VX U CL k W0 T X->chkT n T xs c=Aa->STs X CL xs (λZ=>(top Z c (evE U Z c)).bind BY)
 i:∀(W:XW)(T:Tc)(X:Cx)(tu:Ai)(tg x:Al)(i:I),VX U CL k W T X->Ux tu tg=Aa->chkI n T tu x i=Aa->SI X CL W tg x (λZ=>evI U Z i)
section
variable{U:Gam}{CL:ClA}{W:XW}{k n:Ag}{T:Tc}{X:Cx}
theorem YY:Snd U CL k 0:=⟨λ_ _ _ _ _ _ h=>noF h,λ_ _ _ _ _ _ h=>noF h,λ_ _ _ _ _ _ _ h=>noF h,λ_ _ _ _ _ _ h=>noF h,λ_ _ _ _ _ _ h=>noF h,λ_ _ _ _ _ h=>noF h,λ_ _ _ _ _ _ _ _ _ h=>noF h⟩
theorem PZ{x:Al}(h:Dh x=Aa)(hx:(BX pos (Av xs env)).any (·.1)=Ae):(BX pos (Av (x::xs) env)).any (·.1)=Ae:=by
 rw[Cc h];show (Ae||(BX pos (Av xs env)).any (·.1))=Ae;rw[hx];rfl
theorem kC(S:Snd U CL k n)(W:XW)(T:Tc)(X:Cx)(xs:Ac Al)(es:Es)(v:VX U CL k W T X)(h:chkEs (n+1) T xs es=Aa):SA X CL W xs (λZ=>evA U Z es)/\SAT X CL W xs (λZ=>evB U Z es)/\xs.length=es.len/\(∀ pos,xs≠[]->SE X CL W (.BoolOp .And xs pos) (λZ=>evN U Z es)/\SE X CL W (.BoolOp .Or xs pos) (λZ=>evO U Z es))/\(∀ pos,(BX pos (Av xs X.env)).any (·.1)=Ae):=by
 cases xs with
 |nil=>
  cases es with
  |nil=>exact⟨jS,aE,rfl,λ_ z=>absurd rfl z,λ_=>rfl⟩
  |cons=>exact noF h
 |cons x xs=>
  cases es with
  |nil=>exact noF h
  |cons e es=>
   replace h:(Dh x&&A8 n T x e&&chkEs n T xs es)=Aa:=h;simp only[Ap]at h;obtain⟨⟨h0,h1⟩,h2⟩:=h;have he:=S.e W T X x e v h1;obtain⟨a1,a2,a3,a4,a5⟩:=S.es W T X xs es v h2;refine⟨dJ he.se a1 (Cc h0),ZC he.st a2 (Cc h0),congrArg (· + 1) a3,λpos _=>?_,λpos=>PZ h0 (a5 pos)⟩
   cases xs with
   |nil=>
    cases es with
    |nil=>exact⟨Sy he.se,Sy he.se⟩
    |cons=>cases a3
   |cons y ys=>
    cases es with
    |nil=>cases a3
    |cons e' es'=>
     obtain⟨b1,b2⟩:=a4 pos (by simp)
     exact⟨jO he.se b1,pF he.se b2⟩
theorem qD(S:Snd U CL k n)(W:XW)(T:Tc)(X:Cx)(x:Ao Al)(c:E)(v:VX U CL k W T X)(h:chkO (n+1) T x c=Aa):SO X CL W x (λZ=>(top Z c (evE U Z c)).bind (slE c)):=by
 cases x with
 |none=>
  obtain rfl:=Zz h;exact bC
 |some x=>
  replace h:(!(Mx c)&&A8 n T x c)=Aa:=h;rw[Ap]at h;have q:=aZ (S.e W T X x c v h.2).st;have e:slE c=λd=>(EG d).bind λi=>.ok (Ab i):=by
   funext d
   cases c<;>first|rfl|exact absurd (show Ae=Aa from h.1) AA
  rw[e];exact q
theorem oP(S:Snd U CL k n)(T:Tc)(X:Cx)(xs:Ac Al)(c:E)(v:VX U CL k W0 T X)(h:chkT (n+1) T xs c=Aa):STs X CL xs (λZ=>(top Z c (evE U Z c)).bind BY):=by
 cases xs with
 |nil=>
  replace h:=cJ h;obtain⟨b,rfl,h⟩:=h;subst h;exact aO
 |cons x xs=>
  replace h:(xs.isEmpty&&G9 n T x c)=Aa:=h;rw[Ap]at h;obtain rfl:=Hw h.1;exact aN (S.b W0 T X x c v h.2)
theorem qE(S:Snd U CL k n)(W:XW)(T:Tc)(X:Cx)(tu:Ai)(tg x:Al)(i:I)(v:VX U CL k W T X)(ht':Ux tu tg=Aa)(h:chkI (n+1) T tu x i=Aa):SI X CL W tg x (λZ=>evI U Z i):=by
 have ht:tu=Aa->sP tg=Aa:=λz=>by
  subst z;cases tg<;>first|rfl|cases ht'
 cases i with
 |e a=>
  exact XZ (S.e W T X x a v h).se
 |rng a=>
  replace h:=J8 h;obtain⟨g,pp,l,qq,rfl,h⟩:=h;replace h:=Ff h;obtain⟨y,rfl,h⟩:=h;simp only[Ap,A7]at h;obtain⟨⟨⟨rfl,h1⟩,h2⟩,h3⟩:=h;obtain⟨g1,g2,_,_⟩:=Jq v h1;exact jD (S.e W T X _ a v h3).st g1 g2 (Cc h2)
 |rng2 a b=>
  replace h:=J8 h;obtain⟨g,pp,l,qq,rfl,h⟩:=h;replace h:=Je h;obtain⟨y,z,rfl,h⟩:=h;simp only[Ap,A7]at h;obtain⟨⟨⟨⟨⟨rfl,h1⟩,h2⟩,h3⟩,h4⟩,h5⟩:=h;obtain⟨g1,g2,_,_⟩:=Jq v h1;exact bF (S.e W T X _ a v h4).st (S.e W T X _ b v h5).st g1 g2 (by rw[Cc h2,Cc h3];rfl) (by rw[Cc h3];rfl)
 |zip a b=>
  replace h:=J8 h;obtain⟨g,pp,l,qq,rfl,h⟩:=h;replace h:=Je h;obtain⟨y,z,rfl,h⟩:=h;simp only[Ap,A7]at h;obtain⟨⟨⟨⟨⟨⟨h0,rfl⟩,h1⟩,h2⟩,h3⟩,h4⟩,h5⟩:=h;obtain⟨g1,g2,_,_⟩:=Jq v h1;have hg:=ht h0;cases tg with
  |Tuple es m tpos=>exact jC (S.e W T X _ a v h4).se (S.e W T X _ b v h5).se g1 g2 (by rw[Cc h2,Cc h3];rfl) (by rw[Cc h3];rfl)
  |_=>cases hg
 |zip3 a b c=>exact absurd (show Ae=Aa from h) AA
 |enm a=>
  replace h:=J8 h;obtain⟨g,pp,l,qq,rfl,h⟩:=h;replace h:=Ff h;obtain⟨y,rfl,h⟩:=h;simp only[Ap,A7]at h;obtain⟨⟨⟨⟨h0,rfl⟩,h1⟩,h2⟩,h3⟩:=h;obtain⟨g1,g2,_,_⟩:=Jq v h1;have hg:=ht h0;cases tg with
  |Tuple es m tpos=>exact bG (S.e W T X _ a v h3).se g1 g2 (Cc h2)
  |_=>cases hg
theorem J5{c:Prop}[FF c]{b:Ai}:(if c then R.ok (D.bl b) else .bad)=.bad\/∃ b',(if c then R.ok (D.bl b) else .bad)=.ok (.bl b'):=by
 by_cases h:c
 .rw[Ax h];exact .inr ⟨_,rfl⟩
 .rw[AF h];exact .inl rfl
theorem Z_0(op:Db)(d d':D):Bw op d d'=.bad\/∃ b,Bw op d d'=.ok (.bl b):=by
 cases op with
 |Eq=>exact J5
 |NotEq=>exact J5
 |In=>
  cases d' with
  |lst ys=>exact J5
  |tup ys=>exact J5
  |dic kvs=>
   show (match Eb d with|some k=>R.ok (D.bl (kvs.any λp=>p.1==k))|none=>.bad)=.bad\/∃ b,(match Eb d with|some k=>R.ok (D.bl (kvs.any λp=>p.1==k))|none=>.bad)=.ok (.bl b)
   cases Eb d with
   |some k=>exact .inr ⟨_,rfl⟩
   |none=>exact .inl rfl
  |_=>exact .inl rfl
 |NotIn=>
  cases d' with
  |lst ys=>exact J5
  |tup ys=>exact J5
  |dic kvs=>
   show (match Eb d with|some k=>R.ok (D.bl (!kvs.any λp=>p.1==k))|none=>.bad)=.bad\/∃ b,(match Eb d with|some k=>R.ok (D.bl (!kvs.any λp=>p.1==k))|none=>.bad)=.ok (.bl b)
   cases Eb d with
   |some k=>exact .inr ⟨_,rfl⟩
   |none=>exact .inl rfl
  |_=>exact .inl rfl
 |Is=>
  cases d' with
  |non=>cases d<;>first|exact .inr ⟨_,rfl⟩|exact .inl rfl
  |_=>cases d<;>first|exact .inl rfl|exact .inr ⟨_,rfl⟩
 |IsNot=>
  cases d' with
  |non=>cases d<;>first|exact .inr ⟨_,rfl⟩|exact .inl rfl
  |_=>cases d<;>first|exact .inl rfl|exact .inr ⟨_,rfl⟩
 |_=>
  cases d with
  |int i=>cases d'<;>first|exact .inr ⟨_,rfl⟩|exact .inl rfl
  |_=>exact .inl rfl
theorem Si(op:Db)(d d':D):(Bw op d d').bind BY=.bad\/(Bw op d d').bind BY=(Bw op d d').bind DM:=by
 rcases Z_0 op d d' with h|⟨b,h⟩
 .rw[h];exact .inl rfl
 .rw[h];exact .inr rfl
theorem nG(e e':E)(es:Es):Rf (λZ=>(evN U Z (.cons e (.cons e' es))).bind BY) (λZ=>((top Z e (evE U Z e)).bind BY).bind λc=>if c=Aa then (evN U Z (.cons e' es)).bind BY else .ok Ae):=λZ=>by
 have e0:evN U Z (.cons e (.cons e' es))=(evE U Z e).bind λx=>(DM x).bind λc=>if c=Aa then evN U Z (.cons e' es) else .ok (.bl Ae):=rfl
 dsimp only;rw[e0];rcases OD U e Z with z|z<;>dsimp only at z
 .rw[z];exact .inl rfl
 .rw[<-z];cases evE U Z e with
  |bad=>exact .inl rfl
  |exn x=>exact .inr rfl
  |ok d=>
   cases d with
   |bl b=>cases b<;>exact .inr rfl
   |_=>exact .inl rfl
theorem nF(e e':E)(es:Es):Rf (λZ=>(evO U Z (.cons e (.cons e' es))).bind BY) (λZ=>((top Z e (evE U Z e)).bind BY).bind λc=>if c=Aa then .ok Aa else (evO U Z (.cons e' es)).bind BY):=λZ=>by
 have e0:evO U Z (.cons e (.cons e' es))=(evE U Z e).bind λx=>(DM x).bind λc=>if c=Aa then .ok (.bl Aa) else evO U Z (.cons e' es):=rfl
 dsimp only;rw[e0];rcases OD U e Z with z|z<;>dsimp only at z
 .rw[z];exact .inl rfl
 .rw[<-z];cases evE U Z e with
  |bad=>exact .inl rfl
  |exn x=>exact .inr rfl
  |ok d=>
   cases d with
   |bl b=>cases b<;>exact .inr rfl
   |_=>exact .inl rfl
theorem Rf.tru(e:E):Rf (λZ=>(evE U Z e).bind BY) (λZ=>(top Z e (evE U Z e)).bind BY):=λZ=>by
 rcases OD U e Z with z|z<;>dsimp only at z ⊢
 .rw[z];exact .inl rfl
 .rw[<-z];exact .inr rfl
theorem kD(S:Snd U CL k n)(W:XW)(T:Tc)(X:Cx)(xs:Ac Al)(es:Es)(pos:AK)(v:VX U CL k W T X)(h:chkBs (n+1) T xs es=Aa)(hne:xs≠[]):SW X CL W (.BoolOp .And xs pos) (λZ=>(evN U Z es).bind BY)/\SW X CL W (.BoolOp .Or xs pos) (λZ=>(evO U Z es).bind BY):=by
 cases xs with
 |nil=>exact absurd rfl hne
 |cons x xs=>
  cases es with
  |nil=>exact noF h
  |cons e es=>
   replace h:(G9 n T x e&&chkBs n T xs es)=Aa:=h;simp only[Ap]at h;obtain⟨h1,h2⟩:=h;have he:=S.b W T X x e v h1;cases xs with
   |nil=>
    cases es with
    |nil=>exact⟨SW.ref (aM he) (Rf.tru e),SW.ref (jY he) (Rf.tru e)⟩
    |cons=>
     cases n with
     |zero=>exact absurd (show Ae=Aa from h2) AA
     |succ n=>exact absurd (show Ae=Aa from h2) AA
   |cons y ys=>
    cases es with
    |nil=>
     cases n with
     |zero=>exact absurd (show Ae=Aa from h2) AA
     |succ n=>exact absurd (show Ae=Aa from h2) AA
    |cons e' es'=>
     obtain⟨b1,b2⟩:=S.bs W T X (y::ys) (.cons e' es') pos v h2 (by simp)
     exact⟨SW.ref (jZ he b1) (nG e e' es'),SW.ref (oO he b2) (nF e e' es')⟩
theorem cB(S:Snd U CL k n){x:Al}{ops:Ac Db}{b:BI}(v:VX U CL k W T X)(h:Pj T (A8 n) x ops ys b as=Aa):SB X CL W (.Compare x ops ys pos) (λZ=>(top Z (.bi b as) (evE U Z (.bi b as))).bind BY):=by
 exact absurd (show Ae=Aa from h) AA
theorem qG(S:Snd U CL k n)(W:XW)(T:Tc)(X:Cx)(x:Al)(c:E)(v:VX U CL k W T X)(h:G9 (n+1) T x c=Aa):SB X CL W x (λZ=>(top Z c (evE U Z c)).bind BY):=by
 have plain:∀ e,LI e=Aa->A8 n T e c=Aa->SB X CL W e (λZ=>(top Z c (evE U Z c)).bind BY):=λe h1 h2=>jP (S.e W T X e c v h2).st (aJ h1)
 replace h:((Lm x λo x=>decide (o=.Not)&&(MK c λa=>G9 n T x a))||(Kt x λo xs _=>(decide (o=.And)&&(Mt c λes=>chkBs n T xs es && !xs.isEmpty))||(decide (o=.Or)&&(MJ c λes=>chkBs n T xs es && !xs.isEmpty)))||(Ks x λx os ys=>(Mo c λop a b=>EE os λop'=>EE ys λy=>decide (op'=op) && !behindInMarks op y&&A8 n T x a&&A8 n T y b)||(Mp c λop1 op2 a b c=>Hz os λo1 o2=>Hz ys λy z=>decide (o1=op1)&&decide (o2=op2) && !lastMarks [op1,op2] [y,z]&&A8 n T x a&&A8 n T y b&&A8 n T z c)||(Mq c λb as=>Pj T (A8 n) x os ys b as))||LI x&&A8 n T x c)=Aa:=h
 replace h:=(orT h).imp_left λz=>(orT z).imp_left orT
 rcases h with ((h|h)|h)|h
 .replace h:=RE h;obtain⟨o,y,p,rfl,h⟩:=h;replace h:=CO h;obtain⟨h0,h⟩:=h;obtain rfl:=Bq h0;replace h:=cI h;obtain⟨a,rfl,h⟩:=h
  .skip
   refine SB.ref (jQ (S.b W T X _ a v h)) λZ=>?_
   show ((top Z a (evE U Z a)).bind λx=>(DM x).bind λb=>.ok (.bl (!b))).bind BY=.bad\/((top Z a (evE U Z a)).bind λx=>(DM x).bind λb=>.ok (.bl (!b))).bind BY=_
   cases top Z a (evE U Z a) with
   |bad=>exact .inl rfl
   |exn x=>exact .inr rfl
   |ok d=>cases d<;>first|exact .inr rfl|exact .inl rfl
 .replace h:=NI h;obtain⟨o,ys,p,rfl,h⟩:=h;replace h:=orT h;rcases h with h|h
  .replace h:=CO h;obtain⟨h0,h⟩:=h;obtain rfl:=Bq h0;replace h:=Zt h;obtain⟨es,rfl,h⟩:=h;simp only[Ap,Bu,DO]at h;exact(S.bs W T X _ _ _ v h.1 h.2).1.sb
  .replace h:=CO h;obtain⟨h0,h⟩:=h;obtain rfl:=Bq h0;replace h:=cH h;obtain⟨es,rfl,h⟩:=h;simp only[Ap,Bu,DO]at h;exact(S.bs W T X _ _ _ v h.1 h.2).2.sb
 .replace h:=NG h;obtain⟨w,os,ys,p,rfl,h⟩:=h;replace h:=(orT h).imp_left orT;rcases h with (h|h)|h
  .replace h:=Zo h;obtain⟨op,a,b,rfl,h⟩:=h;replace h:=Ff h;obtain⟨op',rfl,h⟩:=h;replace h:=Ff h;obtain⟨y,rfl,h⟩:=h
   .simp only[Ap,Bu,AW]at h;obtain⟨⟨⟨rfl,h1⟩,h2⟩,h3⟩:=h;refine SB.ref (jR (Kb v.room.units _) (S.e W T X _ a v h2).st (S.e W T X _ b v h3).st h1) λZ=>?_
    show ((top Z a (evE U Z a)).bind λx=>(top Z b (evE U Z b)).bind λy=>Bw op' x y).bind BY=.bad\/((top Z a (evE U Z a)).bind λx=>(top Z b (evE U Z b)).bind λy=>Bw op' x y).bind BY=_
    cases top Z a (evE U Z a) with
    |bad=>exact .inl rfl
    |exn x=>exact .inr rfl
    |ok d=>
     cases top Z b (evE U Z b) with
     |bad=>exact .inl rfl
     |exn x=>exact .inr rfl
     |ok d'=>
      dsimp only[R.bind];exact Si _ d d'
  .replace h:=Zp h;obtain⟨op1,op2,a,b,c,rfl,h⟩:=h;replace h:=Je h;obtain⟨o1,o2,rfl,h⟩:=h;replace h:=Je h;obtain⟨y,z,rfl,h⟩:=h
   .simp only[Ap,Bu,AW]at h;obtain⟨⟨⟨⟨⟨rfl,rfl⟩,h1⟩,h2⟩,h3⟩,h4⟩:=h;refine SB.ref (ZB v.room.units (S.e W T X _ a v h2).st (S.e W T X _ b v h3).st (S.e W T X _ c v h4).st h1) λZ=>?_
    show ((top Z a (evE U Z a)).bind λx=>(top Z b (evE U Z b)).bind λy=>(Bw o1 x y).bind λz=>(DM z).bind λk=>if k=Aa then (top Z c (evE U Z c)).bind λu=>Bw o2 y u else .ok (.bl Ae)).bind BY=.bad\/((top Z a (evE U Z a)).bind λx=>(top Z b (evE U Z b)).bind λy=>(Bw o1 x y).bind λz=>(DM z).bind λk=>if k=Aa then (top Z c (evE U Z c)).bind λu=>Bw o2 y u else .ok (.bl Ae)).bind BY=_
    cases top Z a (evE U Z a) with
    |bad=>exact .inl rfl
    |exn x=>exact .inr rfl
    |ok d=>
     cases top Z b (evE U Z b) with
     |bad=>exact .inl rfl
     |exn x=>exact .inr rfl
     |ok d'=>
      dsimp only[R.bind];cases Bw o1 d d' with
      |bad=>exact .inl rfl
      |exn x=>exact .inr rfl
      |ok d3=>
       cases d3 with
       |bl k=>
        cases k with
        |false=>exact .inr rfl
        |true=>
         dsimp only[R.bind,DM];rw[Ax rfl,Ax rfl];cases top Z c (evE U Z c) with
         |bad=>exact .inl rfl
         |exn x=>exact .inr rfl
         |ok d4=>exact Si _ d' d4
       |_=>exact .inl rfl
  .replace h:=Zq h;obtain⟨b,as,rfl,h⟩:=h;exact cB S v h
 .exact plain _ (CO h).1 (CO h).2
end
section
variable{U:Gam}{CL:ClA}{W:XW}{k n:Ag}{T:Tc}{X:Cx}
theorem tF{b:BI}{g:Ak}{x:Al}(v:VX U CL k W T X)(hb:O7 b=Ab g)(hg:isB T g=Aa)(hs:SAT X CL W (x::xs) (λZ=>evB U Z as))(h0:Dh x=Aa)(hpl:∀ pos,(BX pos (Av xs X.env)).any (·.1)=Ae):OkE U CL W X (.Call (.Name g p) (x::xs) [] pos) (.bi b as):=by
 obtain⟨g1,g2,g3,g4⟩:=Jq v hg;cases b<;>simp only[O7]at hb<;>cases hb
 .exact E5 (OF nC g1 g2 PySem.boot_len hs g3 g4 (Cc h0) hpl) (λ_ _=>rfl) rfl rfl
 .exact OC (iZ gB g1 g2 VM hs g3 g4 (Cc h0) hpl) (λ_ _=>rfl) rfl
 .exact E5 (jN Z_1 g1 g2 VN hs g3 g4 (Cc h0) hpl) (λ_ _=>rfl) rfl rfl
 .exact E5 (OF (nE v.calm) g1 g2 PyProof.Rows.boot_all hs g3 g4 (Cc h0) hpl) (λ_ _=>rfl) rfl rfl
 .exact E5 (OF (mZ v.calm) g1 g2 PyProof.Rows.boot_sum hs g3 g4 (Cc h0) hpl) (λ_ _=>rfl) rfl rfl
theorem LG{x:Al}{es:Es}(h:chkEs n T (x::xs) es=Aa):Dh x=Aa/\∃ e es',es=.cons e es'/\∃ m,n=m+1/\chkEs m T xs es'=Aa:=by
 cases n with
 |zero=>exact noF h
 |succ m=>
  cases es with
  |nil=>exact noF h
  |cons e es=>
   replace h:(Dh x&&A8 m T x e&&chkEs m T xs es)=Aa:=h;simp only[Ap]at h;exact⟨h.1.1,e,es,rfl,m,rfl,h.2⟩
theorem Nz:∀(m:Ag)(xs:Ac Al)(es:Es),chkEs m T xs es=Aa->∀ pos,(BX pos (Av xs X.env)).any (·.1)=Ae:=by
 intro m
 induction m with
 |zero=>intro xs es h;exact noF h
 |succ m ih=>
  intro xs es h pos;cases xs with
  |nil=>rfl
  |cons x xs=>
   obtain⟨h0,e,es',rfl,m',e1,h1⟩:=LG h;cases e1;exact PZ h0 (ih xs es' h1 pos)
theorem iR(S:Snd U CL k n){x:Al}{b:BI}(v:VX U CL k W T X)(h:(match PD as with|some a=>(match Ui x with|some y=>decide (b=.rvs)&&A8 n T y a|none=>Ae)|none=>Ae)=Aa):OkE U CL W X x (.bi b as):=by
 simp[PD]at h
theorem jW(S:Snd U CL k n){x:Al}{b:BI}(v:VX U CL k W T X)(h:(match Pc as with|some (a,c)=>(match UH x with|some (y,z,_)=>decide (b=.tlt) && !behindInMarks .Lt z&&A8 n T y a&&A8 n T z c|none=>Ae)|none=>Ae)=Aa):OkE U CL W X x (.bi b as):=by
 simp[Pc]at h
theorem mM{x:Al}{b:BI}(v:VX U CL k W T X)(h:UC T x b as=Aa):OkE U CL W X x (.bi b as):=by
 exact absurd h AA
theorem kA(S:Snd U CL k n){x:Al}{b:BI}(v:VX U CL k W T X)(h:(match Pd as with|some (a,k)=>(match Uy x with|some (y,j)=>decide (b=.stp)&&decide (j=k)&&decide (0<=k)&&A8 n T y a|none=>Ae)|none=>Ae)=Aa):OkE U CL W X x (.bi b as):=by
 simp[Pd]at h
theorem lD(S:Snd U CL k n){x:Al}{b:BI}(v:VX U CL k W T X)(h:(match Pf as with|some (a,c)=>(match UT x with|some (g,h,y,z)=>decide (b=.list)&&g==("list" : Ak)&&h==("range" : Ak)&&isB T g&&isB T h&&Dh y&&Dh z&&A8 n T y a&&A8 n T z c|none=>Ae)|none=>Ae)=Aa):OkE U CL W X x (.bi b as):=by
 simp[Pf]at h
theorem gK(S:Snd U CL k n){x:Al}{b:BI}(v:VX U CL k W T X)(h:(match Pe as with|some a=>(match US x with|some (g,h,y)=>decide (b=.lset)&&g==("len" : Ak)&&h==("set" : Ak)&&isB T g&&isB T h&&Dh y&&A8 n T y a|none=>Ae)|none=>Ae)=Aa):OkE U CL W X x (.bi b as):=by
 simp[Pe]at h
theorem qF(S:Snd U CL k n)(W:XW)(T:Tc)(X:Cx)(x:Al)(c:E)(v:VX U CL k W T X)(h:A8 (n+1) T x c=Aa):OkE U CL W X x c:=by
 cases c with
 |non=>
  replace h:=KZ h;obtain⟨c,u,p,rfl,h⟩:=h;obtain rfl:=Bq h;exact E5 jI (λ_ _=>rfl) rfl rfl
 |bl b=>
  replace h:=KZ h;obtain⟨c,u,p,rfl,h⟩:=h;obtain rfl:=Bq h;exact E5 pG (λ_ _=>rfl) rfl rfl
 |int i=>
  replace h:=KZ h;obtain⟨c,u,p,rfl,h⟩:=h;obtain rfl:=Bq h;exact E5 jK (λ_ _=>rfl) rfl rfl
 |str i=>
  replace h:=KZ h;obtain⟨c,u,p,rfl,h⟩:=h;obtain rfl:=Bq h;exact E5 jG (λ_ _=>rfl) rfl rfl
 |var i=>
  replace h:=GX h;obtain⟨y,p,rfl,h⟩:=h;exact⟨jE (Gc v h),Th (Gc v h),λz=>(nomatch z),λz=>(nomatch z)⟩
 |glob g=>exact absurd (show Ae=Aa from h) AA
 |bin op a b=>
  replace h:=Zr h;obtain⟨y,op',z,p,rfl,h⟩:=h;simp only[Ap,AW]at h;obtain⟨⟨rfl,h1⟩,h2⟩:=h;have ha:=(S.e W T X _ a v h1).st;have hb:=(S.e W T X _ b v h2).st;refine⟨Sz (RA _) ha hb,(Sz (RA _) ha hb).st,λz=>?_,λz=>nomatch z⟩
  cases op'<;>first|exact jA ha hb|cases z
 |un op a=>exact absurd (show Ae=Aa from h) AA
 |no a=>
  replace h:=RE h;obtain⟨o,y,p,rfl,h⟩:=h;replace h:=CO h;obtain⟨h0,h⟩:=h;obtain rfl:=Bq h0;exact E5 (jH (S.e W T X _ a v h).st) (λ_ _=>rfl) rfl rfl
 |and es=>
  replace h:=NI h;obtain⟨o,ys,p,rfl,h⟩:=h;replace h:=CO h;obtain⟨h0,h⟩:=h;obtain rfl:=Bq h0;simp only[Ap,Bu,DO]at h;exact E5 ((S.es W T X _ es v h.1).2.2.2.1 _ h.2).1 (λ_ _=>rfl) rfl rfl
 |or es=>
  replace h:=NI h;obtain⟨o,ys,p,rfl,h⟩:=h;replace h:=CO h;obtain⟨h0,h⟩:=h;obtain rfl:=Bq h0;simp only[Ap,Bu,DO]at h;exact E5 ((S.es W T X _ es v h.1).2.2.2.1 _ h.2).2 (λ_ _=>rfl) rfl rfl
 |cmp op a b=>
  replace h:=NG h;obtain⟨y,os,ys,p,rfl,h⟩:=h;replace h:=Ff h;obtain⟨op',rfl,h⟩:=h;replace h:=Ff h;obtain⟨z,rfl,h⟩:=h;simp only[Ap,Bu,AW]at h;obtain⟨⟨⟨rfl,h1⟩,h2⟩,h3⟩:=h;exact E5 (jM (Kb v.room.units _) (S.e W T X _ a v h2).st (S.e W T X _ b v h3).st h1) (λ_ _=>rfl) rfl rfl
 |cmp2 op1 op2 a b c=>
  replace h:=NG h;obtain⟨y,os,ys,p,rfl,h⟩:=h;replace h:=Je h;obtain⟨o1,o2,rfl,h⟩:=h;replace h:=Je h;obtain⟨z,w,rfl,h⟩:=h;simp only[Ap,Bu,AW]at h;obtain⟨⟨⟨⟨⟨rfl,rfl⟩,h1⟩,h2⟩,h3⟩,h4⟩:=h;exact E5 (ZA v.room.units (S.e W T X _ a v h2).st (S.e W T X _ b v h3).st (S.e W T X _ c v h4).st h1) (λ_ _=>rfl) rfl rfl
 |ite c a b=>exact absurd (show Ae=Aa from h) AA
 |call f as=>
  replace h:=Nn h;obtain⟨g,pp,y,ys,qq,rfl,h⟩:=h;simp only[Ap,Cs,A7,AW]at h;obtain⟨⟨⟨⟨⟨p,hp,⟨rfl,rfl⟩,hl⟩,h900⟩,h1⟩,h2⟩,h3⟩:=h;obtain⟨fa,fd,ps,m1,m2,m3,m4,m5,_⟩:=v.fn p hp;have hlt:p.2.2<1000:=by omega
  rw[VF hlt]at m4 m5;have m5:=m5 hlt;obtain⟨n2,n3,n4⟩:=L7 h2;obtain⟨a1,a2,a3,a4,a5⟩:=S.es W T X _ as v h3;obtain⟨s0,e,es',rfl,m,rfl,s1⟩:=LG h3;have q:SC X CL W (U.fr p.2.1) (.Call (.Name p.1 pp) (y::ys) [] qq) (λZ=>evE U Z (.call p.2.1 (.cons e es'))):=aD (sh:=λZ=>FD Z (.cons e es')) m5 v.room (by unfold glB at h1;show X.env.scope.names.lookup p.1=_;rw[v.sc];exact eq_of_beq h1) m1 m2 m3 v.px a1 a2 (λZ z=>OR U Z _ z) (λZ ds z=>by rw[Ol U Z _ _ z,<-a3,hl];rfl) n2 (Cc s0) (Nz m ys es' s1)
  exact⟨q.se,q.se.st,λz=>by
   have z':U.fr p.2.1=Aa:=z;rw[z']at q;exact q,λz=>nomatch z⟩
 |bi b as=>
  unfold A8 at h;dsimp only at h;simp only[Ca]at h;rcases h with (((((h|h)|h)|h)|h)|h)|h
  .replace h:=Nn h;obtain⟨g,pp,y,ys,qq,rfl,h⟩:=h;simp only[Ap,A7]at h;obtain⟨⟨h1,h2⟩,h3⟩:=h;obtain⟨s0,e,es',rfl,m,rfl,s1⟩:=LG h3;exact tF v h1 h2 (S.es W T X _ _ v h3).2.1 s0 (Nz m _ es' s1)
  .exact mM v h
  .exact lD S v h
  .exact kA S v h
  .exact gK S v h
  .exact jW S v h
  .exact iR S v h
 |isi a ks=>
  replace h:=Ff h;obtain⟨k',rfl,h⟩:=h;replace h:=J8 h;obtain⟨g,pp,l,qq,rfl,h⟩:=h;replace h:=Je h;obtain⟨y,t,rfl,h⟩:=h;replace h:=GX h;obtain⟨t,pt,rfl,h⟩:=h;simp only[Ap,A7]at h;obtain⟨⟨⟨⟨⟨rfl,h1⟩,h2⟩,h3⟩,h4⟩,h5⟩:=h;obtain⟨g1,g2,_,_⟩:=Jq v h1;obtain⟨b1,b2,b3,b4⟩:=Jq v h3;obtain⟨ty,t1,t2⟩:=tD h2;exact E5 (jJ t1 g1 g2 b1 b2 t2 b3 b4 (S.e W T X _ a v h5).st (Cc h4)) (λ_ _=>rfl) rfl rfl
 |idx a i=>
  replace h:=LP h;obtain⟨y,z,p,rfl,h⟩:=h;simp only[Ap]at h;obtain⟨⟨h1,h2⟩,h3⟩:=h;exact E5 (jL v.room.units (QS h1) (S.e W T X _ a v h2).st (S.e W T X _ i v h3).st) (λ_ _=>rfl) rfl rfl
 |sl a lo hi=>
  replace h:=LP h;obtain⟨y,s,p,rfl,h⟩:=h;replace h:=ZU h;obtain⟨l,u,st,p',rfl,h⟩:=h;replace h:=CO h;obtain⟨h0,h⟩:=h;obtain rfl:=Option.isNone_iff_eq_none.mp h0;simp only[Ap]at h;obtain⟨⟨h1,h2⟩,h3⟩:=h;refine OC (SC.congr (qJ (S.e W T X _ a v h1).st (S.o W T X _ lo v h2) (S.o W T X _ hi v h3)) λZ=>?_) (λ_ _=>rfl) rfl
  show ((top Z a (evE U Z a)).bind λx=>(top Z lo (evE U Z lo)).bind λl=>(slE lo l).bind λl'=>(top Z hi (evE U Z hi)).bind λh=>(slE hi h).bind λh'=>slD x l' h')=_
  simp only[R.bind_assoc]
 |tup es=>
  replace h:=KY h;obtain⟨ys,cc,p,rfl,h⟩:=h;simp only[Ap,AW]at h;have q:=S.es W T X _ es v h.1;exact E5 (jF q.1 λZ ds z=>by rw[Om U Z _ _ z,<-q.2.2.1];omega) (λ_ _=>rfl) rfl rfl
 |lst es=>
  replace h:=ZV h;obtain⟨ys,p,rfl,h⟩:=h;simp only[Ap,AW]at h;have q:=S.es W T X _ es v h.1;exact OC (kO q.1 λZ ds z=>by rw[Om U Z _ _ z,<-q.2.2.1];omega) (λ_ _=>rfl) rfl
 |comp elt t it c=>
  replace h:=RF (e:=x) (F:=_) (by unfold A8 at h;exact h)
  obtain⟨y,tg,it',ifs,scope,p,rfl,h⟩:=h;replace h:=GX h;obtain⟨w,pw,rfl,h⟩:=h;simp only[Ap]at h;obtain⟨⟨⟨⟨⟨h1,h2⟩,h3⟩,h4⟩,h5⟩,h6⟩:=h;refine TC v.calm ⟨_,_,_,_,_,_,_,_,_,_,_,_,_,rfl,(OK v h3).1,S.i W T X Ae _ _ it v rfl h1,fC t,λcl C s H fp=>cC (v.blk h3) (λz=>A7.mpr z) h4,λcl C s H fp=>S.t _ _ _ c (v.blk h3) h5,λcl C s H fp=>(S.e W0 _ _ _ elt (v.blk h3) h6).se,Md h2,λZ=>rfl⟩ (λ_ _=>rfl)
 |compT elt ts it c=>
  replace h:=RF (e:=x) (F:=_) (by unfold A8 at h;exact h)
  obtain⟨y,tg,it',ifs,scope,p,rfl,h⟩:=h;replace h:=KY h;obtain⟨ys,cc,pw,rfl,h⟩:=h;simp only[Ap]at h;obtain⟨⟨⟨⟨⟨⟨h0,h1⟩,h2⟩,h3⟩,h4⟩,h5⟩,h6⟩:=h;refine TC v.calm ⟨_,_,_,_,_,_,_,_,_,_,_,_,_,rfl,(OK v h3).1,S.i W T X Aa _ _ it v rfl h1,kR ts,λcl C s H fp=>aH (v.blk h3) h0 h4,λcl C s H fp=>S.t _ _ _ c (v.blk h3) h5,λcl C s H fp=>(S.e W0 _ _ _ elt (v.blk h3) h6).se,Md h2,λZ=>rfl⟩ (λ_ _=>rfl)
 |tupI it=>exact absurd (show Ae=Aa from h) AA
 |dget i a c=>
  unfold A8 at h;dsimp only at h;cases q:xMt x with
  |none=>rw[q]at h;cases h
  |some t=>
   obtain⟨x,m,y,z⟩:=t;rw[q]at h;simp only[Ap,A7]at h;obtain⟨⟨⟨⟨⟨rfl,h1⟩,h2⟩,h3⟩,h4⟩,h5⟩:=h;obtain⟨p,ap,cp,rfl,hl⟩:=S7 q;have hu:=v.room.units;exact E5 (aA (by omega) (Gc v h1) (S.e W T X _ a v h4).st (S.e W T X _ c v h5).se rfl (by rw[Cc h2,Cc h3];rfl) (by rw[hl];exact Cw _) (Cc h2) (Cc h3) (by rw[Cc h3];rfl)) (λ_ _=>rfl) rfl rfl
 |fld o f=>exact noF h
theorem snd:∀ n,Snd U CL k n
 |0=>YY
 |n+1=>⟨qF (snd n),qG (snd n),kD (snd n),kC (snd n),qD (snd n),oP (snd n),qE (snd n)⟩
end
section
variable{U:Gam}{CL:ClA}{W:XW}{k n:Ag}{T:Tc}{X:Cx}
theorem aG{t:Ag}(v:VX U CL k W T X)(hf:∀ x,X.fn x=Aa)(h:tgC T [t] [x]=Aa):PG X (.Name x pos) (Ey t):=by
 unfold tgC at h;simp only[Ap,A7]at h;exact K4 (by rw[v.N];exact v.nd) (by rw[v.N];exact h.1.1) (by rw[v.sc];exact K3 h.1.2) (.inl (hf x))
theorem RM(v:VX U CL k W T X)(hf:∀ x,X.fn x=Aa):∀(ys:Ac Al)(ts:Ac Ag)(zs:Ac Ak),ES ys=Ab zs->tgC T ts zs=Aa->PGs X ys (ts.foldr (λt u=>GA (Ey t) u) Hd)/\ts.length=ys.length:=by
 intro ys
 induction ys with
 |nil=>
  intro ts zs e h;cases e;cases ts with
  |nil=>exact⟨Rx,rfl⟩
  |cons t ts=>cases h
 |cons y r ih=>
  intro ts zs e h;obtain⟨x,p,ws,rfl,e2,rfl⟩:=Nk e;cases ts with
  |nil=>cases h
  |cons t ts=>
   have h':(T.N[t]? == Ab x&&Ib T x&&tgC T ts ws)=Aa:=h;simp only[Ap,A7]at h';obtain⟨h1,h2⟩:=ih ts ws e2 h'.2;exact⟨QY (K4 (by rw[v.N];exact v.nd) (by rw[v.N];exact h'.1.1) (by rw[v.sc];exact K3 h'.1.2) (.inl (hf x))) h1 (by rw[NP];rfl),congrArg (· + 1) h2⟩
theorem aF(v:VX U CL k W T X)(hf:∀ x,X.fn x=Aa)(hn:(ES ys).isSome=Aa)(h:tgC T ts (tgN ys)=Aa):PG X (.Tuple ys kk pos) (Kz X.K ts.length (ts.foldr (λt u=>GA (Ey t) u) Hd)):=by
 cases e:ES ys with
 |none=>rw[e]at hn;cases hn
 |some zs=>
  have e2:tgN ys=zs:=by unfold tgN;rw[e];rfl
  rw[e2]at h;obtain⟨h1,h2⟩:=RM v hf ys ts zs e h;obtain⟨h3,h4,_⟩:=Nj (env:=X.env) ys zs e;exact OA v.calm h1 (by rw[h3,h2]) h4
theorem jX(v:VX U CL k W T X)(hf:∀ x,X.fn x=Aa)(hn:(ES ys).isSome=Aa)(h:tgC T ts (tgN ys)=Aa):PG X (.Tuple ys kk pos) (gSq X.K ts.length (ts.foldr (λt u=>GA (Ey t) u) Hd)):=by
 cases e:ES ys with
 |none=>rw[e]at hn;cases hn
 |some zs=>
  have e2:tgN ys=zs:=by unfold tgN;rw[e];rfl
  rw[e2]at h;obtain⟨h1,h2⟩:=RM v hf ys ts zs e h;obtain⟨h3,h4,_⟩:=Nj (env:=X.env) ys zs e;exact sB v.calm h1 (by rw[h3,h2]) h4
theorem gY{e:Al}(h:(TD e||C7 4 ys.length)=Aa):Fs [.Tuple ys kk pos] e env=pure Af:=by
 cases e with
 |Tuple vs a b=>
  have h4:=Ep (show C7 4 ys.length=Aa from h)
  have e2:(ys.length==2)=Ae:=by rw[Co];omega
  have e3:(ys.length==3)=Ae:=by rw[Co];omega
  unfold Fs;dsimp only;rw[e2,e3];rfl
 |_=>rfl
theorem Yz(ts:Ac Ag):∀ d Z x,FB ts d Z≠.exn x:=λd Z x h=>by
 unfold FB at h;cases d with
 |tup xs=>
  dsimp only at h;cases e:Ew ts xs Z with
  |some r=>rw[e]at h;cases h
  |none=>rw[e]at h;cases h
 |_=>cases h
theorem YW{elt:Al}{gs:Ac Il}{pos':AK}:∃ b,CT (.ListComp elt gs scope pos) (Ab (.Name x pos')) l env=pure b/\(b=Aa->env.scope.names.lookup x=Ab .local):=by
 refine⟨_,rfl,λh=>?_⟩
 simp only[Ap,A7]at h;exact h.1.1.2
theorem OG{v0:Al}{i:Ag}{e:E}(v:VX U CL k W T X)(hf:∀ x,X.fn x=Aa)(hi:T.N[i]?=Ab x)(hl:Ib T x=Aa)(o:OkE U CL W X v0 e)(hfr:fr=Aa->CM U e=Aa):SAs X CL W fr i (.Assign [.Name x p] v0 pos) (λZ=>evE U Z e):=by
 have hN:X.N.Nodup:=by rw[v.N];exact v.nd
 have hi':X.N[i]?=Ab x:=by rw[v.N];exact hi
 have hx:Loc X.env.scope x:=by rw[v.sc];exact K3 hl
 have sc:SC X CL W fr v0 (λZ=>evE U Z e):=by
  cases fr with
  |false=>exact o.se.sc
  |true=>exact o.nw (hfr rfl)
 cases hc:IE v0 with
 |true=>exact SC.sas hN hi' hx sc (On hc) (.inl (hf x))
 |false=>
  obtain⟨tg,iter,elt,ifs,scope,pos2,N',ts,fi,fc,fe,as,g,rfl,B,h2,hGG,hg,ht,he,hs,ef⟩:=o.cp hc;obtain⟨b,hb,hb'⟩:=YW (elt:=elt) (gs:=[⟨tg,iter,ifs,0⟩]) (scope:=scope) (pos:=pos2) (pos':=p) (x:=x) (l:=pos.line) (env:=X.env);cases b with
  |false=>exact SC.sas hN hi' hx sc hb (.inl (hf x))
  |true=>
   have q:=ZD (pos2:=pos) v.calm B h2 hGG hg ht he hs hN hi' (hb' rfl) hb;have q':SAs X CL W Aa i (.Assign [.Name x p] (.ListComp elt [⟨tg,iter,ifs,0⟩] scope pos2) pos) (λZ=>evE U Z e):=by
    have:(λZ=>evE U Z e)=_:=funext ef
    rw[this];exact q
   cases fr with
   |true=>exact q'
   | false=>exact λA=>PS.weak (q' A) λD Y H ⟨hA,Z,gd,z⟩=>⟨hA,Z,gd,by
     dsimp only at z ⊢;cases e0:evE U Z e with
     |ok d=>
      rw[e0]at z;exact λv' H' s' r'=>z v' H' s' ⟨r'.1,λ_=>r'.2 rfl⟩
     |exn y=>rw[e0]at z;exact z
     | bad=>rw[e0]at z;exact z⟩
theorem N3{e t:Al}(h:∀ x p,t≠.Name x p):Gx [t] e l env=pure Ae:=by
 show CT e (Ab t) l env=pure Ae;cases e<;>first|rfl|(cases t<;>first|rfl|exact absurd rfl (h _ _))
theorem Qk(Z:Rho)(e:E)(h:∀ i,e≠.var i):evS U Z (.ret e)=O.of Z (evE U Z e) λd=>.ret d (CM U e&&G7 d):=by
 have k:∀ b:Ai,b=Ae->top Z e (evE U Z e)=evE U Z e->(O.of Z (top Z e (evE U Z e)) λd=>.ret d (CM U e&&G7 d||b))=O.of Z (evE U Z e) λd=>.ret d (CM U e&&G7 d):=λb hb ht=>by
  rw[hb,ht];simp only[EI]
 rw[Sc];cases e with
 |var i=>exact absurd rfl (h i)
 |_=>exact k _ rfl rfl
structure DefX (X:Cx):Prop where
 fn:∀ x,X.fn x=Aa
 ex:X.ex=[]
 st:X.stack=X.env::X.outer
 fm:X.env.frame=Ab X.env.locals
structure SndS (U:Gam) (CL:ClA) (k:Ag) (n:Ag):Prop where
 s:∀(W:XW)(T:Tc)(X:Cx)(x:AO)(c:S),VX U CL k W T X->DefX X->JE n T x c=Aa->SS X CL W x (λZ=>evS U Z c)
 ss:∀(W:XW)(T:Tc)(X:Cx)(x:Ac AO)(c:Ss),VX U CL k W T X->DefX X->chkSs n T x c=Aa->SSs X CL W x (λZ=>evSs U Z c)
theorem VX.pw(v:VX U CL k W T X){Xw:Vq}(own:FH (model X.prog X.w) X.A X.env Xw):VX U CL k W0 T (Cx.pw X pI Xw):=⟨v.sc,v.kd,v.N,v.nd,v.calm,v.room,v.bl,v.fn,own,SL,Uh,v.xt,v.gl⟩
theorem STB.congr{st:Ac AO}{f g:Rho->O}(h:STB X CL st f)(e:∀ Z,g Z=f Z):STB X CL st g:=by
 have:g=f:=funext e;rw[this];exact h
theorem SD{st:AO}{e:E}(v:VX U CL k W T X)(h:(Kq st λo=>match o with|some v=>A8 n T v e|none=>Ae)=Aa):SS X CL W st (λZ=>evS U Z (.ret e)):=by
    have E:=snd (U:=U) (CL:=CL) (k:=k) n;replace h:=Q1 h;obtain⟨o,pos,rfl,h⟩:=h;cases o with
    |none=>exact noF h
    |some v0=>
    replace h:A8 n T v0 e=Aa:=h;have o:=E.e W T X _ e v h;cases hv:CM U e with
    |true=>
      refine SS.ref (aU (o.nw hv)) λZ=>.inr ?_
      rw[Qk Z e (λi z=>by subst z;cases hv),hv]
      simp only[U_3]
    |false=>
      cases e with
      |var i=>
        cases n with
        |zero=>exact noF h
        |succ n=>
          replace h:=GX h;obtain⟨y,py,rfl,h⟩:=h;exact aR (Gc v h)
      |_=>
        refine SS.ref (aT o.se) λZ=>.inr ?_
        rw[Qk Z _ (by intro i z;cases z),hv]
        simp only[U_1]
theorem Sd(U:Gam)(Z:Rho):∀(es:Es)(xs:Ac (D×Ai)),evP U Z es=.ok xs->xs.length=es.len
 |.nil,_,h=>by cases h;rfl
 |.cons e es,xs,h=>by
  have h:(noX (top Z e (evE U Z e))).bind (λd=>(evP U Z es).bind λxs=>.ok ((d,CM U e||Ps Z e)::xs))=.ok xs:=h
  cases e1:noX (top Z e (evE U Z e)) with
  |bad=>rw[e1]at h;cases h
  |exn y=>rw[e1]at h;cases h
  |ok d=>
   rw[e1,R.bind_ok]at h;cases e2:evP U Z es with
   |bad=>rw[e2]at h;cases h
   |exn y=>rw[e2]at h;cases h
   |ok ys=>
    rw[e2]at h;cases h;show ys.length+1=es.len+1;rw[Sd U Z es ys e2]
theorem sA(v:VX U CL k W T X):∀(m:Ag)(xs:Ac Al)(es:Es),chkEs m T xs es=Aa->∀ Fz B Z Y0,PA X xs (tPs X CL Fz B Z Y0 (evP U Z es)):=by
 intro m
 induction m with
 |zero=>intro xs es h;exact noF h
 |succ m ih=>
  intro xs es h Fz B Z Y0;cases xs with
  |nil=>
   cases es with
   |nil=>exact jU
   |cons e es=>exact noF h
  |cons x xs=>
   cases es with
   |nil=>exact noF h
   |cons e es=>
    have h':(Dh x&&A8 m T x e&&chkEs m T xs es)=Aa:=h;replace h':=CO h';obtain⟨h',h3⟩:=h';replace h':=CO h';obtain⟨h1,h2⟩:=h';refine bX ?_ (ih xs es h3 Fz B Z Y0) (Cc h1);have o:=(snd (U:=U) (CL:=CL) (k:=k) m).e W T X _ e v h2;by_cases hv:∃ i,e=.var i
    .obtain⟨i,rfl⟩:=hv;cases m with
     |zero=>exact noF h2
     |succ m=>
      replace h2:=GX h2;obtain⟨y,py,rfl,h2⟩:=h2;exact hG (Gc v h2)
    .have ht:top Z e (evE U Z e)=evE U Z e:=by
      cases e with
      |var i=>exact absurd ⟨i,rfl⟩ hv
      |_=>rfl
     have ho:Ps Z e=Ae:=by
      cases e with
      |var i=>exact absurd ⟨i,rfl⟩ hv
      |_=>rfl
     rw[ht,ho,EI];cases hn:CM U e with
     |true=>exact To (o.nw hn)
     |false=>exact To o.se.sc
theorem Oo(v:VX U CL k W T X):∀(m:Ag)(sts:Ac AO)(ss:Ss)(kk:Ac AO->Ai),JF m T sts ss kk=Aa->∃ pre r,sts=pre++r/\kk r=Aa/\NSc X CL W pre (λZ=>evSs U Z ss)/\∀ Z,okN Z (evSs U Z ss):=by
 intro m
 induction m with
 |zero=>intro sts ss kk h;exact noF h
 |succ m ih=>
  intro sts ss kk h;cases ss with
  |nil=>exact⟨[],sts,rfl,h,gD,λZ=>.inl rfl⟩
  |cons s ss=>
   cases sts with
   |nil=>exact noF h
   |cons st sts=>
    replace h:=CO h;obtain⟨h1,h2⟩:=h;obtain⟨pre,r,rfl,hk,hn,ho⟩:=ih sts ss kk h2;have key:NS X CL W st (λZ=>evS U Z s)/\∀ Z,okN Z (evS U Z s):=by
     cases s with
     |ife c a b=>
      replace h1:=Oc h1;obtain⟨t,xs,ys,pos,rfl,h1⟩:=h1;replace h1:=CO h1;obtain⟨h1,hb⟩:=h1;replace h1:=CO h1;obtain⟨hc,ha⟩:=h1;obtain⟨pa,ra,rfl,ka,na,oa⟩:=ih xs a _ ha;obtain⟨pb,rb,rfl,kb,nb,ob⟩:=ih ys b _ hb;obtain rfl:=Hw ka;obtain rfl:=Hw kb;rw[BE,BE];refine⟨qV ((snd (U:=U) (CL:=CL) (k:=k) m).b W T X _ c v hc) na nb,λZ=>?_⟩
      show okN Z (O.of Z ((top Z c (evE U Z c)).bind BY) λk=>if k=Aa then evSs U Z a else evSs U Z b)
      cases (top Z c (evE U Z c)).bind BY with
      |bad=>exact .inr rfl
      |exn y=>exact .inr rfl
      |ok q=>
       cases q with
       |true=>exact oa Z
       |false=>exact ob Z
     |ret e=>
      have hr:∀ Z,Px (evS U Z (.ret e))=Aa:=λZ=>by
       rw[Sc];cases top Z e (evE U Z e)<;>rfl
      exact⟨(SD v h1).ns hr,λZ=>.inr (hr Z)⟩
     |_=>exact noF h1
    refine⟨st::pre,r,rfl,hk,Zu key.1 (λZ Z' z=>?_) hn,λZ=>?_⟩
    .rcases key.2 Z with e|e
     .rw[e]at z;cases z;rfl
     .rw[z]at e;cases e
    .show okN Z ((evS U Z s).seq λZ'=>evSs U Z' ss)
     rcases key.2 Z with e|e
     .rw[e];exact ho Z
     .cases eo:evS U Z s with
      |ret d b=>exact .inr rfl
      |exn y Z'=>exact .inr rfl
      |bad=>exact .inr rfl
      |_=>rw[eo]at e;cases e
theorem Tt(v:VX U CL k W T X){e:Al}{f:Ag}(h:A8 n T e (.call f as)=Aa)(hfr:U.fr f=Aa):SF X CL W e (λZ=>if FD Z as=Aa then evE U Z (.call f as) else .bad):=by
 cases n with
 |zero=>exact noF h
 |succ n=>
  replace h:=Nn h;obtain⟨g,pp,y,ys,qq,rfl,h⟩:=h;simp only[Ap,Cs,A7,AW]at h;obtain⟨⟨⟨⟨⟨p,hp,⟨rfl,rfl⟩,hl⟩,h900⟩,h1⟩,h2⟩,h3⟩:=h;obtain⟨fa,fd,ps,m1,m2,m3,m4,m5,_⟩:=v.fn p hp;have hlt:p.2.2<1000:=by omega
  rw[VF hlt]at m4 m5;have m5:=m5 hlt;obtain⟨n2,n3,n4⟩:=L7 h2;obtain⟨a1,a2,a3,a4,a5⟩:=(snd (U:=U) (CL:=CL) (k:=k) n).es W T X _ as v h3;obtain⟨s0,e,es',rfl,m,rfl,s1⟩:=LG h3;rw[hfr]at m5;have q:=Z_6 (pos:=qq) (p:=pp) (sh:=λZ=>FD Z (.cons e es')) m5 v.room (by unfold glB at h1;show X.env.scope.names.lookup p.1=_;rw[v.sc];exact eq_of_beq h1) m1 m2 m3 v.px a1 (λZ z=>OR U Z _ z) (λZ ds z=>by rw[Ol U Z _ _ z,<-a3,hl];rfl) n2 (Cc s0) (Nz m ys es' s1)
  refine λA=>PE.weak (q A) λY H Q ⟨hA,Z,gd,z⟩=>⟨hA,Z,gd,?_⟩
  dsimp only at z ⊢;by_cases hs:FD Z (.cons e es')=Aa
  .rw[Ax hs]at z ⊢;rw[ZX]at z;cases e1:evB U Z (.cons e es') with
   |bad=>rw[e1]at z;exact z
   |exn y=>rw[e1]at z;exact z
   |ok ds=>
    rw[e1,R.bind_ok]at z;rw[R.bind_ok];cases e2:U.F p.2.1 ds with
    |bad=>rw[e2]at z;exact z
    |exn y=>rw[e2]at z;exact z
    |ok d=>rw[e2,R.bind_ok,Ax hs]at z;exact z
  .rw[AF hs]at z;exact z.elim
theorem tE(v:VX U CL k W T X)(hf:DefX X){f kk:Ag}{pre a b:Ss}{c e:E}{s1:AO}{q:Ac AO}(h:Pb n T ts f as pre c a b kk e s1 q=Aa):SSs X CL W (s1::q) (λZ=>evS U Z (.blk ts f as pre c a b kk e)):=by
  by_cases hfr:U.fr f=Aa
  rotate_left
  · intro Fz B pI s Y H D I ⟨Z,x,p⟩;dsimp only at p;rw[L8,AF (by rw[Ap];exact λz=>hfr z.1)]at p
    exact p.elim
  replace h:=CO h;obtain⟨h1,h2⟩:=h;obtain⟨ppre,r,rfl,h3,np,op⟩:=Oo v n q pre _ h2
  clear h2
  replace h3:=Ff h3;obtain⟨st,rfl,h3⟩:=h3;replace h3:=Oc h3;obtain⟨t,xs,ys,q2,rfl,h3⟩:=h3;replace h3:=CO h3;obtain⟨h3,hb⟩:=h3;replace h3:=CO h3;obtain⟨hc,ha⟩:=h3;obtain⟨pa,ra,rfl,ka,na,oa⟩:=Oo v n xs a _ ha;obtain rfl:=Hw ka;obtain⟨pb,rb,rfl,kb,nb,ob⟩:=Oo v n ys b _ hb;replace kb:=Ff kb;obtain⟨sp,rfl,kb⟩:=kb;rw[BE];have hB:=(snd (U:=U) (CL:=CL) (k:=k) n).b W T X _ c v hc;have fin:∀{st:Ac AO},SSs X CL W st (λZ=>JG ts (if FD Z as=Aa then evE U Z (.call f as) else .bad) kk (λZ=>evSs U Z pre) (λZ=>evSs U Z a) (λZ=>evSs U Z b) (λZ=>(top Z c (evE U Z c)).bind BY) (λZ=>evE U Z e) Z)->SSs X CL W st (λZ=>evS U Z (.blk ts f as pre c a b kk e)):=λz Fz B=>PSs.weak (z Fz B) λD Y H ⟨Z,x,p⟩=>⟨Z,x,by
    dsimp only at p ⊢;rw[L8,hfr,U_3]at p;by_cases hs:FD Z as=Aa
    · rw[Ax hs]at p ⊢;exact p
    · rw[AF hs]at p;exact p.elim⟩
  refine fin ?_
  match ts,h1,kb with
  |[x],g1,kc=>
    replace g1:=QG g1;obtain⟨y1,p1,v1,q1,rfl,g1⟩:=g1;replace g1:(T.N[x]? == Ab y1&&Ib T y1&&IE v1&&A8 n T v1 (.call f as))=Aa:=g1;simp only[Ap,A7]at g1;obtain⟨⟨⟨a1,a2⟩,a3⟩,a4⟩:=g1;replace kc:=NE kc;obtain⟨e0,q3,rfl,kc⟩:=kc;replace kc:=NH kc;obtain⟨fx,l,ks,cp,rfl,kc⟩:=kc;replace kc:=CO kc;obtain⟨k0,kc⟩:=kc;obtain rfl:=Hw k0;replace kc:=Ff kc;obtain⟨ve,rfl,kc⟩:=kc;replace kc:=Q3 kc;obtain⟨w,m,ap,rfl,kc⟩:=kc;replace kc:=CO kc;obtain⟨kc,b5⟩:=kc;replace kc:=CO kc;obtain⟨kc,b4⟩:=kc;replace kc:=CO kc;obtain⟨kc,b3⟩:=kc;replace kc:=CO kc;obtain⟨b1,b2⟩:=kc;obtain rfl:=eq_of_beq b1;replace b3:=LP b3;obtain⟨o,i,p5,rfl,b3⟩:=b3;replace b3:=CO b3;obtain⟨b6,b7⟩:=b3;replace b6:=GX b6;obtain⟨y2,p6,rfl,b6⟩:=b6;replace b7:=KZ b7;obtain⟨cc,u,p7,rfl,b7⟩:=b7;obtain rfl:=Bq b7;have hT:PE X (.Subscript (.Name y2 p6) (.Constant (.int (kk:Ad)) u p7) p5) (λY H Q=>∃ w,(∃ q us,Y[x]?=Ab (Ab (.ref q))/\SqT X.K H q us/\us[kk]?=Ab w)/\Q w H):=PE.weak (TX SY (Gc v b6) SJ (QS rfl)) λY H Q ⟨w,⟨q,us,z1,z2,z3⟩,z4⟩=>⟨_,z1,q,us,(kk:Ad),w,rfl,rfl,z2,iN z3,z4⟩
    exact RP (Tt v a4 hfr) (λte he=>Ox (by rw[v.N];exact v.nd) (by rw[v.N];exact a1) (by rw[v.sc];exact K3 a2) he (On a3) (.inl (hf.fn _))) (Z_8 x kk) (λY H H' u s ⟨q,us,z1,z2,z3⟩=>⟨q,us,z1,Ke (A:=A0) (Kp.of s) (.inl λz=>z) z2,z3⟩) hT np op hB na oa nb ob ((snd (U:=U) (CL:=CL) (k:=k) n).e W T X _ e v b5).se rfl (by rw[Cc b4];rfl) b2 (Cc b4) rfl
  |[x,y],g1,kc=>
    replace g1:=NJ g1;obtain⟨t1,v1,p1,rfl,g1⟩:=g1;replace g1:=KY g1;obtain⟨ys,cc,pw,rfl,g1⟩:=g1;simp only[Ap]at g1;obtain⟨⟨⟨a1,a2⟩,a3⟩,a4⟩:=g1;replace kc:=ND kc;obtain⟨y2,p6,m,ap,l,cp,q3,rfl,hln,kc⟩:=kc;replace kc:=Ff kc;obtain⟨ve,rfl,kc⟩:=kc;replace kc:=CO kc;obtain⟨kc,b5⟩:=kc;replace kc:=CO kc;obtain⟨kc,b4⟩:=kc;replace kc:=CO kc;obtain⟨b1,b6⟩:=kc;obtain rfl:=eq_of_beq b1;have hT:PE X (.Name y2 p6) (λY H Q=>∃ w,Y[if kk=0 then x else y]?=Ab (Ab w)/\Q w H):=Gc v b6
    exact RP (Tt v a4 hfr) (λte he=>Oy he (jX v hf.fn a1 a2) (N3 (λ_ _ z=>by cases z)) (gY (by rw[a3];rfl)) rfl) (Z_7 x y kk) (λY H H' u s z=>z) hT np op hB na oa nb ob ((snd (U:=U) (CL:=CL) (k:=k) n).e W T X _ e v b5).se rfl (by rw[Cc b4];rfl) (by rw[hln];exact Cw _) (Cc b4) rfl
theorem qC(Z_:SndS U CL k n)(W:XW)(T:Tc)(X:Cx)(st:AO)(c:S)(v:VX U CL k W T X)(hf:DefX X)(h:JE (n+1) T st c=Aa):SS X CL W st (λZ=>evS U Z c):=by
  have E:=snd (U:=U) (CL:=CL) (k:=k) n;cases c with
  |pass=>exact absurd (show Ae=Aa from h) AA
  |brk=>exact absurd (show Ae=Aa from h) AA
  |cont=>exact absurd (show Ae=Aa from h) AA
  |asg i fresh e=>
    replace h:=QG h;obtain⟨x,px,v0,pos,rfl,h⟩:=h;simp only[Ap,A7]at h;obtain⟨⟨h1,h2⟩,h3⟩:=h;have o:=E.e W T X _ e v h3;cases fresh with
    |false=>exact Tj (OG (fr:=Ae) v hf.fn h1 h2 o (λz=>nomatch z))
    |true=>
      cases hn:CM U e with
      |true=>
        refine SS.ref (aY (OG (fr:=Aa) v hf.fn h1 h2 o (λ_=>hn))) λZ=>.inr ?_
        show O.of Z (evE U Z e) (λd=>if Aa=Aa then (if CM U e=Aa then (match d with
          |.lst xs=>.next (Z.set i (Ab (.lst xs,Aa)))
          | _=>.bad) else .bad) else .next (Z.set i (Ab (d,Ae))))=_
        rw[hn];rfl
      |false=>
        refine SS.ref (Tj (OG (fr:=Ae) v hf.fn h1 h2 o (λz=>nomatch z))) λZ=>?_
        have e0:evS U Z (.asg i Aa e)=O.of Z (evE U Z e) (λd=>if Aa=Aa then (if CM U e=Aa then (match d with
          |.lst xs=>.next (Z.set i (Ab (.lst xs,Aa)))
          | _=>.bad) else .bad) else .next (Z.set i (Ab (d,Ae)))):=rfl
        rw[e0,hn];cases evE U Z e with
        |ok d=>exact .inl rfl
        |exn y=>exact .inr rfl
        |bad=>exact .inl rfl
  |asgT ts e=>exact absurd (show Ae=Aa from h) AA
  |expr e=>
    replace h:=NE h;obtain⟨v0,pos,rfl,h⟩:=h;simp only[Ap]at h;exact aW (E.e W T X _ e v h.2).se (On h.1)
  |ret e=>exact SD v h
  |blk=>exact noF h
  |retT es=>
    replace h:=Q1 h;obtain⟨o,pos,rfl,h⟩:=h;cases o with
    |none=>exact noF h
    |some v0=>
      replace h:(IL v0 λl=>decide (l.length<=1000)&&chkEs n T l es)=Aa:=h
      replace h:=KY h;obtain⟨l,cc,pw,rfl,h⟩:=h;rw[Ap,AW]at h;exact aS (fs:=λZ=>evP U Z es) (sA v n l es h.2) λZ xs z=>by rw[Sd U Z es xs z,<-((snd (U:=U) (CL:=CL) (k:=k) n).es W T X _ es v h.2).2.2.1];omega
  |retN=>exact absurd (show Ae=Aa from h) AA
  |ife c a b=>
    replace h:=Oc h;obtain⟨t,xs,ys,pos,rfl,h⟩:=h;simp only[Ap]at h;exact qI (E.b W T X _ c v h.1.1) (Z_.ss W T X _ a v hf h.1.2) (Z_.ss W T X _ b v hf h.2)
  |fors t it body=>
    replace h:=Q2 h;obtain⟨tg,it',xs,ys,pos,rfl,h⟩:=h;replace h:=CO h;obtain⟨hn,h⟩:=h;obtain rfl:=Hw hn;replace h:=GX h;obtain⟨y,py,rfl,h⟩:=h;simp only[Ap]at h;obtain⟨⟨⟨h1,h2⟩,h3⟩,h4⟩:=h;exact Ti v.own v.calm (gU t) (aG v hf.fn h1) (E.i W T X Ae _ _ it v rfl h3) (Z_.ss W T X _ body v hf h4) (Md h2) (λ_ _ _ z=>nomatch z)
  |forT ts it body=>
    replace h:=Q2 h;obtain⟨tg,it',xs,zs,pos,rfl,h⟩:=h;replace h:=CO h;obtain⟨hn,h⟩:=h;obtain rfl:=Hw hn;replace h:=KY h;obtain⟨ys,cc,py,rfl,h⟩:=h;simp only[Ap]at h;obtain⟨⟨⟨⟨h0,h1⟩,h2⟩,h3⟩,h4⟩:=h;exact Ti v.own v.calm (kP ts) (aF v hf.fn h0 h1) (E.i W T X Aa _ _ it v rfl h3) (Z_.ss W T X _ body v hf h4) (Md h2) (Yz ts)
  |whl c body=>exact absurd (show Ae=Aa from h) AA
  |rais c as=>
    replace h:(!(T.rzs.any λp=>p.2==c))=Aa:=h
    cases hc:T.rzs.any (λp=>p.2==c) with
    |false=>
      have hb:∀ ds,U.xn c ds=.bad:=v.xt.xb c λp hp z=>by
        have:T.rzs.any (λp=>p.2==c)=Aa:=Cs.mpr ⟨p,hp,A7.mpr z⟩
        rw[hc]at this;cases this
      intro Fz B pI s Y H D I ⟨Z,x,p⟩;have p':BJ X.K CL Fz B W (O.of Z (noX (evA U Z as)) λxs=>O.of Z (U.xn c xs) λx=>.exn x Z) D:=p
      cases e1:evA U Z as with
      |bad=>rw[e1]at p';exact p'.elim
      |exn y=>rw[e1]at p';exact p'.elim
      |ok ds=>
        rw[e1]at p';have p2:BJ X.K CL Fz B W (O.of Z (U.xn c ds) λx=>.exn x Z) D:=p'
        rw[hb ds]at p2;exact p2.elim
    |true=>rw[hc]at h;cases h
  |app i e=>
    replace h:=ND h;obtain⟨x,px,m,ap,l,cp,pos,rfl,h2,h⟩:=h;replace h:=Ff h;obtain⟨v0,rfl,h⟩:=h;simp only[Ap,A7]at h;obtain⟨⟨⟨rfl,h1⟩,h3⟩,h4⟩:=h;exact kN (Gc v h1) (E.e W T X _ e v h4).se rfl (by rw[Cc h3];rfl) (by rw[h2];exact Cw _) (Cc h3) rfl
  |ext i e=>
    replace h:=ND h;obtain⟨x,px,m,ap,l,cp,pos,rfl,h2,h⟩:=h;replace h:=Ff h;obtain⟨v0,rfl,h⟩:=h;simp only[Ap,A7]at h;rw[Ca]at h;obtain⟨⟨⟨rfl,h1⟩,h3⟩,h5⟩:=h;rcases h5 with h5|h5
    · rw[Ap]at h5;obtain⟨h5,h4⟩:=h5;exact kK (Gc v h1) ((E.e W T X _ e v h4).nw (gG U h5)) rfl (by rw[Cc h3];rfl) (by rw[h2];exact Cw _) (Cc h3) rfl
    · cases q:MF e with
      |none=>rw[q]at h5;cases h5
      |some a=>
        rw[q]at h5;have eq:=Z_4 q;subst eq;have fe:(λZ=>evS U Z (.ext i (.bi .list (.cons (.bin .Add a (.tup .nil)) .nil))))=λZ=>O.of Z (CD Z i) λxs=>O.of Z (top Z a (evE U Z a)) λx=>O.of Z ((C5 .Add x (.tup [])).bind λy=>biD .list [y]) λd=>O.of Z (Kw d) λys=>if B4 (xs.length+ys.length)=Aa then .next (Z.set i (Ab (.lst (xs++ys),Aa))) else .bad:=funext λZ=>by
          rw[fJ];have e2:evE U Z (.bi .list (.cons (.bin .Add a (.tup .nil)) .nil))=(top Z a (evE U Z a)).bind λx=>(C5 .Add x (.tup [])).bind λy=>biD .list [y]:=by
            simp only[nN,evB,fM,cA,bY,fL,evA,R.bind_ok,R.bind_assoc]
          rw[e2];cases CD Z i with
          |ok xs=>
            rw[O.of_ok,O.of_ok];cases top Z a (evE U Z a)<;>rfl
          |exn z=>rfl
          |bad=>rfl
        show SS X CL W _ (λZ=>evS U Z (.ext i (.bi .list (.cons (.bin .Add a (.tup .nil)) .nil))))
        rw[fe];exact aV (Gc v h1) (E.e W T X _ a v h5).st rfl (by rw[Cc h3];rfl) (by rw[h2];exact Cw _) (Cc h3) rfl
  |rev i=>exact absurd (show Ae=Aa from h) AA
  |clr i=>exact absurd (show Ae=Aa from h) AA
  |put i k e=>
    replace h:=NJ h;obtain⟨t,v0,pos,rfl,h⟩:=h;replace h:=LP h;obtain⟨o,y,sp,rfl,h⟩:=h;replace h:=GX h;obtain⟨x,p,rfl,h⟩:=h;simp only[Ap]at h;obtain⟨⟨⟨h1,h2⟩,h4⟩,h5⟩:=h;exact kJ (Gc v h1) (E.e W T X _ k v h4).st (E.e W T X _ e v h5).se (λw=>by cases y<;>first|rfl|cases h2) (N3 (λ_ _ z=>by cases z)) rfl rfl
  |tryx body c x hh=>exact absurd (show Ae=Aa from h) AA
  |try2 body c x hd c' hd' els=>exact absurd (show Ae=Aa from h) AA
  |swp i k l=>exact absurd (show Ae=Aa from h) AA
  |apop j i e=>exact absurd (show Ae=Aa from h) AA
  |ins i k e=>exact absurd (show Ae=Aa from h) AA
  |dnw i=>
    unfold JE at h;dsimp only at h;split at h
    · simp only[Ap,A7]at h;obtain⟨⟨h1,h2⟩,h3⟩:=h;obtain⟨p,rfl⟩:=bO h3;exact kM (by rw[v.N];exact v.nd) (by rw[v.N];exact h1) (by rw[v.sc];exact K3 h2) rfl (.inl (hf.fn _))
    · cases h
  |dput i k e=>
    unfold JE at h;dsimp only at h;split at h
    · simp only[Ap]at h;obtain⟨⟨⟨h1,h2⟩,h4⟩,h5⟩:=h;rename_i x p y sp v0 pos;have hu:=v.room.units;exact aX (by omega) (Gc v h1) (E.e W T X _ k v h4).st (E.e W T X _ e v h5).se (λw=>by cases y<;>first|rfl|cases h2) (N3 (λ_ _ z=>by cases z)) rfl rfl
    · cases h
  |dsd i k e=>
    unfold JE at h;dsimp only at h;split at h
    · rename_i w pos;cases q:xMt w with
      |none=>rw[q]at h;cases h
      |some t=>
        obtain⟨x,m,y,z⟩:=t;rw[q]at h;simp only[Ap,A7]at h;obtain⟨⟨⟨⟨⟨rfl,h1⟩,h2⟩,h3⟩,h4⟩,h5⟩:=h;obtain⟨p,ap,cp,rfl,hl⟩:=S7 q;have hu:=v.room.units;exact kL (by omega) (Gc v h1) (E.e W T X _ k v h4).st (E.e W T X _ e v h5).se rfl (by rw[Cc h2,Cc h3];rfl) (by rw[hl];exact Cw _) (Cc h2) (Cc h3) (by rw[Cc h3];rfl) rfl
    · cases h
  |rel=>exact noF h
theorem Z_2{c:Ss}(h:MQ c=Aa)(Z:Rho):evSs U Z c=.bad:=by
 cases c with
 |nil=>cases h
 |cons s ss=>
  cases s with
  |expr e=>
   cases e with
   |bi b as=>
    cases as with
    |nil=>
     cases b with
     |len=>rfl
     |_=>exact noF h
    |cons=>cases b<;>exact noF h
   |_=>exact noF h
  |_=>exact noF h
theorem kB(Z_:SndS U CL k n)(W:XW)(T:Tc)(X:Cx)(xs:Ac AO)(c:Ss)(v:VX U CL k W T X)(hf:DefX X)(h:chkSs (n+1) T xs c=Aa):SSs X CL W xs (λZ=>evSs U Z c):=by
 by_cases hb:MQ c=Aa
 .exact λFz B pI s Y H D I ⟨Z,x,p⟩=>by
   dsimp only at p;rw[Z_2 hb]at p;exact p.elim
 have hb:MQ c=Ae:=by simpa using hb
 cases c with
 |nil=>
  simp only[chkSs,hb,EI,List.isEmpty_iff]at h;subst h;exact aQ
 |cons s ss=>
  by_cases hr:∃ i,s=.rel i
  .obtain⟨i,rfl⟩:=hr;simp only[chkSs,hb,EI]at h;exact aP i (Z_.ss W T X xs ss v hf h)
  by_cases hh:∃ ts f as pre c a b j e,s=.blk ts f as pre c a b j e
  .obtain⟨ts,f,as,pre,c,a,b,j,e,rfl⟩:=hh;cases ss with
   |cons s' ss'=>cases xs<;>exact noF h
   |nil=>
    cases xs with
    |nil=>exact noF h
    |cons s1 q=>
     replace h:(Pb n T ts f as pre c a b j e s1 q||false)=Aa:=h;rw[EI]at h;refine λFz B=>PSs.weak (tE v hf h Fz B) λD Y H ⟨Z,x,p⟩=>⟨Z,x,?_⟩
     have p:BJ X.K CL Fz B W ((evS U Z (.blk ts f as pre c a b j e)).seq λZ'=>.next Z') D:=p
     show BJ X.K CL Fz B W (evS U Z (.blk ts f as pre c a b j e)) D;cases eo:evS U Z (.blk ts f as pre c a b j e)<;>(rw[eo]at p;exact p)
  .cases xs with
   |nil=>cases s<;>first|(simp[chkSs,hb]at h;done)|exact absurd ⟨_,rfl⟩ hr|exact absurd ⟨_,_,_,_,_,_,_,_,_,rfl⟩ hh
   |cons st r=>
    have h':JE n T st s=Aa/\chkSs n T r ss=Aa:=by
     cases s<;>first|(simp only[chkSs,hb,EI,Ap]at h;exact h)|exact absurd ⟨_,rfl⟩ hr|exact absurd ⟨_,_,_,_,_,_,_,_,_,rfl⟩ hh
    exact YX (Z_.s W T X st s v hf h'.1) (Z_.ss W T X r ss v hf h'.2)
theorem Pq:∀ n,SndS U CL k n
 |0=>⟨λ_ _ _ _ _ _ _ h=>noF h,λ_ _ _ _ _ _ _ h=>noF h⟩
 |n+1=>⟨qC (Pq n),kB (Pq n)⟩
end
theorem KS{n:Ag}{ds:Ac D}{i:Ag}{o:Ai}(h:(BZ n ds)[i]?=Ab (Ab (d,o))):o=Ae/\ds[i]?=Ab d:=by
 unfold BZ at h;by_cases hi:i<ds.length
 .rw[EX (by simpa using hi),Dm]at h
  cases e:ds[i]? with
  |none=>rw[e]at h;cases h
  |some x=>rw[e]at h;cases h;exact⟨rfl,rfl⟩
 .rw[Vl (by simpa using Nat.le_of_not_lt hi),Vo]at h
  split at h<;>cases h
theorem YQ{N:Ac Ak}{vs:Ac V}{i:Ag}{v:V}(h:vs[i]?=Ab v):(L2.start N vs)[i]?=Ab (Ab v):=by
 unfold L2.start;have hi:=(AU.mp h).1;rw[EX (by simpa using hi),Dm,h]
 rfl
theorem YV{A:Ah->Prop}{N:Ac Ak}{n:Ag}{vs:Ac V}{ds:Ac D}(hn:N.length=n)(hA:AOk H A)(r:Reps K CL H A vs ds):Sx K CL (λb o=>H b=Ab o) A (BZ n ds) (L2.start N vs) H:=by
 have own:∀ a,By A (BZ n ds) (L2.start N vs) a->A a:=λa h=>by
  rcases h with h|⟨j,d,h,_⟩
  .exact h
  .exact absurd (KS h).1 (by decide)
 have hlen:(BZ n ds).length=(L2.start N vs).length:=by
  unfold BZ L2.start;simp only[Be,Bl,Vs,r.length,hn]
 refine⟨⟨λi d h=>?_,λi d h=>absurd (KS h).1 (by decide),hlen⟩,λa h=>hA a (own a h),λj d a h _=>absurd (KS h).1 (by decide),λi j d e a h _ _ _=>absurd (KS h).1 (by decide),λb o h=>h,hlen⟩
 obtain⟨v,h1,h2⟩:=r.get (KS h).2;exact⟨v,YQ h1,Rep.sub own _ h2⟩
structure FunX (K:Fg) (x qual:Ak) (st:AO) (f:Ah) (fd:BW):Prop where
 ex:∃(oc:Aj)(od:Ao Ah)(dV kV doc pm:Aj)(an:Ao Ah)(cdv ct:Aj)(osl:Bb (Ao Aj)),
  fd=CZ x qual (HY st) (Fw st) (Dv st) dV kV doc pm an cdv ct/\K.lookup f=Ab ⟨oc,od,.func fd,osl⟩/\Fa K cdv qual=Aa
 kp:CC K (.ref f)=Aa
theorem Tz{st:AO}{f:Ah}(F:Fun K x qual st f fd):FunX K x qual st f fd:=by
 obtain⟨oc,od,kV,doc,pm,an,cdv,ct,osl,e,lk,hcd⟩:=F.ex;exact⟨⟨oc,od,.none,kV,doc,pm,an,cdv,ct,osl,e,lk,hcd⟩,F.kp⟩
def KD(K:Fg)(mg:Ak->Ao Aj)(fns:Ac (Ak×Ag×Ag))(bl:Ac Ak)(rzs exs gls:Ac (Ak×Ag))(Pg:Prg)(fuel:Ag)(p:Ak×Ag×Ag):Prop:=∃ f fd ps qual st N,mg p.1=Ab (.ref f)/\FunX K p.1 qual st f fd/\GC K fd ps []/\ps.length=p.2.2%1000/\G8 fuel (C7 1000 p.2.2) fns bl rzs exs gls ps N st (Pg.defs p.2.1)=Aa
structure Tab (K:Fg) (mg:Ak->Ao Aj) (CL:ClA) (fns:Ac (Ak×Ag×Ag)) (bl:Ac Ak) (rzs exs gls:Ac (Ak×Ag)) (Pg:Prg) (fuel:Ag):Prop where
 xt:XT Pg.up Pg.xn CL rzs exs K mg
 bln:∀ x,x∈bl->mg x=Af
 gl:∀ p∈gls,PN K mg CL p.1 (Pg.G p.2)
 fn:∀ p∈fns,KD K mg fns bl rzs exs gls Pg fuel p
theorem kU(Pg:Prg)(n i:Ag):(gam Pg n).fr i=(Pg.defs i).fr:=by cases n<;>rfl
theorem kT(Pg:Prg)(n:Ag):(gam Pg n).up=Pg.up:=by cases n<;>rfl
theorem sV(Pg:Prg)(n:Ag):(gam Pg n).G=Pg.G:=by cases n<;>rfl
theorem kS(Pg:Prg)(n:Ag):(gam Pg n).xn=Pg.xn:=by cases n<;>rfl
section
variable{P:AM}{w:Ay}{K:Fg}{mg:Ak->Ao Aj}{base:AJ}{CL:ClA}{fns:Ac (Ak×Ag×Ag)}{bl:Ac Ak}{rzs exs gls:Ac (Ak×Ag)}{Pg:Prg}{fuel:Ag}
def Lvl(P:AM)(w:Ay)(K:Fg)(mg:Ak->Ao Aj)(base:AJ)(CL:ClA)(Pg:Prg)(n:Ag)(p:Ak×Ag×Ag):Prop:=∃ f fd ps,mg p.1=Ab (.ref f)/\CC K (.ref f)=Aa/\GC K fd ps []/\ps.length=p.2.2%1000/\(p.2.2<1000->FnOk P w K mg base (CXR P w) n f fd ps (spD K CL (p.2.2%1000) ((gam Pg n).fr p.2.1) ((gam Pg n).F p.2.1)))/\(1000<=p.2.2->HotOk P w K mg base n f fd ps (spH K CL (p.2.2%1000) ((gam Pg n).fr p.2.1) ((gam Pg n).F p.2.1)))
theorem Sj(t:Tab K mg CL fns bl rzs exs gls Pg fuel){n:Ag}(hlv:∀ q∈fns,Lvl P w K mg base CL Pg n q){st:AO}{f:Ah}{ps N:Ac Ak}{m id:Ag}(h2:FunX K x qual st f fd)(h4:ps.length=m)(h5:G8 fuel Ae fns bl rzs exs gls ps N st (Pg.defs id)=Aa):FnOk P w K mg base (CXR P w) (n+1) f fd ps (spD K CL m ((gam Pg (n+1)).fr id) ((gam Pg (n+1)).F id)):=by
  unfold G8 at h5;simp only[Ap,A7,Bu,Dr,Ca,Ih,ne_eq]at h5;obtain⟨⟨⟨⟨⟨⟨⟨⟨c1,c2⟩,c3⟩,c4⟩,c5⟩,c6⟩,c7⟩,c8⟩,c9⟩:=h5;obtain⟨oc,od,dV,kV,doc,pm,an,cdv,ct,osl,rfl,lk,hcd⟩:=h2.ex;refine Ua (N:=N) lk hcd ⟨c1,c2,c3,K1 c4,c5,c6,c7⟩ (λvs H Q E ⟨ds,A,z,_⟩=>z.trans h4.symm) λA outer s H vs Q E hr ⟨ds,B,hl,hA,hreps,hpost⟩=>?_
  have xt:XT (gam Pg n).up (gam Pg n).xn CL rzs exs K mg:=by rw[kT,kS];exact t.xt
  have gl:∀ p∈gls,PN K mg CL p.1 ((gam Pg n).G p.2):=by rw[sV];exact t.gl
  have key:∀ W:XW,(∀ x cls dx H',W x H'->G4 K CL H' cls dx x->E cls dx H')->BJ K CL (λb o=>H b=Ab o) B W (evSs (gam Pg n) (BZ (Pg.defs id).n ds) (Pg.defs id).body) {nx:=λ_ H'=>Q .non H',rt:=Q} ->
      ∃ t,PSs (Gn (CXR P w) P w K mg base N qual (Dv st) f cdv A outer s H E) (Fw st) t/\t {nx:=λ_ H'=>Q .non H',rt:=Q} (start N vs) H:=λW hW hp=>by
    have v:VX (gam Pg n) CL n W ⟨Dv st,N,fns,bl,rzs,exs,gls⟩ (Gn (CXR P w) P w K mg base N qual (Dv st) f cdv A outer s H E):=⟨rfl,c1,rfl,K1 c4,rfl,hr,t.bln,hlv,ownR,qP hW,rzR hW,xt,gl⟩;exact⟨_,(Pq fuel).ss W _ _ _ (Pg.defs id).body v ⟨λ_=>rfl,rfl,rfl,rfl⟩ c9 (λb o=>H b=Ab o) B,_,YV c8 hA hreps,hp⟩
  have no:∀ x cls dx H',W0 x H'->G4 K CL H' cls dx x->E cls dx H':=λ_ _ _ _ z=>z.elim
  have e:(gam Pg (n+1)).F id ds=GI Pg.xs ((evSs (gam Pg n) (BZ (Pg.defs id).n ds) (Pg.defs id).body).ans (Pg.defs id).fr):=rfl;rw[e,kU]at hpost;have cutO:∀ r:R D,(∀ x,r≠.exn x)->GI Pg.xs r=r:=λr hr=>by
    cases Pg.xs<;>cases r<;>first|rfl|exact absurd rfl (hr _)
  cases eo:evSs (gam Pg n) (BZ (Pg.defs id).n ds) (Pg.defs id).body with
  |next Z'=>
    refine key W0 no ?_;rw[eo]at hpost ⊢;cases ef:(Pg.defs id).fr with
    |true=>rw[ef]at hpost;rw[cutO _ (by intro x z;cases z)]at hpost;exact hpost.elim
    |false=>
      rw[ef]at hpost;rw[cutO _ (by intro x z;cases z)]at hpost
      exact λY' H' x'=>hpost .non H' (λb o z=>x'.same b o z) ⟨⟨rfl,λz=>nomatch z⟩,λz=>nomatch z⟩
  |ret d b=>
    refine key W0 no ?_;rw[eo]at hpost ⊢;intro v H' sm rp fr ft;have hp2:(match GI Pg.xs (if ((Pg.defs id).fr&&(!b&&isL d))=Aa then R.bad else R.ok d) with
      |.ok d=>∀ v H',AB H H'->PK K CL (Pg.defs id).fr H B H' v d->Q v H'
      |.exn x=>∀ cls dx H',AB H H'->G4 K CL H' cls dx x->E cls dx H'
      | .bad=>Bk):=hpost
    cases ec:((Pg.defs id).fr&&(!b&&isL d)) with
    |true=>rw[ec,Ax rfl,cutO _ (by intro x z;cases z)]at hp2;exact hp2.elim
    |false=>
      rw[ec,AF (by decide),cutO _ (by intro x z;cases z)]at hp2
      have nn:∀ a,(∀ o,¬ H a=Ab o)->H a=Af:=λa h=>by
        cases ha:H a with
        |none=>rfl
        |some o=>exact absurd ha (h o)
      have eb:(Pg.defs id).fr=Aa->isL d=Aa->b=Aa:=λe1 e2=>by
        rw[e1,e2]at ec;cases b with
        |true=>rfl
        |false=>cases ec
      refine hp2 v H' sm ⟨⟨rp,λefr es hd=>?_⟩,λefr ds' hd hk=>?_⟩
      · subst hd;obtain⟨a,xs,h1,h2,h3,h4⟩:=fr (eb efr rfl) es rfl;exact⟨a,xs,h1,nn a h2,h3,h4⟩
      · subst hd;exact(ft (eb efr hk)).mono nn ds' rfl hk
  |brk Z'=>rw[eo]at hpost;have hp2:(match GI Pg.xs (R.bad:R D) with | .ok _=>_ | .exn _=>_ | .bad=>Bk):=hpost;rw[cutO _ (by intro x z;cases z)]at hp2;exact hp2.elim
  |cont Z'=>rw[eo]at hpost;have hp2:(match GI Pg.xs (R.bad:R D) with | .ok _=>_ | .exn _=>_ | .bad=>Bk):=hpost;rw[cutO _ (by intro x z;cases z)]at hp2;exact hp2.elim
  |bad=>rw[eo]at hpost;have hp2:(match GI Pg.xs (R.bad:R D) with | .ok _=>_ | .exn _=>_ | .bad=>Bk):=hpost;rw[cutO _ (by intro x z;cases z)]at hp2;exact hp2.elim
  |exn x Z'=>
    rw[eo]at hpost;have hp2:(match GI Pg.xs (R.exn x:R D) with
      |.ok d=>∀ v H',AB H H'->PK K CL (Pg.defs id).fr H B H' v d->Q v H'
      |.exn x=>∀ cls dx H',AB H H'->G4 K CL H' cls dx x->E cls dx H'
      | .bad=>Bk):=hpost
    cases ex:Pg.xs with
    |false=>rw[ex]at hp2;exact hp2.elim
    |true=>
      rw[ex]at hp2;have hp3:∀ cls dx H',AB H H'->G4 K CL H' cls dx x->E cls dx H':=hp2;refine key (λy H'=>y=x/\AB H H') (λy cls dx H' ⟨e1,sm⟩ xr=>?_) ?_
      · subst e1;exact hp3 cls dx H' sm xr
      · rw[eo];exact λH' sm=>⟨rfl,sm⟩
theorem lL(t:Tab K mg CL fns bl rzs exs gls Pg fuel){n:Ag}(hlv:∀ q∈fns,Lvl P w K mg base CL Pg n q){st:AO}{f:Ah}{ps N:Ac Ak}{m id:Ag}(h2:FunX K x qual st f fd)(h4:ps.length=m)(h5:G8 fuel Aa fns bl rzs exs gls ps N st (Pg.defs id)=Aa):HotOk P w K mg base (n+1) f fd ps (spH K CL m ((gam Pg (n+1)).fr id) ((gam Pg (n+1)).F id)):=by
 exfalso
 unfold G8 at h5;simp[T5]at h5
theorem OE(t:Tab K mg CL fns bl rzs exs gls Pg fuel):∀ n,∀ p∈fns,Lvl P w K mg base CL Pg n p
 |0,p,hp=>by
  obtain⟨f,fd,ps,qual,st,N,h1,h2,h3,h4,h5⟩:=t.fn p hp;exact⟨f,fd,ps,h1,h2.kp,h3,h4,λ_=>⟨λvs H Q E ⟨ds,A,_,_,_,z⟩=>z.elim,λA outer s H args us vs Q E _ _ _ _ ⟨ds,A,_,_,_,z⟩=>z.elim⟩,λ_=>⟨λvs H Q E ⟨ds,A,_,_,_,z⟩=>z.elim,λA ev outer s H args us vs Q E _ _ _ _ ⟨ds,A,_,_,_,z⟩=>z.elim⟩⟩
 |n+1,p,hp=>by
  obtain⟨f,fd,ps,qual,st,N,h1,h2,h3,h4,h5⟩:=t.fn p hp;refine⟨f,fd,ps,h1,h2.kp,h3,h4,λhlt=>?_,λhge=>?_⟩
  .have eb:C7 1000 p.2.2=Ae:=by
    cases e:C7 1000 p.2.2 with
    |false=>rfl
    |true=>exact absurd (Ep e) (by omega)
   rw[eb]at h5;exact Sj t (λq hq=>OE t n q hq) h2 h4 h5
  .rw[Cr hge]at h5;exact lL t (λq hq=>OE t n q hq) h2 h4 h5
theorem nX{s s':Aq}{e:Aj}(h:CXR P w [] H s (λ_ _ _=>Bk) e s'):Bk:=by
 obtain⟨_,_,_,_,_,_,_,_,_,_,_,_,_,_,_,z⟩:=h;exact z
noncomputable def Uq:AO->Ao (Al×AK)
 |.Expr e p=>Ab (e,p)
 |_=>Af
theorem bN{e:AO}{t:Al×AK}(h:Uq e=Ab t):e=.Expr t.1 t.2:=by
 cases e with
 |Expr x p=>cases h;rfl
 |_=>exact nomatch (show Af=Ab t from h)
noncomputable def Uu:AO->Ao (Al×Al×AK)
  | .Assign ts v p=>(match ts with
    |[t]=>Ab (t,v,p)
    | _=>Af)
  |_=>Af
theorem bR{e:AO}{t:Al×Al×AK}(h:Uu e=Ab t):e=.Assign [t.1] t.2.1 t.2.2:=by
 cases e with
 |Assign ts v p=>
  cases ts with
  |nil=>exact nomatch (show Af=Ab t from h)
  |cons a ts=>
   cases ts with
   |nil=>cases h;rfl
   |cons=>exact nomatch (show Af=Ab t from h)
 |_=>exact nomatch (show Af=Ab t from h)
noncomputable def Pl:Al->Ao (Al×Ak×AK)
 |.Attribute e x p=>Ab (e,x,p)
 |_=>Af
theorem RI{e:Al}{t:Al×Ak×AK}(h:Pl e=Ab t):e=.Attribute t.1 t.2.1 t.2.2:=by
 cases e with
 |Attribute e x p=>cases h;rfl
 |_=>exact nomatch (show Af=Ab t from h)
noncomputable def Uo:Al->Ao (Ac Al×AK)
 |.JoinedStr l p=>Ab (l,p)
 |_=>Af
theorem bL{e:Al}{t:Ac Al×AK}(h:Uo e=Ab t):e=.JoinedStr t.1 t.2:=by
 cases e with
 |JoinedStr l p=>cases h;rfl
 |_=>exact nomatch (show Af=Ab t from h)
noncomputable def Up:Al->Ao (Al×Ad×AK)
  | .FormattedValue e n f p=>(match f with
    |none=>Ab (e,n,p)
    | _=>Af)
  |_=>Af
theorem bM{e:Al}{t:Al×Ad×AK}(h:Up e=Ab t):e=.FormattedValue t.1 t.2.1 Af t.2.2:=by
 cases e with
 |FormattedValue e n f p=>
  cases f with
  |none=>cases h;rfl
  |some=>exact nomatch (show Af=Ab t from h)
 |_=>exact nomatch (show Af=Ab t from h)
noncomputable def Us:Al->Ao (Ak×Ag×AK)
  | .Constant c k p=>(match c with
    |.str z=>Ab (z,k,p)
    | _=>Af)
  |_=>Af
theorem bP{e:Al}{t:Ak×Ag×AK}(h:Us e=Ab t):e=.Constant (.str t.1) t.2.1 t.2.2:=by
 cases e with
 |Constant c k p=>
  cases c with
  |str z=>cases h;rfl
  |_=>exact nomatch (show Af=Ab t from h)
 |_=>exact nomatch (show Af=Ab t from h)
noncomputable def UW(g par f:Ak)(b:Ac AO):Ao Hr:=(Lh b).bind λs=>(Uq s.1).bind λc=>(Pk c.1).bind λcl=>(Pl cl.1).bind λat1=>(JC at1.1).bind λg1=>(Lh cl.2.1).bind λab=>(JC ab.1).bind λs1=>(Uo ab.2).bind λj=>(Lh j.1).bind λfk=>(Up fk.1).bind λfm=>(JC fm.1).bind λq1=>(Us fk.2).bind λz=>(Uu s.2).bind λt=>(Pl t.1).bind λat2=>(JC at2.1).bind λs2=>(JC t.2.1).bind λq2=>
 if (g1.1==g&&(at1.2.1==("__init__" : Ak)&&(s1.1==("self" : Ak)&&(q1.1==par&&(decide (fm.2.1=-1)&&(s2.1==("self" : Ak)&&(at2.2.1==f&&(q2.1==par&&(at1.2.2.endLine==cl.2.2.line&&C7 z.1.length 1000)))))))))=Aa then Ab () else Af
noncomputable def UX(g par f:Ak)(b:Ac AO):Ai:=(UW g par f b).isSome
theorem gR{g par f:Ak}{b:Ac AO}(h:UX g par f b=Aa):∃ z k np apos p1 p2 p3 p4 p5 cpos p6 p7 p8 p9 p10,b=UY g par f z k np apos p1 p2 p3 p4 p5 cpos p6 p7 p8 p9 p10/\(apos.endLine==cpos.line)=Aa/\z.length<=1000:=by
 obtain⟨_,h⟩:=E4.mp (show (UW g par f b).isSome=Aa from h)
 obtain⟨s,e1,h⟩:=AN.mp h;obtain⟨c,e2,h⟩:=AN.mp h;obtain⟨cl,e3,h⟩:=AN.mp h;obtain⟨at1,e4,h⟩:=AN.mp h;obtain⟨g1,e5,h⟩:=AN.mp h;obtain⟨ab,e6,h⟩:=AN.mp h;obtain⟨s1,e7,h⟩:=AN.mp h;obtain⟨j,e8,h⟩:=AN.mp h;obtain⟨fk,e9,h⟩:=AN.mp h;obtain⟨fm,f1,h⟩:=AN.mp h;obtain⟨q1,f2,h⟩:=AN.mp h;obtain⟨z,f3,h⟩:=AN.mp h;obtain⟨t,f4,h⟩:=AN.mp h;obtain⟨at2,f5,h⟩:=AN.mp h;obtain⟨s2,f6,h⟩:=AN.mp h;obtain⟨q2,f7,h⟩:=AN.mp h;split at h
 .rename_i hc;simp only[Ap,A7,AW]at hc;obtain⟨c1,c2,c3,c4,c5,c6,c7,c8,h1,h2⟩:=hc;rw[L0 e1,bN e2,RH e3,RI e4,J9 e5,L0 e6,J9 e7,bL e8,L0 e9,bM f1,J9 f2,bP f3,bR f4,RI f5,J9 f6,J9 f7,c1,c2,c3,c4,c5,c6,c7,c8];exact⟨_,_,_,_,_,_,_,_,_,_,_,_,_,_,_,rfl,by rw[A7];exact h1,Ep h2⟩
 .cases h
noncomputable def Py(g par f:Ak)(st:AO):Ai:=
 (Dv st).kind==.function&&((Dv st).isCoroutine==Ae&&((Dv st).isGenerator==Ae&&(Kg ["self",par]&&((Dv st).names.lookup ("self" : Ak)==Ab .local&&((Dv st).names.lookup par==Ab .local&&(((Dv st).names.all λy=>y.2 != .free) &&
  ((Dv st).names.lookup g==Ab .globalImplicit&&(g != ("__debug__" : Ak)&&(par != ("__debug__" : Ak)&&(par != ("__classdict__" : Ak)&&UX g par f (Fw st)))))))))))
def InI(K:Fg)(f:Ah)(qual:Ak)(st:AO):Prop:=∃ fd,Fun K "__init__" qual st f fd
theorem hZ{fI OV:Ah}{g par f qual:Ak}{st:AO}(a:InI K fI qual st)(hk:Py g par f st=Aa)(hb:∀(u0 u1 kV doc pm:Aj)(an:Ao Ah)(cdv ct:Aj),HQ (CZ "__init__" qual (HY st) (Fw st) (Dv st) .none kV doc pm an cdv ct) ⟨[u0,u1],[]⟩=pure ((["self",par]:Ac Ak).zip [u0,u1]))(xc:E7 K C (Ab (.ref fI))=Aa)(dc:JB K C=Aa)(ty:Dt K (.ref fI)=Ab (.type "function"))(mo:mg g=Ab (.ref OV))(s1:GM K (.ref OV) "__getattribute__" = Ab (Ab (.builtin "type.__getattribute__")))(s2:Hj K OV (.type "type")=Aa)(s3:Hi K (.ref OV) (.type "type") "__init__" = Ab (.val (.builtin "ValueError.__init__")))(hf:Bx K (.ref C) f=Ab Af)(hs:Bx K (.ref C) "__setattr__" = Ab (Ab (.builtin "object.__setattr__"))):XIn K mg C f:=by
 obtain⟨fd,fn⟩:=a;unfold Py at hk;simp only[Ap,A7,Dr,Ih,ne_eq]at hk;obtain⟨c1,c2,c3,c4,c5,c6,c7,c8,c9,c10,c11,c12⟩:=hk;obtain⟨z,k,np,apos,p1,p2,p3,p4,p5,cpos,p6,p7,p8,p9,p10,eb,hl,hz⟩:=gR c12;exact .mk xc dc fn ty ⟨c1,c2,c3,K1 c4,rfl,λx hx=>by
  rcases AE.mp hx with rfl|hx
  .exact .inl c5
  .rw[Bm.mp hx];exact .inl c6,c7⟩ c5 c6 (fn.binds λkV doc pm an cdv ct us hu=>match us,hu with | [u0,u1],_=>hb u0 u1 kV doc pm an cdv ct) eb c8 mo (by simpa using c9) (by simpa using c10) (by simpa using c11) s1 s2 s3 hl hz hf hs
theorem rC{c:Ag}(h:∀ ds,xn c ds=.bad\/xn c ds=.ok ⟨c,[]⟩)(e:E7 K C Af=Aa)(ds:Ac D):xn c ds=.bad\/(xn c ds=.ok ⟨c,[]⟩/\E7 K C Af=Aa)\/∃ f,XIn K mg C f/\MG xn c f ds:=(h ds).imp id λz=>.inl ⟨z,e⟩
theorem rB{c:Ag}{f:Ak}(h:∀ ds,xn c ds=mkX c f ds)(x:XIn K mg C f)(ds:Ac D):xn c ds=.bad\/(xn c ds=.ok ⟨c,[]⟩/\E7 K C Af=Aa)\/∃ f,XIn K mg C f/\MG xn c f ds:=by
  have e:=h ds
  match ds,e with
  |[],e=>exact .inl e
  |_::_::_,e=>exact .inl e
  |[d],e=>
    have e':xn c [d]=if (xfD 1 d||xfD 2 d)=Aa then .ok ⟨c,[(f,d)]⟩ else .bad:=e
    by_cases z:(xfD 1 d||xfD 2 d)=Aa
    · rw[Ax z]at e';refine .inr (.inr ⟨f,x,d,?_⟩);rw[Ca]at z;rcases z with z|z
      · exact⟨0,rfl,z,by decide,e'⟩
      · exact⟨1,rfl,z,by decide,e'⟩
    · rw[AF z]at e';exact .inl e'
theorem TJ(dc:JB K C=Aa)(h1:Bx K (.ref C) "triple" = Ab Af)(h2:Bx K (.ref C) "points" = Ab Af)(f:Ak)(h:(f==("triple" : Ak)||f==("points" : Ak))=Aa):JB K C=Aa/\Bx K (.ref C) f=Ab Af:=by
 rw[Ca]at h;rcases h with h|h
 .rw[eq_of_beq h];exact⟨dc,h1⟩
 .rw[eq_of_beq h];exact⟨dc,h2⟩
theorem bK{up:Ag->Ac Ag}(h:∀ c ds,xn c ds=.bad):XT up xn (λ_=>Af) [] [] K mg:=⟨λ_ _ z=>(nomatch z),λ_ z=>(nomatch z),λ_ z=>(nomatch z),λc _ ds z=>.inl (h c ds),λ_ _ z=>(nomatch z),λc _ ds=>h c ds⟩
structure XA (K:Fg) (c:Ak) (x:Ah) (i:Ao Aj):Prop where
 n:BO K A5 c=Ab (Ab (.ref x))
 y:E7 K x i=Aa
 dc:JB K x=Aa
 ft:Bx K (.ref x) "triple" = Ab Af
 fp:Bx K (.ref x) "points" = Ab Af
 ok:XcOk K x
structure XB (K:Fg) (c:Ak) (x i:Ah) (q:Ak) (st:AO):Prop where
 fi:Bx K (.ref x) "__init__" = Ab (Ab (.ref i))
 a:XA K c x (Ab (.ref i))
 ii:InI K i q st
 ti:Dt K (.ref i)=Ab (.type "function")
 sn:Bx K (.ref x) "__setattr__" = Ab (Ab (.builtin "object.__setattr__"))
structure XE (K:Fg) (c:Ak) (x:Ah):Prop where
 n:BO K A5 c=Ab (Ab (.ref x))
 cs:DH K x (.type "object")=Ab Aa
 ty:Dt K (.ref x)=Ab (.type "type")
structure XO (K:Fg) (x:Ah):Prop where
 sa:GM K (.ref x) "__getattribute__" = Ab (Ab (.builtin "type.__getattribute__"))
 sb:Hj K x (.type "type")=Aa
 sc:Hi K (.ref x) (.type "type") "__init__" = Ab (.val (.builtin "ValueError.__init__"))
def KC(K:Fg)(C:Ah):Prop:=∀ x i v,E7 K x i=Aa->Ef K (.ref x) (.ref C)=Ab v->DW K (.ref x) (.ref C)=Ab v
theorem XA.kc{x:Ah}{i:Ao Aj}(a:XA K c x i):KC K x:=λ_ _ _ y s=>gN y a.y s
theorem XE.kc{x:Ah}(a:XE K c x):KC K x:=λ_ _ _ y s=>Zx y a.cs a.ty s
structure XR (K:Fg) (mg:Ak->Ao Aj) (xn:Ag->Ac D->R Ex) (p:Ag×Ah):Prop where
 ok:XcOk K p.2
 nf:∀ f:Ak,(f==("triple" : Ak)||f==("points" : Ak))=Aa->JB K p.2=Aa/\Bx K (.ref p.2) f=Ab Af
 md:∀ ds,xn p.1 ds=.bad\/(xn p.1 ds=.ok ⟨p.1,[]⟩/\E7 K p.2 Af=Aa)\/∃ f,XIn K mg p.2 f/\MG xn p.1 f ds
theorem XA.row{x:Ah}(a:XA K c x Af)(h:∀ ds,xn k ds=.bad\/xn k ds=.ok ⟨k,[]⟩):XR K mg xn (k,x):=⟨a.ok,TJ a.dc a.ft a.fp,rC h a.y⟩
theorem XB.row{q:Ak}{x i o:Ah}{st:AO}{g par f:Ak}(X:K.In h)(G:h.Ns A5 mg)(b:XB K c x i q st)(w:XO K o)(no:BO K A5 g=Ab (Ab (.ref o)))(hf:f = "triple"\/f = "points")(hk:Py g par f st=Aa)(hb:∀(u0 u1 kV doc pm:Aj)(an:Ao Ah)(cdv ct:Aj),HQ (CZ "__init__" q (HY st) (Fw st) (Dv st) .none kV doc pm an cdv ct) ⟨[u0,u1],[]⟩=pure ((["self",par]:Ac Ak).zip [u0,u1]))(hx:∀ ds,xn k ds=mkX k f ds):XR K mg xn (k,x):=
 ⟨b.a.ok,TJ b.a.dc b.a.ft b.a.fp,rB hx (hZ b.ii hk hb b.a.y b.a.dc b.ti (Gv X G no) w.sa w.sb w.sc (by rcases hf with rfl|rfl;exact b.a.ft;exact b.a.fp) b.sn)⟩
def Mw(K:Fg):Sp:=λvs H Q _=>∃(a:Ah)(ns:Ac Ad),vs=[.ref a]/\ns.length<=63/\SqL K H a (ns.map V.int)/\∀ v H',v=V.bl Aa->Q v H'
theorem law_fn{f:Ah}{F:Ac D->R D}(G:FnOk P w K mg base CX k f fd ps (spD K CL 1 Ae F))(h:∀ ns:Ac Ad,F [.lst (ns.map .int)]=.ok (.bl Aa)):FnOk P w K mg base CX k f fd ps (Mw K):=G.imp λvs H Q E ⟨a,ns,e,hl,hS,q⟩=>by
 subst e;have rs:∀ l:Ac Ad,Reps K CL H A0 (l.map V.int) (l.map D.int):=λl=>by
  induction l with
  |nil=>trivial
  |cons x l ih=>exact⟨rfl,ih⟩
 refine⟨[.lst (ns.map .int)],A0,rfl,λ_ z=>z.elim,⟨⟨a,_,rfl,.inl (λz=>z),hS,rs ns⟩,trivial⟩,?_⟩
 rw[h ns];exact λv H' _ r=>q v H' r.1.1
theorem Os{Q:α->Prop}:∀ x∈([]:Ac α),Q x:=λ_ h=>nomatch h
theorem all_cons{Q:α->Prop}{a:α}{l:Ac α}(h1:Q a)(h2:∀ x∈l,Q x):∀ x∈a::l,Q x:=List.forall_mem_cons.2 ⟨h1,h2⟩
def FnI(K:Fg)(f:Ah)(n:Ak)(st:AO):Prop:=∃ fd,Fun K n n st f fd/\BO K A5 n=Ab (Ab (.ref f))
theorem fni{n:Ak}{st:AO}{f:Ah}{oc:Aj}{od an:Ao Ah}{osl:Bb (Ao Aj)}{kV doc pm cdv ct:Aj}(a:BO K A5 n=Ab (Ab (.ref f)))(l:K.lookup f=Ab ⟨oc,od,.func (CZ n n (HY st) (Fw st) (Dv st) .none kV doc pm an cdv ct),osl⟩)(c:Fa K cdv n=Aa)(k:CC K (.ref f)=Aa):FnI K f n st:=⟨_,kW l c k,a⟩
def Bd(n:Ak)(st:AO)(ps:Ac Ak)(us:Ac Aj):Prop:=∀(kV doc pm:Aj)(an:Ao Ah)(cdv ct:Aj),HQ (CZ n n (HY st) (Fw st) (Dv st) .none kV doc pm an cdv ct) ⟨us,[]⟩=pure (ps.zip us)
theorem Mf{n:Ak}{f:Ah}{st:AO}{ps N:Ac Ak}(m id:Ag)(X:K.In h)(G:h.Ns A5 mg)(A:FnI K f n st)(hl:ps.length=m%1000)(hc:G8 fuel (C7 1000 m) fns bl rzs exs gls ps N st (Pg.defs id)=Aa)(hb:∀ us:Ac Aj,us.length=ps.length->Bd n st ps us):KD K mg fns bl rzs exs gls Pg fuel (n,id,m):=by
 obtain⟨fd,F,a⟩:=A;exact⟨_,_,_,_,_,_,Gv X G a,Tz F,F.binds λkV doc pm an cdv ct us hu=>hb us hu kV doc pm an cdv ct,hl,hc⟩
theorem ML{l:Ac α}(h:l.length=0):l=[]:=List.eq_nil_of_length_eq_zero h
theorem HA{l:Ac α}{n:Ag}(h:l.length=n+1):∃ a r,l=a::r/\r.length=n:=by
 cases l with
 |nil=>cases h
 |cons a r=>exact⟨a,r,rfl,Nat.succ.inj h⟩
theorem MH{n:Ak}{f:Ah}{st:AO}{N:Ac Ak}(m id:Ag)(X:K.In h)(G:h.Ns A5 mg)(A:FnI K f n st)(hl:1=m%1000)(hc:G8 fuel (C7 1000 m) fns bl rzs exs gls [x0] N st (Pg.defs id)=Aa)(hb:∀ u0,Bd n st [x0] [u0]):KD K mg fns bl rzs exs gls Pg fuel (n,id,m):=
 Mf (ps:=[x0]) m id X G A hl hc λus hu=>by obtain⟨u0,v0,rfl,h0⟩:=HA hu;obtain rfl:=ML h0;exact hb u0
theorem FE{n:Ak}{f:Ah}{st:AO}{N:Ac Ak}(m id:Ag)(X:K.In h)(G:h.Ns A5 mg)(A:FnI K f n st)(hl:2=m%1000)(hc:G8 fuel (C7 1000 m) fns bl rzs exs gls [x0,x1] N st (Pg.defs id)=Aa)(hb:∀ u0 u1,Bd n st [x0,x1] [u0,u1]):KD K mg fns bl rzs exs gls Pg fuel (n,id,m):=
 Mf (ps:=[x0,x1]) m id X G A hl hc λus hu=>by obtain⟨u0,v0,rfl,h0⟩:=HA hu;obtain⟨u1,v1,rfl,h1⟩:=HA h0;obtain rfl:=ML h1;exact hb u0 u1
theorem GE{n:Ak}{f:Ah}{st:AO}{N:Ac Ak}{x2:Ak}(m id:Ag)(X:K.In h)(G:h.Ns A5 mg)(A:FnI K f n st)(hl:3=m%1000)(hc:G8 fuel (C7 1000 m) fns bl rzs exs gls [x0,x1,x2] N st (Pg.defs id)=Aa)(hb:∀ u0 u1 u2,Bd n st [x0,x1,x2] [u0,u1,u2]):KD K mg fns bl rzs exs gls Pg fuel (n,id,m):=
 Mf (ps:=[x0,x1,x2]) m id X G A hl hc λus hu=>by obtain⟨u0,v0,rfl,h0⟩:=HA hu;obtain⟨u1,v1,rfl,h1⟩:=HA h0;obtain⟨u2,v2,rfl,h2⟩:=HA h1;obtain rfl:=ML h2;exact hb u0 u1 u2
theorem Uj{n:Ak}{f:Ah}{st:AO}{N:Ac Ak}{x2 x3:Ak}(m id:Ag)(X:K.In h)(G:h.Ns A5 mg)(A:FnI K f n st)(hl:4=m%1000)(hc:G8 fuel (C7 1000 m) fns bl rzs exs gls [x0,x1,x2,x3] N st (Pg.defs id)=Aa)(hb:∀ u0 u1 u2 u3,Bd n st [x0,x1,x2,x3] [u0,u1,u2,u3]):KD K mg fns bl rzs exs gls Pg fuel (n,id,m):=
 Mf (ps:=[x0,x1,x2,x3]) m id X G A hl hc λus hu=>by obtain⟨u0,v0,rfl,h0⟩:=HA hu;obtain⟨u1,v1,rfl,h1⟩:=HA h0;obtain⟨u2,v2,rfl,h2⟩:=HA h1;obtain⟨u3,v3,rfl,h3⟩:=HA h2;obtain rfl:=ML h3;exact hb u0 u1 u2 u3
end
end Ov
namespace OvC
open PySem Ov
variable{p t v m i j at_ N:Ad}{xs ns:Ac Ad}{n k:Ag}{U:Gam}{s3 s4 s5 s7 s6 s8 s9:Sl}{RL RW:Ac D}{Z:Rho}{T A:D}{kv:Ac (Ac Ad×D)}
noncomputable def NU:Df:=⟨4,Ae,(.cons (.ret (.call 1 (.cons (.var 0) (.cons (.bin .Add (.bin .Sub (.bin .Mult (.idx (.var 1) (.int 0)) (.bin .Sub (.bin .Mult (.idx (.var 2) (.int 1)) (.idx (.var 3) (.int 2))) (.bin .Mult (.idx (.var 2) (.int 2)) (.idx (.var 3) (.int 1))))) (.bin .Mult (.idx (.var 1) (.int 1)) (.bin .Sub (.bin .Mult (.idx (.var 2) (.int 0)) (.idx (.var 3) (.int 2))) (.bin .Mult (.idx (.var 2) (.int 2)) (.idx (.var 3) (.int 0)))))) (.bin .Mult (.idx (.var 1) (.int 2)) (.bin .Sub (.bin .Mult (.idx (.var 2) (.int 0)) (.idx (.var 3) (.int 1))) (.bin .Mult (.idx (.var 2) (.int 1)) (.idx (.var 3) (.int 0)))))) .nil)))) .nil)⟩
noncomputable abbrev tr(a b c:Ad):D:=.tup [.int a,.int b,.int c]
noncomputable def det(a0 a1 a2 b0 b1 b2 c0 c1 c2:Ad):Ad:=a0*(b1*c2-b2*c1)-a1*(b0*c2-b2*c0)+a2*(b0*c1-b1*c0)
def Sm(x:Ad):Prop:=0<=x/\x<11
theorem mo{x:Ad}(h:Sm x)(y:Ad):DL x y=Aa:=Hu (by have:=h.1;omega) (by have:=h.2;omega)
theorem Sm.of(h:P4 p)(x:Ad):Sm (x%p):=⟨Bg _ (by have:=h.pos;omega),by have:=Bc x h.pos;have:=h.hi;omega⟩
theorem P8{body:D->Rho->O}(I:Rho->Prop)(g:Ad->Ai):∀(L:Ac Ad),(∀ t∈L,∀ Z,I Z->(g t=Aa/\body (.int t) Z=.ret (.int t) Ae)\/(g t=Ae/\∃ Z',body (.int t) Z=.next Z'/\I Z'))->∀ Z,I Z->(∃ t∈L,g t=Aa/\BH body (L.map D.int) Z=.ret (.int t) Ae)\/((∀ t∈L,g t=Ae)/\∃ Z',BH body (L.map D.int) Z=.next Z'/\I Z')
 |[],_,Z,i=>.inr ⟨(λ_ h=>nomatch h),Z,rfl,i⟩
 |m::L,h,Z,i=>by
  rcases h m (Aw ..) Z i with ⟨e1,e2⟩|⟨e1,Z',e2,i'⟩
  .refine .inl ⟨m,Aw ..,e1,?_⟩;show (body (.int m) Z).turn _=_;rw[e2];rfl
  .rcases P8 I g L (λm' h'=>h m' (Au _ h')) Z' i' with ⟨t,ht,a,b⟩|⟨a,r,b,c⟩
   .refine .inl ⟨t,Au _ ht,a,?_⟩;show (body (.int m) Z).turn _=_;rw[e2];exact b
   .refine .inr ⟨λt ht=>?_,r,?_,c⟩
    .rcases AE.mp ht with rfl|ht
     .exact e1
     .exact a t ht
    .show (body (.int m) Z).turn _=_;rw[e2];exact b
noncomputable def JR:Ss:=(.cons (.ife (.cmp .Eq (.call 1 (.cons (.var 0) (.cons (.bin .Mult (.var 1) (.var 2)) .nil))) (.int 1)) (.cons (.ret (.var 2)) .nil) .nil) .nil)
noncomputable def Ly:Df:=⟨3,Ae,(.cons (.fors 2 (.rng2 (.int 1) (.var 0)) JR) (.cons (.rais 2 (.cons (.str (AV "a number with the rest 0 is not turned over")) .nil)) .nil))⟩
noncomputable def FY(p:Ad):Ac Ad:=(AS (p-1).toNat).map fun(k:Ag)=>1+(k:Ad)
theorem J4:t∈FY p↔1<=t/\t<p:=by
 unfold FY;rw[Br];constructor
 .rintro⟨k,hk,rfl⟩;have:=A4.mp hk;omega
 .rintro⟨h1,h2⟩;exact⟨(t-1).toNat,A4.mpr (by omega),by omega⟩
theorem QW(h:P4 p):Cq 1 p=.ok ((FY p).map D.int):=by
 rcases h with rfl|rfl|rfl|rfl<;>rfl
theorem gQ:∀ p:Fin 12,(p.val=3\/p.val=5\/p.val=7\/p.val=11)->∀ r:Fin 12,r.val<p.val->r.val≠0->∃ t:Fin 12,1<=t.val/\t.val<p.val/\r.val*t.val%p.val=1:=by decide+kernel
theorem K9{n:Ad}(h:P4 p)(hn:n%p≠0):∃ t,1<=t/\t<p/\n*t%p=1:=by
 have p0:0<p/\p<12:=by rcases h with rfl|rfl|rfl|rfl<;>decide
 obtain⟨q,rfl⟩:∃ q:Ag,p=q:=⟨p.toNat,by omega⟩
 have h0:=Bg n (b:=(q:Ad)) (by omega)
 have h1:=Bc n p0.1;obtain⟨r,hr⟩:∃ r:Ag,n%(q:Ad)=r:=⟨(n%(q:Ad)).toNat,by omega⟩
 obtain⟨t,t1,t2,t3⟩:=gQ ⟨q,by omega⟩ (by rcases h with e|e|e|e<;>simp<;>omega) ⟨r,by omega⟩ (by show r<q;omega) (by show r≠0;omega)
 refine⟨(t.val:Ad),by omega,by show (t.val:Ad)<q;exact Int.ofNat_lt.mpr t2,?_⟩
 have e:((r*t.val%q:Ag):Ad)=1:=by rw[show r*t.val%q=1 from t3];rfl
 rw[<-e,Int.natCast_emod,Int.natCast_mul,<-hr];exact(BU n _ _).trans (by rw[BU (n%(q:Ad)) (t.val:Ad) (q:Ad),BG n (CU _)])
def Ig(p n t:Ad):Prop:=1<=t/\t<p/\n*t%p=1
theorem Qi{n u:Ad}(h1:Ig p n t)(h2:Ig p n u):t=u:=by
 have hp:1<p:=by have:=h1.1;have:=h1.2.1;omega
 have e:t%p=u%p:=by
  have a:t%p=t*(n*u)%p:=by rw[BU,h2.2.2,EM,BG _ (CU p)]
  have b:u%p=(n*t)*u%p:=by rw[BU (n*t) u p,h1.2.2,CV,BG _ (CU p)]
  rw[a,b]
  congr 1
  rw[<-Fp,BS t n]
 rw[AT (by have:=h1.1;omega) h1.2.1,AT (by have:=h2.1;omega) h2.2.1]at e
 exact e
theorem DJ{c x:Ad}(hp:P4 p)(hc:c%p≠0)(hx:x%p≠0):c*x%p≠0:=λz=>by
 obtain⟨t,_,_,e⟩:=K9 hp hc;refine hx ?_;have e1:x%p=(c*t)*x%p:=by rw[BU (c*t) x p,e,CV,BG _ (CU p)]
 rw[e1,show c*t*x=t*(c*x) by rw[BS c t,Fp],BU,z,FI,C2]
noncomputable def Bs(p:Ad):Ac Ad->Ao Ad
 |[]=>Af
 |x::xs=>if x%p=0 then Bs p xs else Ab (x%p)
theorem No{p:Ad}:∀{xs:Ac Ad},Bs p xs=Af↔∀ x∈xs,x%p=0
 |[]=>by simp[Bs]
 |x::xs=>by
  unfold Bs;by_cases h:x%p=0
  .rw[Ax h,No (xs:=xs)];simp[h]
  .rw[AF h];simp[h]
theorem LJ{p l:Ad}(hp:0<p):∀{xs:Ac Ad},Bs p xs=Ab l->l%p≠0/\0<l/\l<p
 |[],h=>by cases h
 |x::xs,h=>by
  unfold Bs at h;by_cases hx:x%p=0
  .rw[Ax hx]at h;exact LJ hp h
  .rw[AF hx]at h;cases h;have h0:=Bg x (b:=p) (by omega)
   have h1:=Bc x hp;exact⟨by rw[BG _ (CU p)];exact hx,by omega,h1⟩
theorem LS{p c:Ad}(hp:P4 p)(hc:c%p≠0){f:Ad->Ad}(hf:∀ x,f x%p=c*x%p):∀ xs:Ac Ad,Bs p (xs.map f)=(Bs p xs).map λl=>c*l%p
 |[]=>rfl
 |x::xs=>by
  rw[Ba];unfold Bs;rw[hf x];by_cases hx:x%p=0
  .rw[Ax hx,Ax (by rw[BU,hx,FI,C2]),LS hp hc hf xs]
  .rw[AF hx,AF (DJ hp hc hx),Hg]
   congr 1
   rw[BU c (x%p),BG _ (CU p),<-BU]
noncomputable def ds(xs:Ac Ad):Ac D:=xs.map D.int
noncomputable def Dk(b:Ai)(xs:Ac Ad):D:=if b=Aa then .tup (ds xs) else .lst (ds xs)
theorem Qb(b xs):Cm (Dk b xs)=.ok (ds xs):=by unfold Dk;cases b<;>rfl
theorem JX{g:D->R Ai}{f:D->R D}{φ:Ad->Ad}:∀(xs:Ac Ad),(∀ x∈xs,g (.int x)=.ok Aa/\f (.int x)=.ok (.int (φ x)))->BN g f (ds xs)=.ok (ds (xs.map φ))
 |[],_=>rfl
 |x::xs,h=>by
  obtain⟨h1,h2⟩:=h x (Aw ..);show (g (.int x)).bind _=_;rw[h1,R.bind_ok,Ax rfl,h2,R.bind_ok];show (BN g f (ds xs)).bind _=_;rw[JX xs λy hy=>h y (Au _ hy)]
  rfl
noncomputable def DK:E:=(.bl Aa)
noncomputable def MT:E:=(.call 1 (.cons (.var 0) (.cons (.var 5) .nil)))
noncomputable def MS:E:=(.call 1 (.cons (.var 0) (.cons (.bin .Mult (.var 4) (.var 6)) .nil)))
noncomputable def GZ:Ss:=(.cons (.ife (.cmp .NotEq (.var 3) (.int 0)) (.cons (.asg 4 Ae (.call 9 (.cons (.var 0) (.cons (.var 3) .nil)))) (.cons (.ret (.bi .tuple (.cons (.comp MS 6 (.e (.var 2)) DK) .nil))) .nil)) .nil) .nil)
noncomputable def LH:Df:=⟨7,Ae,(.cons (.asg 2 Ae (.comp MT 5 (.e (.var 1)) DK)) (.cons (.fors 3 (.e (.var 2)) GZ) (.cons (.rais 3 (.cons (.str (AV "all the numbers have the rest 0")) .nil)) .nil)))⟩
noncomputable def fmI(p t:Ad)(xs:Ac Ad):Ac Ad:=xs.map λx=>t*(x%p)%p
section
variable{U:Gam}{p:Ad}{xs:Ac Ad}{b:Ai}
end
theorem Ls{g:D->R Ai}{f:D->R D}{q:Ad->Ai}:∀(xs:Ac Ad),(∀ x∈xs,g (.int x)=.ok (q x)/\f (.int x)=.ok (.int x))->BN g f (ds xs)=.ok (ds (xs.filter q))
 |[],_=>rfl
 |x::xs,h=>by
  obtain⟨h1,h2⟩:=h x (Aw ..);have ih:=Ls xs λy hy=>h y (Au _ hy)
  show (g (.int x)).bind _=_;rw[h1,R.bind_ok];cases hq:q x with
  |true=>
   rw[Ax rfl,h2,R.bind_ok,C3,hq,Ax rfl];show (BN g f (ds xs)).bind _=_;rw[ih];rfl
  |false=>
   rw[AF (by decide),C3,hq,AF (by decide)]
   exact ih
theorem PU{p:Ad}(hp:0<p):∀(xs:Ac Ad),((xs.map λx=>x%p).filter λr=>decide (0<r)).head?=Bs p xs
 |[]=>rfl
 |x::xs=>by
  have h0:=Bg x (b:=p) (by omega)
  unfold Bs;rw[Ba,C3];by_cases h:x%p=0
  .rw[Ax h,AF (by simp[h]),PU hp xs]
  .rw[AF h,Ax (by simp;omega)]
   rfl
theorem Yy{p l t:Ad}(it:Ig p l t):((FY p).filter λk=>decide (k*l%p=1)).head?=Ab t:=by
 have hm:t∈(FY p).filter λk=>decide (k*l%p=1):=Dd.mpr ⟨J4.mpr ⟨it.1,it.2.1⟩,by simp[BS t l,it.2.2]⟩
 cases e:(FY p).filter λk=>decide (k*l%p=1) with
 |nil=>rw[e]at hm;cases hm
 |cons u us=>
  have hu:u∈(FY p).filter λk=>decide (k*l%p=1):=by rw[e];exact Aw ..
  obtain⟨h1,h2⟩:=Dd.mp hu;obtain⟨a,b⟩:=J4.mp h1;have h3:u*l%p=1:=by simpa using h2
  rw[Qi it ⟨a,b,by rw[BS];exact h3⟩]
  rfl
theorem NN{l:Ad}(h:xs.head?=Ab l):CN (ds xs) 0=.ok (.int l):=by
 cases xs with
 |nil=>cases h
 |cons x xs=>cases h;exact N6 (by omega) rfl
theorem S5:∀ xs:Ac Ad,eqDs (ds xs) (ds xs)=Aa
 |[]=>rfl
 |x::xs=>by
  show (eqD (.int x) (.int x)&&eqDs (ds xs) (ds xs))=Aa;rw[S5 xs];simp
theorem Rm:∀ xs:Ac Ad,FC (xs.map λ_=>D.bl Aa)=.ok Aa
 |[]=>rfl
 |x::xs=>by
  rw[Ba,NB,Rm xs];rfl
theorem Sh{g:D->R Ai}{f:D->R D}:∀(xs:Ac Ad),(∀ x∈xs,g (.int x)=.ok Aa/\f (.int x)=.ok (.bl Aa))->BN g f (ds xs)=.ok (xs.map λ_=>D.bl Aa)
 |[],_=>rfl
 |x::xs,h=>by
  obtain⟨h1,h2⟩:=h x (Aw ..);show (g (.int x)).bind _=_;rw[h1,R.bind_ok,Ax rfl,h2,R.bind_ok];show (BN g f (ds xs)).bind _=_;rw[Sh xs λy hy=>h y (Au _ hy)]
  rfl
noncomputable abbrev own(xs:Ac Ad):Sl:=Ab (.lst (ds xs),Aa)
section
variable{U:Gam}{ns:Ac Ad}{a1 a2 a4 a6 a7 a8 a9 b0 b1 b2 b3 b4:Sl}{p:Ad}
end
section
variable{U:Gam}{ns:Ac Ad}{a1 a4 a6 a7 a8 a9 b2 b3 b4:Sl}{p m:Ad}{xs:Ac Ad}
end
def Cg(p x y:Ad):Prop:=x%p=y%p
section
variable{p a b c d:Ad}
theorem Cg.rfl:Cg p a a:=Eq.refl _
theorem Cg.of(h:a=b):Cg p a b:=by unfold Cg;rw[h]
theorem Cg.trans{a b c:Ad}(h:Cg p a b)(g:Cg p b c):Cg p a c:=IW h g
theorem Cg.symm(h:Cg p a b):Cg p b a:=Lp h
theorem Cg.add(h:Cg p a b)(g:Cg p c d):Cg p (a+c) (b+d):=by unfold Cg at *;rw[U_5,h,g,<-U_5]
theorem Cg.sub(h:Cg p a b)(g:Cg p c d):Cg p (a-c) (b-d):=by unfold Cg at *;rw[Va,h,g,<-Va]
theorem Cg.mul(h:Cg p a b)(g:Cg p c d):Cg p (a*c) (b*d):=by unfold Cg at *;rw[BU,h,g,<-BU]
theorem Cg.md(h:a=b%p):Cg p a b:=by unfold Cg;rw[h,BG _ (CU p)]
end
theorem IG{p a0 a1 a2 b0 b1 b2 c0 c1 c2 x0 x1 x2 y0 y1 y2 z0 z1 z2:Ad}(h0:Cg p a0 x0)(h1:Cg p a1 x1)(h2:Cg p a2 x2)(h3:Cg p b0 y0)(h4:Cg p b1 y1)(h5:Cg p b2 y2)(h6:Cg p c0 z0)(h7:Cg p c1 z1)(h8:Cg p c2 z2):Cg p (a0*(b1*c2-b2*c1)-a1*(b0*c2-b2*c0)+a2*(b0*c1-b1*c0)) (x0*(y1*z2-y2*z1)-x1*(y0*z2-y2*z0)+x2*(y0*z1-y1*z0)):=
 ((h0.mul ((h4.mul h8).sub (h5.mul h7))).sub (h1.mul ((h3.mul h8).sub (h5.mul h6)))).add (h2.mul ((h3.mul h7).sub (h4.mul h6)))
theorem P4.m1(h:P4 p):(-1:Ad)%p≠0:=by rcases h with rfl|rfl|rfl|rfl<;>decide
theorem P4.o1(h:P4 p):(1:Ad)%p≠0:=by rcases h with rfl|rfl|rfl|rfl<;>decide
abbrev R3:=Ad×Ad×Ad
variable{a x' x y r g y':R3}{L pts:Ac R3}
noncomputable def Ea(a:R3):D:=.lst [.int a.1,.int a.2.1,.int a.2.2]
noncomputable def As(a b c:R3):Ad:=det a.1 a.2.1 a.2.2 b.1 b.2.1 b.2.2 c.1 c.2.1 c.2.2
def In3(p:Ad)(a:R3):Prop:=(0<=a.1/\a.1<p)/\(0<=a.2.1/\a.2.1<p)/\(0<=a.2.2/\a.2.2<p)
structure GoodR (p:Ad) (a b c:R3):Prop where
 p4:P4 p
 ia:In3 p a
 ib:In3 p b
 ic:In3 p c
 nz:As a b c%p≠0
theorem GoodR.of{k:Ad}{a b c a' b' c':R3}(h:GoodR p a b c)(hk:k%p≠0)(e:Cg p (As a' b' c') (k*As a b c))(hin:In3 p a'/\In3 p b'/\In3 p c'):GoodR p a' b' c':=⟨h.p4,hin.1,hin.2.1,hin.2.2,by rw[show As a' b' c'%p=_ from e];exact DJ h.p4 hk h.nz⟩
noncomputable def Pw(t:Ad)(a:R3):R3:=(a.1*t,a.2.1*t,a.2.2*t)
noncomputable def Gg(t:Ad)(a b:R3):R3:=(a.1+t*b.1,a.2.1+t*b.2.1,a.2.2+t*b.2.2)
noncomputable def mdR(p:Ad)(a:R3):R3:=(a.1%p,a.2.1%p,a.2.2%p)
noncomputable def scR(p t:Ad)(a:R3):R3:=mdR p (Pw t a)
noncomputable def adR(p t:Ad)(a b:R3):R3:=mdR p (Gg t a b)
theorem Mu(h:0<p)(a:R3):In3 p (mdR p a):=⟨⟨Bg _ (by omega),Bc _ h⟩,⟨Bg _ (by omega),Bc _ h⟩,⟨Bg _ (by omega),Bc _ h⟩⟩
theorem pH(h:0<p)(t:Ad)(a:R3):In3 p (scR p t a):=Mu h _
theorem Kk(h:0<p)(t:Ad)(a b:R3):In3 p (adR p t a b):=Mu h _
theorem Xv(p t:Ad)(a b c:R3):Cg p (As (scR p t a) b c) (t*As a b c):=by
 refine Cg.trans (b:=As (Pw t a) b c) ?_ (Cg.of (by unfold As det Pw;grind))
 unfold As det;exact IG (Cg.md (by rfl)) (Cg.md (by rfl)) (Cg.md (by rfl)) Cg.rfl Cg.rfl Cg.rfl Cg.rfl Cg.rfl Cg.rfl
theorem sM(p t:Ad)(a b c:R3):Cg p (As (adR p t a b) b c) (1*As a b c):=by
 refine Cg.trans (b:=As (Gg t a b) b c) ?_ (Cg.of (by unfold As det Gg;grind))
 unfold As det;exact IG (Cg.md (by rfl)) (Cg.md (by rfl)) (Cg.md (by rfl)) Cg.rfl Cg.rfl Cg.rfl Cg.rfl Cg.rfl Cg.rfl
theorem sK(p t:Ad)(a b c:R3):Cg p (As (adR p t a c) b c) (1*As a b c):=by
 refine Cg.trans (b:=As (Gg t a c) b c) ?_ (Cg.of (by unfold As det Gg;grind))
 unfold As det;exact IG (Cg.md (by rfl)) (Cg.md (by rfl)) (Cg.md (by rfl)) Cg.rfl Cg.rfl Cg.rfl Cg.rfl Cg.rfl Cg.rfl
theorem sJ(p t:Ad)(a b c:R3):Cg p (As a (adR p t b a) c) (1*As a b c):=by
 refine Cg.trans (b:=As a (Gg t b a) c) ?_ (Cg.of (by unfold As det Gg;grind))
 unfold As det;exact IG Cg.rfl Cg.rfl Cg.rfl (Cg.md (by rfl)) (Cg.md (by rfl)) (Cg.md (by rfl)) Cg.rfl Cg.rfl Cg.rfl
theorem sI(p t:Ad)(a b c:R3):Cg p (As a (adR p t b c) c) (1*As a b c):=by
 refine Cg.trans (b:=As a (Gg t b c) c) ?_ (Cg.of (by unfold As det Gg;grind))
 unfold As det;exact IG Cg.rfl Cg.rfl Cg.rfl (Cg.md (by rfl)) (Cg.md (by rfl)) (Cg.md (by rfl)) Cg.rfl Cg.rfl Cg.rfl
theorem sH(p t:Ad)(a b c:R3):Cg p (As a b (adR p t c a)) (1*As a b c):=by
 refine Cg.trans (b:=As a b (Gg t c a)) ?_ (Cg.of (by unfold As det Gg;grind))
 unfold As det;exact IG Cg.rfl Cg.rfl Cg.rfl Cg.rfl Cg.rfl Cg.rfl (Cg.md (by rfl)) (Cg.md (by rfl)) (Cg.md (by rfl))
theorem sG(p t:Ad)(a b c:R3):Cg p (As a b (adR p t c b)) (1*As a b c):=by
 refine Cg.trans (b:=As a b (Gg t c b)) ?_ (Cg.of (by unfold As det Gg;grind))
 unfold As det;exact IG Cg.rfl Cg.rfl Cg.rfl Cg.rfl Cg.rfl Cg.rfl (Cg.md (by rfl)) (Cg.md (by rfl)) (Cg.md (by rfl))/-! ### draws -/
theorem fD{k:Ad}(h0:0<=k)(h1:k<ns.length):CN (ns.map D.int) k=.ok (.int (ns.getD k.toNat 0)):=N6 h0 (by
 have:k.toNat<ns.length:=by omega
 simp[this])
noncomputable abbrev ownR(a b c:R3):Sl:=Ab (.lst [Ea a,Ea b,Ea c],Aa)
section
variable{U:Gam}{ns:Ac Ad}{at_ many s5 s0 s1 s2:Sl}{p t m:Ad}{a b c:R3}
end
section
variable{U:Gam}{ns:Ac Ad}{many s5 s6 s7 s8 s9 s0 s1 s2:Sl}{p:Ad}{a b c:R3}
end
noncomputable def Gd(a b c:R3):D:=.lst [Ea a,Ea b,Ea c]
noncomputable def Nd:E:=(.bin .Mod (.var 5) (.var 0))
noncomputable def Na:E:=(.cmp .Gt (.var 6) (.int 0))
noncomputable def JS:E:=(.var 6)
noncomputable def M9:E:=(.cmp .Eq (.bin .Mod (.bin .Mult (.var 7) (.var 3)) (.var 0)) (.int 1))
noncomputable def Nc:E:=(.var 7)
noncomputable def Nb:E:=(.bin .Mod (.bin .Mult (.var 8) (.var 4)) (.var 0))
noncomputable def MU:Df:=⟨9,Ae,(.cons (.asg 2 Ae (.comp Nd 5 (.e (.var 1)) DK)) (.cons (.asg 3 Ae (.idx (.comp JS 6 (.e (.var 2)) Na) (.int 0))) (.cons (.asg 4 Ae (.idx (.comp Nc 7 (.rng2 (.int 1) (.var 0)) M9) (.int 0))) (.cons (.ret (.bi .tuple (.cons (.comp Nb 8 (.e (.var 2)) DK) .nil))) .nil))))⟩
theorem eI(U:Gam){b:Ai}{l t:Ad}(hp:P4 p)(e:Bs p xs=Ab l)(it:Ig p l t):MU.run U [.int p,Dk b xs]=.ok (.tup (ds (fmI p t xs))):=by
 have p0:=hp.pos;have ph:=hp.hi;have c1:BN (cG U [si p,sh (Dk b xs),Af,Af,Af,Af,Af,Af,Af] 5 DK) (cF U [si p,sh (Dk b xs),Af,Af,Af,Af,Af,Af,Af] 5 Nd) (ds xs)=.ok (ds (xs.map λx=>x%p)):=by
  refine JX xs λx _=>⟨rfl,?_⟩
  simp[cF,Nd,p0]
 generalize hR:(xs.map λx=>x%p)=rs at c1
 have c2:BN (cG U [si p,sh (Dk b xs),sh (.lst (ds rs)),Af,Af,Af,Af,Af,Af] 6 Na) (cF U [si p,sh (Dk b xs),sh (.lst (ds rs)),Af,Af,Af,Af,Af,Af] 6 JS) (ds rs)=.ok (ds (rs.filter λr=>decide (0<r))):=by
  refine Ls rs λx _=>⟨?_,?_⟩
  .simp[cG,Na]
  .simp[cF,JS]
 have hl:=PU p0 xs;rw[hR,e]at hl;generalize hL:(rs.filter λr=>decide (0<r))=ls at c2 hl
 have g0:=NN hl;obtain⟨_,l0,l1⟩:=LJ p0 e;have c3:BN (cG U [si p,sh (Dk b xs),sh (.lst (ds rs)),si l,Af,Af,Af,Af,Af] 7 M9) (cF U [si p,sh (Dk b xs),sh (.lst (ds rs)),si l,Af,Af,Af,Af,Af] 7 Nc) (ds (FY p))=.ok (ds ((FY p).filter λk=>decide (k*l%p=1))):=by
  refine Ls (FY p) λx hx=>⟨?_,?_⟩
  .obtain⟨x1,x2⟩:=J4.mp hx;have m:DL x l=Aa:=Hu (by omega) (by omega)
   simp[cG,M9,m,p0];rw[Cp];simp
  .simp[cF,Nc]
 have g1:=NN (Yy it);have c4:BN (cG U [si p,sh (Dk b xs),sh (.lst (ds rs)),si l,si t,Af,Af,Af,Af] 8 DK) (cF U [si p,sh (Dk b xs),sh (.lst (ds rs)),si l,si t,Af,Af,Af,Af] 8 Nb) (ds rs)=.ok (ds (rs.map λr=>t*r%p)):=by
  refine JX rs λx _=>⟨rfl,?_⟩
  have m:DL x t=Aa:=Od (by have:=it.1;omega) (by have:=it.2.1;omega)
  simp[cF,Nb,m,p0,BS]
 have ru:Cq 1 p=.ok (ds (FY p)):=QW hp;have fe:fmI p t xs=rs.map λr=>t*r%p:=by rw[<-hR];simp[fmI,Eo,GJ]
 simp[MU,Df.run,BZ,Qb,c1,c2,g0,ru,c3,g1,c4,fe]
noncomputable def X2(a b c:R3):Ac Ad:=[a.1,a.2.1,a.2.2,b.1,b.2.1,b.2.2,c.1,c.2.1,c.2.2]
noncomputable def fmR(p t:Ad)(a:R3):R3:=(t*(a.1%p)%p,t*(a.2.1%p)%p,t*(a.2.2%p)%p)
def Bd(n:Ag)(x:Ad):Prop:=x.natAbs<2 ^ n
theorem Bd.mul{m:Ag}{x y:Ad}(h:Bd m x)(g:Bd n y):Bd (m+n) (x*y):=by
 unfold Bd at *;rw[Int.natAbs_mul,Nat.pow_add];exact Nat.mul_lt_mul'' h g
theorem Bd.sub{x y:Ad}(h:Bd n x)(g:Bd n y):Bd (n+1) (x-y):=by
 unfold Bd at *;rw[Nat.pow_succ];omega
theorem Kh{m:Ag}{x y:Ad}(h:Bd m x)(g:Bd n y)(hm:m<=2000)(hn:n<=2000):GB x y=Aa:=by
 unfold GB Bd at *;rw[Ap,AW,AW];exact⟨AG h (EA (by decide) hm),AG g (EA (by decide) hn)⟩
def B3(a:R3):Prop:=Bd 300 a.1/\Bd 300 a.2.1/\Bd 300 a.2.2
noncomputable def An(q:Ai)(a:R3):D:=Dk q [a.1,a.2.1,a.2.2]
theorem G3(q:Ai)(a:R3):Ec (An q a) (.int 0)=.ok (.int a.1)/\Ec (An q a) (.int 1)=.ok (.int a.2.1)/\Ec (An q a) (.int 2)=.ok (.int a.2.2):=by cases q<;>exact⟨rfl,rfl,rfl⟩
def ID(U:Gam):Prop:=∀(p:Ad)(q:Ai)(a b c:R3),0<p->B3 a->B3 b->B3 c->U.F 61 [.int p,An q a,An q b,An q c]=.ok (.int (As a b c%p))
theorem eG(h:Kj U)(p:Ad)(q:Ai)(a b c:R3)(hp:0<p)(ha:B3 a)(hb:B3 b)(hc:B3 c):NU.run U [.int p,An q a,An q b,An q c]=.ok (.int (As a b c%p)):=by
 obtain⟨a0,a1,a2⟩:=G3 q a;obtain⟨b0,b1,b2⟩:=G3 q b;obtain⟨c0,c1,c2⟩:=G3 q c;have k:∀ {x y},Bd 300 x->Bd 300 y->GB x y=Aa:=λhx hy=>Kh hx hy (by decide) (by decide)
 have k2:∀ {x y z u v},Bd 300 x->Bd 300 y->Bd 300 z->Bd 300 u->Bd 300 v->GB x (y*z-u*v)=Aa:=λhx hy hz hu hv=>Kh hx ((hy.mul hz).sub (hu.mul hv)) (by decide) (by decide)
 simp[NU,Df.run,BZ,a0,a1,a2,b0,b1,b2,c0,c1,c2,k hb.2.1 hc.2.2,k hb.2.2 hc.2.1,k hb.1 hc.2.2,k hb.2.2 hc.1,k hb.1 hc.2.1,k hb.2.1 hc.1,k2 ha.1 hb.2.1 hc.2.2 hb.2.2 hc.2.1,k2 ha.2.1 hb.1 hc.2.2 hb.2.2 hc.1,k2 ha.2.2 hb.1 hc.2.1 hb.2.1 hc.1,h p _ hp];rfl
section
variable{U:Gam}{ns:Ac Ad}{p t:Ad}{a b c r:R3}{made s6 s7:Sl}
end
theorem Nu{p:Ad}:∀{xs ys:Ac Ad},xs.map (λx=>x%p)=ys.map (λx=>x%p)->Bs p xs=Bs p ys
 |[],[],_=>rfl
 |x::xs,y::ys,h=>by
  rw[Ba,Ba,Vf]at h;unfold Bs;rw[h.1,Nu h.2]
 |[],_::_,h=>by simp at h
 |_::_,[],h=>by simp at h
theorem Zi{ys:Ac Ad}(h:xs.map (λx=>x%p)=ys.map (λx=>x%p)):fmI p t xs=fmI p t ys:=by
 have e:∀ zs:Ac Ad,fmI p t zs=(zs.map λx=>x%p).map λr=>t*r%p:=λzs=>by simp[fmI,Eo,GJ]
 rw[e,e,h]
theorem sW(hp:0<p)(t:Ad)(a:R3):In3 p (fmR p t a):=⟨⟨Bg _ (by omega),Bc _ hp⟩,⟨Bg _ (by omega),Bc _ hp⟩,⟨Bg _ (by omega),Bc _ hp⟩⟩
section
variable{U:Gam}{ns:Ac Ad}{p m:Ad}{a b c:R3}{fa fb fc:R3}{q:Ai}{s9 s0 s1 s2:Sl}
end
def NZ(U:Gam):Prop:=∀ p n:Ad,P4 p->n%p≠0->∃ t,1<=t/\t<p/\n*t%p=1/\U.F 9 [.int p,.int n]=.ok (.int t)
def R5(U:Gam):Prop:=∀(p:Ad)(b:Ai)(xs:Ac Ad)(l t:Ad),P4 p->Bs p xs=Ab l->Ig p l t->U.F 17 [.int p,Dk b xs]=.ok (.tup (ds (fmI p t xs)))
theorem YG(hr:Kj U)(p n:Ad)(hp:P4 p)(z:n%p≠0):∃ t,1<=t/\t<p/\n*t%p=1/\Ly.run U [.int p,.int n]=.ok (.int t):=by
 have p0:=hp.pos;have ph:=hp.hi;have body:∀ t∈FY p,∀ Z,(∃ s,Z=[si p,si n,s])->(decide (n*t%p=1)=Aa/\AQ U 2 JR (.int t) Z=.ret (.int t) Ae)\/(decide (n*t%p=1)=Ae/\∃ Z',AQ U 2 JR (.int t) Z=.next Z'/\∃ s,Z'=[si p,si n,s]):=by
  rintro t ht Z ⟨s,rfl⟩;obtain⟨t1,t2⟩:=J4.mp ht;have m:DL n t=Aa:=Od (by omega) (by omega)
  by_cases e:n*t%p=1
  .exact .inl ⟨by simp[e],by simp[AQ,JR,hr p (n*t) p0,m,e,CM]⟩
  .exact .inr ⟨by simp[e],_,by simp[AQ,JR,hr p (n*t) p0,m,e];rfl,_,rfl⟩
 have run:∀ o,BH (AQ U 2 JR) ((FY p).map D.int) [si p,si n,Af]=o->Ly.run U [.int p,.int n]=(Fk U (.cons (.rais 2 (.cons (.str (AV "a number with the rest 0 is not turned over")) .nil)) .nil) o).ans Ae:=by
  rintro o rfl;simp[Ly,Df.run,BZ,QW hp]
 rcases P8 (λZ=>∃ s,Z=[si p,si n,s]) (λt=>decide (n*t%p=1)) (FY p) body [si p,si n,Af] ⟨_,rfl⟩ with ⟨t,ht,a,b⟩|⟨a,r,b,s,rfl⟩
 .obtain⟨t1,t2⟩:=J4.mp ht;have a':n*t%p=1:=by simpa using a
  exact⟨t,t1,t2,a',by rw[run _ b];rfl⟩
 .obtain⟨t,t1,t2,e⟩:=K9 hp z;have:=a t (J4.mpr ⟨t1,t2⟩);simp[e]at this
section
variable{U:Gam}{p:Ad}{xs:Ac Ad}{b:Ai}
theorem QH(hr:Kj U)(ht:NZ U)(hp:P4 p)(rs:Ac Ad):∀(ys:Ac Ad),(∀ y∈ys,0<=y/\y<p)->∀ s3,(Bs p ys=Af->∃ s3',BH (AQ U 3 GZ) (ds ys) [si p,sh (Dk b xs),sh (.lst (ds rs)),s3,Af,Af,Af]=.next [si p,sh (Dk b xs),sh (.lst (ds rs)),s3',Af,Af,Af])/\(∀ l t,Bs p ys=Ab l->Ig p l t->BH (AQ U 3 GZ) (ds ys) [si p,sh (Dk b xs),sh (.lst (ds rs)),s3,Af,Af,Af]=.ret (.tup (ds (rs.map λr=>t*r%p))) Ae)
 |[],_,s3=>⟨λ_=>⟨s3,rfl⟩,(λl t h=>nomatch h)⟩
 |y::ys,hy,s3=>by
  obtain⟨y0,y1⟩:=hy y (Aw ..);have ym:y%p=y:=AT y0 y1;have ih:=QH hr ht hp rs ys (λz hz=>hy z (Au _ hz)) (si y)
  have step:∀ o,AQ U 3 GZ (.int y) [si p,sh (Dk b xs),sh (.lst (ds rs)),s3,Af,Af,Af]=o->BH (AQ U 3 GZ) (ds (y::ys)) [si p,sh (Dk b xs),sh (.lst (ds rs)),s3,Af,Af,Af]=o.turn (BH (AQ U 3 GZ) (ds ys)):=by
   rintro o rfl;rfl
  unfold Bs;rw[ym];by_cases hz:y=0
  .have e:AQ U 3 GZ (.int y) [si p,sh (Dk b xs),sh (.lst (ds rs)),s3,Af,Af,Af]=.next [si p,sh (Dk b xs),sh (.lst (ds rs)),si y,Af,Af,Af]:=by
    simp[AQ,GZ,hz]
   rw[Ax hz,step _ e];exact ih
  .rw[AF hz];refine⟨(λz=>nomatch z),λl t e it=>?_⟩
   cases e;obtain⟨u,u1,u2,u3,u4⟩:=ht p y hp (by rw[ym];exact hz)
   have:t=u:=Qi it ⟨u1,u2,u3⟩;subst this;have p0:=hp.pos;have ph:=hp.hi;have cp:BN (cG U [si p,sh (Dk b xs),sh (.lst (ds rs)),si y,si t,Af,Af] 6 DK) (cF U [si p,sh (Dk b xs),sh (.lst (ds rs)),si y,si t,Af,Af] 6 MS) (ds rs)=.ok (ds (rs.map λr=>t*r%p)):=by
    refine JX rs λr _=>⟨rfl,?_⟩
    have m:DL t r=Aa:=Hu (by omega) (by omega)
    simp[cF,MS,m,hr p (t*r) p0]
   have e:AQ U 3 GZ (.int y) [si p,sh (Dk b xs),sh (.lst (ds rs)),s3,Af,Af,Af]=.ret (.tup (ds (rs.map λr=>t*r%p))) Ae:=by
    simp[AQ,GZ,hz,u4,cp,CM]
   rw[step _ e];rfl
theorem eH(hr:Kj U)(ht:NZ U)(hp:P4 p){l t:Ad}(e:Bs p xs=Ab l)(it:Ig p l t):LH.run U [.int p,Dk b xs]=.ok (.tup (ds (fmI p t xs))):=by
 have p0:=hp.pos;have cp:BN (cG U [si p,sh (Dk b xs),Af,Af,Af,Af,Af] 5 DK) (cF U [si p,sh (Dk b xs),Af,Af,Af,Af,Af] 5 MT) (ds xs)=.ok (ds (xs.map λx=>x%p)):=by
  refine JX xs λx _=>⟨rfl,?_⟩
  simp[cF,MT,hr p x p0]
 have run:∀ o,BH (AQ U 3 GZ) (ds (xs.map λx=>x%p)) [si p,sh (Dk b xs),sh (.lst (ds (xs.map λx=>x%p))),Af,Af,Af,Af]=o->LH.run U [.int p,Dk b xs]=(Fk U (.cons (.rais 3 (.cons (.str (AV "all the numbers have the rest 0")) .nil)) .nil) o).ans Ae:=by
  rintro o rfl;simp[LH,Df.run,BZ,Qb,cp]
 have le:Bs p (xs.map λx=>x%p)=Bs p xs:=by
  have:=LS (c:=1) hp (by rcases hp with rfl|rfl|rfl|rfl<;>decide) (f:=λx=>x%p) (λx=>by rw[CV,BG _ (CU p)]) xs
  rw[this];cases e:Bs p xs with
  |none=>rfl
  |some l=>
   obtain⟨_,l0,l1⟩:=LJ p0 e;simp[AT (Int.le_of_lt l0) l1]
 obtain⟨a,c⟩:=QH (b:=b) (xs:=xs) hr ht hp (xs.map λx=>x%p) (xs.map λx=>x%p) (λy hy=>by
  obtain⟨x,_,rfl⟩:=Br.mp hy;exact⟨Bg _ (by omega),Bc _ p0⟩) Af
 rw[le]at a c;rw[run _ (c l t e it)];simp[fmI,Eo,GJ]
end
noncomputable def IK(t q:Ai)(a b c:R3):D:=if t=Aa then .tup [An q a,An q b,An q c] else .lst [An q a,An q b,An q c]
theorem XX(t q:Ai)(a b c:R3):Cm (IK t q a b c)=.ok [An q a,An q b,An q c]:=by cases t<;>rfl
noncomputable def Dq(a b c:R3):R3:=(a.1,b.1,c.1)
noncomputable def Dj(a b c:R3):R3:=(a.2.1,b.2.1,c.2.1)
noncomputable def Di(a b c:R3):R3:=(a.2.2,b.2.2,c.2.2)
noncomputable def BA(a x:R3):Ad:=a.1*x.1+a.2.1*x.2.1+a.2.2*x.2.2
noncomputable def crs(a b:R3):R3:=(a.2.1*b.2.2-a.2.2*b.2.1,a.2.2*b.1-a.1*b.2.2,a.1*b.2.1-a.2.1*b.1)
theorem Se:∀ xs ys:Ac Ad,eqDs (ds xs) (ds ys)=decide (xs=ys)
 |[],[]=>rfl
 |[],_::_=>rfl
 |_::_,[]=>rfl
 |x::xs,y::ys=>by
  show ((x==y)&&eqDs (ds xs) (ds ys))=_;rw[Se xs ys,Cp];simp
theorem La(a b:R3):eqD (An Aa a) (An Aa b)=decide (a=b):=by
 show eqDs (ds [a.1,a.2.1,a.2.2]) (ds [b.1,b.2.1,b.2.2])=_;rw[Se,Cp];simp only[Vf,and_true,AW];exact⟨λ⟨h1,h2,h3⟩=>by obtain⟨a1,a2,a3⟩:=a;obtain⟨b1,b2,b3⟩:=b;simp at h1 h2 h3;rw[h1,h2,h3],λh=>by rw[h];exact⟨rfl,rfl,rfl⟩⟩
def hV(U:Gam):Prop:=∀ a b:R3,B3 a->B3 b->a≠b->U.F 23 [An Aa a,An Aa b]=.ok (An Aa (crs a b))
noncomputable def bk0(a b c:R3):R3:=Dq (crs b c) (crs c a) (crs a b)
noncomputable def bk1(a b c:R3):R3:=Dj (crs b c) (crs c a) (crs a b)
noncomputable def bk2(a b c:R3):R3:=Di (crs b c) (crs c a) (crs a b)
theorem Mm{x:Ad}(hp:P4 p)(h0:0<=x)(h1:x<p):Bd 10 x:=by
 unfold Bd;have:=hp.hi;omega
theorem Bd.mono{m:Ag}{x:Ad}(h:Bd m x)(hm:m<=n):Bd n x:=AG h (EA (by decide) hm)
def Bn(n:Ag)(a:R3):Prop:=Bd n a.1/\Bd n a.2.1/\Bd n a.2.2
theorem Bn.b3(h:Bn n a)(hn:n<=300):B3 a:=⟨h.1.mono hn,h.2.1.mono hn,h.2.2.mono hn⟩
theorem Gm(hp:P4 p)(h:In3 p a):Bn 10 a:=⟨Mm hp h.1.1 h.1.2,Mm hp h.2.1.1 h.2.1.2,Mm hp h.2.2.1 h.2.2.2⟩
theorem nH(a b c:R3):As (bk0 a b c) (bk1 a b c) (bk2 a b c)=As a b c*As a b c:=by
 unfold As det bk0 bk1 bk2 Dq Dj Di crs;grind
noncomputable def B8(k:Ad)(a:R3):R3:=(k*a.1,k*a.2.1,k*a.2.2)
noncomputable def fk0(p:Ad)(a b c d:R3):Ad:=As d b c%p
noncomputable def fs0(p:Ad)(a b c d:R3):R3:=B8 (fk0 p a b c d) a
noncomputable def Jd:Ss:=(.cons (.ife (.cmp .Eq (.call 61 (.cons (.var 0) (.cons (.var 3) (.cons (.idx (.var 1) (.var 4)) (.cons (.idx (.var 1) (.var 5)) .nil))))) (.int 0)) (.cons (.ret (.tup (.cons (.var 3) (.cons (.idx (.var 1) (.var 4)) (.cons (.idx (.var 1) (.var 5)) .nil))))) .nil) .nil) .nil)
noncomputable def JT:Ss:=(.cons (.fors 5 (.rng2 (.bin .Add (.var 4) (.int 1)) (.bi .len (.cons (.var 1) .nil))) Jd) .nil)
noncomputable def Ht:Ss:=(.cons (.fors 4 (.rng2 (.bin .Add (.var 2) (.int 1)) (.bi .len (.cons (.var 1) .nil))) JT) .nil)
noncomputable def Ng:Df:=⟨6,Ae,(.cons (.forT [2,3] (.enm (.var 1)) Ht) (.cons (.ret .non) .nil))⟩
def UM(p:Ad)(a b c d:R3):Prop:=As a b c%p≠0/\As a b d%p≠0/\As a c d%p≠0/\As b c d%p≠0
def CgR(p:Ad)(x y:R3):Prop:=Cg p x.1 y.1/\Cg p x.2.1 y.2.1/\Cg p x.2.2 y.2.2
section
variable{p:Ad}{a b c a' b' c' x y z x':R3}{k l m k':Ad}
theorem CgR.rfl:CgR p a a:=⟨Cg.rfl,Cg.rfl,Cg.rfl⟩
theorem CgR.of(h:a=b):CgR p a b:=by rw[h];exact CgR.rfl
theorem CgR.trans(h:CgR p a b)(g:CgR p b c):CgR p a c:=⟨h.1.trans g.1,h.2.1.trans g.2.1,h.2.2.trans g.2.2⟩
theorem CgR.symm(h:CgR p a b):CgR p b a:=⟨h.1.symm,h.2.1.symm,h.2.2.symm⟩
theorem CgR.sc(hk:Cg p k k')(h:CgR p a b):CgR p (B8 k a) (B8 k' b):=⟨hk.mul h.1,hk.mul h.2.1,hk.mul h.2.2⟩
theorem CgR.md(h:a=mdR p b):CgR p a b:=by rw[h];exact⟨Cg.md _root_.rfl,Cg.md _root_.rfl,Cg.md _root_.rfl⟩
theorem Sf(ha:CgR p a a')(hb:CgR p b b')(hc:CgR p c c'):Cg p (As a b c) (As a' b' c'):=by
 unfold As det;exact IG ha.1 ha.2.1 ha.2.2 hb.1 hb.2.1 hb.2.2 hc.1 hc.2.1 hc.2.2
theorem Hx(ha:CgR p a a')(hb:CgR p b b'):Cg p (BA a b) (BA a' b'):=((ha.1.mul hb.1).add (ha.2.1.mul hb.2.1)).add (ha.2.2.mul hb.2.2)
theorem oD(ha:CgR p a a')(hb:CgR p b b')(hc:CgR p c c'):CgR p (Dq a b c) (Dq a' b' c')/\CgR p (Dj a b c) (Dj a' b' c')/\CgR p (Di a b c) (Di a' b' c'):=⟨⟨ha.1,hb.1,hc.1⟩,⟨ha.2.1,hb.2.1,hc.2.1⟩,⟨ha.2.2,hb.2.2,hc.2.2⟩⟩
theorem oA(ha:CgR p a a')(hb:CgR p b b'):CgR p (crs a b) (crs a' b'):=
 ⟨(ha.2.1.mul hb.2.2).sub (ha.2.2.mul hb.2.1),(ha.2.2.mul hb.1).sub (ha.1.mul hb.2.2),(ha.1.mul hb.2.1).sub (ha.2.1.mul hb.1)⟩
theorem sX(p t:Ad)(a:R3):CgR p (fmR p t a) (B8 t a):=by
 have key:∀ x:Ad,Cg p (t*(x%p)%p) (t*x):=λx=>(Cg.md _root_.rfl).trans (Cg.rfl.mul (Cg.md _root_.rfl))
 exact⟨key _,key _,key _⟩
noncomputable def ap(a b c x:R3):R3:=(BA a x,BA b x,BA c x)
theorem S6(a b c x y z:R3):As (ap a b c x) (ap a b c y) (ap a b c z)=As a b c*As x y z:=by
 unfold As det ap BA;grind
theorem nV(k l m:Ad)(x y z:R3):As (B8 k x) (B8 l y) (B8 m z)=k*l*m*As x y z:=by
 unfold As det B8;grind
theorem OS(k l:Ad)(x:R3):B8 k (B8 l x)=B8 (k*l) x:=by
 unfold B8;simp only[Fp]
theorem tG(a b c x:R3)(k:Ad):ap a b c (B8 k x)=B8 k (ap a b c x):=by
 unfold ap B8 BA;refine De ?_ (De ?_ ?_)<;>(simp only;grind)
theorem fZ(x y z:R3):As (Dq x y z) (Dj x y z) (Di x y z)=As x y z:=by
 unfold As det Dq Dj Di;grind
end
theorem LV(a b:R3):BA a b=BA b a:=by unfold BA;grind
section
variable{p:Ad}{a b c f0 f1 f2 f3 g0 g1 g2 g3:R3}{d0 d1 d2 d3:Ad}
end
section
variable{U:Gam}{ns:Ac Ad}
end
section
variable{U:Gam}{ns:Ac Ad}{many s5 s6 s7 s8 s9 s0 s1 s2:Sl}{p:Ad}{a b c:R3}
end
def InL(p:Ad)(xs:Ac Ad):Prop:=∀ x∈xs,0<=x/\x<p
theorem InL.set(h:InL p xs)(k:Ag)(h0:0<=v)(h1:v<p):InL p (xs.set k v):=λx hx=>by
 rcases List.mem_or_eq_of_mem_set hx with z|rfl
 .exact h x z
 .exact⟨h0,h1⟩
section
variable{U:Gam}{ns:Ac Ad}{p at_:Ad}
end
section
variable{U:Gam}{ns:Ac Ad}{p t:Ad}
end
structure C6 where
 c0:Ad
 c1:Ad
 c2:Ad
 c3:Ad
 c4:Ad
 c5:Ad
variable{C:C6}
noncomputable def C6.l(C:C6):Ac Ad:=[C.c0,C.c1,C.c2,C.c3,C.c4,C.c5]
noncomputable def vI(C:C6)(x:R3):Ad:=C.c0*x.1*x.1+C.c1*x.2.1*x.2.1+C.c2*x.2.2*x.2.2+(C.c3*x.1*x.2.1+C.c4*x.1*x.2.2+C.c5*x.2.1*x.2.2)
noncomputable def tw0(C:C6):R3:=(2*C.c0,C.c3,C.c4)
noncomputable def tw1(C:C6):R3:=(C.c3,2*C.c1,C.c5)
noncomputable def tw2(C:C6):R3:=(C.c4,C.c5,2*C.c2)
noncomputable def bI(C:C6)(x y:R3):Ad:=BA (ap (tw0 C) (tw1 C) (tw2 C) x) y
noncomputable def scC(k:Ad)(C:C6):C6:=⟨k*C.c0,k*C.c1,k*C.c2,k*C.c3,k*C.c4,k*C.c5⟩
def CgC(p:Ad)(C D:C6):Prop:=Cg p C.c0 D.c0/\Cg p C.c1 D.c1/\Cg p C.c2 D.c2/\Cg p C.c3 D.c3/\Cg p C.c4 D.c4/\Cg p C.c5 D.c5
noncomputable def pb(C:C6)(a b c:R3):C6:=⟨vI C (Dq a b c),vI C (Dj a b c),vI C (Di a b c),bI C (Dq a b c) (Dj a b c),bI C (Dq a b c) (Di a b c),bI C (Dj a b c) (Di a b c)⟩
section
variable{p:Ad}{C D E:C6}{a b c a' b' c' x y x' y':R3}{k k':Ad}
theorem C6.ext'(h0:C.c0=D.c0)(h1:C.c1=D.c1)(h2:C.c2=D.c2)(h3:C.c3=D.c3)(h4:C.c4=D.c4)(h5:C.c5=D.c5):C=D:=by
 cases C;cases D;simp_all
theorem CgC.rfl:CgC p C C:=⟨Cg.rfl,Cg.rfl,Cg.rfl,Cg.rfl,Cg.rfl,Cg.rfl⟩
theorem CgC.of(h:C=D):CgC p C D:=by rw[h];exact CgC.rfl
theorem CgC.symm(h:CgC p C D):CgC p D C:=⟨h.1.symm,h.2.1.symm,h.2.2.1.symm,h.2.2.2.1.symm,h.2.2.2.2.1.symm,h.2.2.2.2.2.symm⟩
theorem CgC.trans(h:CgC p C D)(g:CgC p D E):CgC p C E:=⟨h.1.trans g.1,h.2.1.trans g.2.1,h.2.2.1.trans g.2.2.1,h.2.2.2.1.trans g.2.2.2.1,h.2.2.2.2.1.trans g.2.2.2.2.1,h.2.2.2.2.2.trans g.2.2.2.2.2⟩
theorem CgC.sc(hk:Cg p k k')(h:CgC p C D):CgC p (scC k C) (scC k' D):=⟨hk.mul h.1,hk.mul h.2.1,hk.mul h.2.2.1,hk.mul h.2.2.2.1,hk.mul h.2.2.2.2.1,hk.mul h.2.2.2.2.2⟩
theorem Mk(h:CgC p C D)(hx:CgR p x x'):Cg p (vI C x) (vI D x'):=
 (((((h.1.mul hx.1).mul hx.1).add ((h.2.1.mul hx.2.1).mul hx.2.1)).add ((h.2.2.1.mul hx.2.2).mul hx.2.2))).add ((((h.2.2.2.1.mul hx.1).mul hx.2.1).add ((h.2.2.2.2.1.mul hx.1).mul hx.2.2)).add ((h.2.2.2.2.2.mul hx.2.1).mul hx.2.2))
theorem Tn(h:CgC p C D):CgR p (tw0 C) (tw0 D)/\CgR p (tw1 C) (tw1 D)/\CgR p (tw2 C) (tw2 D):=
 ⟨⟨Cg.rfl.mul h.1,h.2.2.2.1,h.2.2.2.2.1⟩,⟨h.2.2.2.1,Cg.rfl.mul h.2.1,h.2.2.2.2.2⟩,⟨h.2.2.2.2.1,h.2.2.2.2.2,Cg.rfl.mul h.2.2.1⟩⟩
theorem mK(ha:CgR p a a')(hb:CgR p b b')(hc:CgR p c c')(hx:CgR p x x'):CgR p (ap a b c x) (ap a' b' c' x'):=⟨Hx ha hx,Hx hb hx,Hx hc hx⟩
theorem MD(h:CgC p C D)(hx:CgR p x x')(hy:CgR p y y'):Cg p (bI C x y) (bI D x' y'):=
 let ⟨t0,t1,t2⟩:=Tn h
 Hx (mK t0 t1 t2 hx) hy
theorem qO(h:CgC p C D)(ha:CgR p a a')(hb:CgR p b b')(hc:CgR p c c'):CgC p (pb C a b c) (pb D a' b' c'):=
 let ⟨s0,s1,s2⟩:=oD ha hb hc
 ⟨Mk h s0,Mk h s1,Mk h s2,MD h s0 s1,MD h s0 s2,MD h s1 s2⟩
theorem Me(k l:Ad)(C:C6):scC k (scC l C)=scC (k*l) C:=by
 unfold scC;simp only[Fp]
theorem L4(C:C6):scC 1 C=C:=by unfold scC;simp only[CV]
theorem sE(k:Ad)(C:C6)(a b c:R3):pb (scC k C) a b c=scC k (pb C a b c):=by
 unfold pb scC vI bI ap tw0 tw1 tw2 BA;refine C6.ext' ?_ ?_ ?_ ?_ ?_ ?_<;>(simp only;grind)
theorem S8(C:C6)(x y z:R3)(k l m:Ad):vI C (k*x.1+l*y.1+m*z.1,k*x.2.1+l*y.2.1+m*z.2.1,k*x.2.2+l*y.2.2+m*z.2.2)=k*k*vI C x+l*l*vI C y+m*m*vI C z+(k*l*bI C x y+k*m*bI C x z+l*m*bI C y z):=by
 unfold vI bI ap tw0 tw1 tw2 BA;simp only;grind
theorem So(C:C6)(x y z w:R3)(k l m:Ad):bI C (k*x.1+l*y.1+m*z.1,k*x.2.1+l*y.2.1+m*z.2.1,k*x.2.2+l*y.2.2+m*z.2.2) w=k*bI C x w+l*bI C y w+m*bI C z w:=by
 unfold bI ap tw0 tw1 tw2 BA;simp only;grind
theorem Jk(C:C6)(x y:R3):bI C x y=bI C y x:=by
 unfold bI ap tw0 tw1 tw2 BA;simp only;grind
theorem Kc(C:C6)(x:R3):bI C x x=2*vI C x:=by
 unfold vI bI ap tw0 tw1 tw2 BA;simp only;grind
theorem qK(v0 v1 v2 b0 b1 b2:Ad)(u w:R3):bI ⟨v0,v1,v2,b0,b1,b2⟩ u w=u.1*(w.1*(2*v0)+w.2.1*b0+w.2.2*b1)+u.2.1*(w.1*b0+w.2.1*(2*v1)+w.2.2*b2)+u.2.2*(w.1*b1+w.2.1*b2+w.2.2*(2*v2)):=by
 unfold bI ap tw0 tw1 tw2 BA;simp only;grind
theorem Xz(C:C6)(s0 s1 s2 u w:R3):bI C (u.1*s0.1+u.2.1*s1.1+u.2.2*s2.1,u.1*s0.2.1+u.2.1*s1.2.1+u.2.2*s2.2.1,u.1*s0.2.2+u.2.1*s1.2.2+u.2.2*s2.2.2) (w.1*s0.1+w.2.1*s1.1+w.2.2*s2.1,w.1*s0.2.1+w.2.1*s1.2.1+w.2.2*s2.2.1,w.1*s0.2.2+w.2.1*s1.2.2+w.2.2*s2.2.2)=bI ⟨vI C s0,vI C s1,vI C s2,bI C s0 s1,bI C s0 s2,bI C s1 s2⟩ u w:=by
 have e:∀ s:R3,bI C s (w.1*s0.1+w.2.1*s1.1+w.2.2*s2.1,w.1*s0.2.1+w.2.1*s1.2.1+w.2.2*s2.2.1,w.1*s0.2.2+w.2.1*s1.2.2+w.2.2*s2.2.2)=w.1*bI C s0 s+w.2.1*bI C s1 s+w.2.2*bI C s2 s:=λs=>(Jk C _ _).trans (So C s0 s1 s2 s w.1 w.2.1 w.2.2)
 refine IW ?_ (qK _ _ _ _ _ _ u w).symm;rw[So,e,e,e,Kc C s0,Kc C s1,Kc C s2,Jk C s1 s0,Jk C s2 s0,Jk C s2 s1]
theorem nW(C:C6)(a b c:R3):As (tw0 (pb C a b c)) (tw1 (pb C a b c)) (tw2 (pb C a b c))=As a b c*As a b c*As (tw0 C) (tw1 C) (tw2 C):=by
 have row:∀ s:R3,(bI C s (Dq a b c),bI C s (Dj a b c),bI C s (Di a b c))=ap (Dq a b c) (Dj a b c) (Di a b c) (ap (tw0 C) (tw1 C) (tw2 C) s):=λs=>by
  unfold bI;rw[LV,LV _ (Dj a b c),LV _ (Di a b c)];rfl
 have e0:tw0 (pb C a b c)=(bI C (Dq a b c) (Dq a b c),bI C (Dq a b c) (Dj a b c),bI C (Dq a b c) (Di a b c)):=by rw[Kc];rfl
 have e1:tw1 (pb C a b c)=(bI C (Dj a b c) (Dq a b c),bI C (Dj a b c) (Dj a b c),bI C (Dj a b c) (Di a b c)):=by rw[Kc,Jk C (Dj a b c) (Dq a b c)];rfl
 have e2:tw2 (pb C a b c)=(bI C (Di a b c) (Dq a b c),bI C (Di a b c) (Dj a b c),bI C (Di a b c) (Di a b c)):=by rw[Kc,Jk C (Di a b c) (Dq a b c),Jk C (Di a b c) (Dj a b c)];rfl
 rw[e0,e1,e2,row,row,row,S6,S6,fZ];grind
theorem fV(k:Ad)(C:C6):As (tw0 (scC k C)) (tw1 (scC k C)) (tw2 (scC k C))=k*k*k*As (tw0 C) (tw1 C) (tw2 C):=by
 rw[<-nV];unfold tw0 tw1 tw2 scC B8;simp only[<-Fp,BS 2 k]
def PrC(p:Ad)(C D:C6):Prop:=∃ d,d%p≠0/\CgC p C (scC d D)
theorem PrC.rfl(hp:P4 p):PrC p C C:=⟨1,hp.o1,CgC.of (L4 C).symm⟩
theorem PrC.trans(hp:P4 p)(i:PrC p C D)(j:PrC p D E):PrC p C E:=by
 obtain⟨d,dz,e⟩:=i;obtain⟨d',dz',e'⟩:=j;exact⟨d*d',DJ hp dz dz',e.trans ((CgC.sc Cg.rfl e').trans (CgC.of (Me _ _ _)))⟩
theorem OQ(hp:P4 p)(dz:k%p≠0):∃ u,u%p≠0/\Cg p (u*k) 1:=by
 obtain⟨u,u1,u2,u3⟩:=K9 hp dz;refine⟨u,by rw[AT (by omega) u2];omega,?_⟩
 show u*k%p=1%p;rw[BS,u3,AT (by decide) (by have:=hp.lo;omega)]
theorem PrC.symm(hp:P4 p)(i:PrC p C D):PrC p D C:=by
 obtain⟨d,dz,e⟩:=i;obtain⟨u,uz,o⟩:=OQ hp dz;refine⟨u,uz,?_⟩;have q:=CgC.sc (k:=u) (k':=u) Cg.rfl e;rw[Me]at q;exact(q.trans ((CgC.sc o CgC.rfl).trans (CgC.of (L4 D)))).symm
theorem PrC.pb(i:PrC p C D):PrC p (OvC.pb C a b c) (OvC.pb D a b c):=by
 obtain⟨d,dz,e⟩:=i;exact⟨d,dz,(qO e CgR.rfl CgR.rfl CgR.rfl).trans (CgC.of (sE d D a b c))⟩
def InC(p:Ad)(C:C6):Prop:=∀ x∈C.l,0<=x/\x<p
end
structure BC (C:C6):Prop where
 b0:Bd 10 C.c0
 b1:Bd 10 C.c1
 b2:Bd 10 C.c2
 b3:Bd 10 C.c3
 b4:Bd 10 C.c4
 b5:Bd 10 C.c5
theorem InC.b(hp:P4 p)(h:InC p C):BC C:=by
 have k:∀ x∈C.l,Bd 10 x:=λx hx=>Mm hp (h x hx).1 (h x hx).2
 exact⟨k _ (by simp[C6.l]),k _ (by simp[C6.l]),k _ (by simp[C6.l]),k _ (by simp[C6.l]),k _ (by simp[C6.l]),k _ (by simp[C6.l])⟩
noncomputable def t0(p:Ad)(C:C6):R3:=(2*C.c0%p,C.c3,C.c4)
noncomputable def t1(p:Ad)(C:C6):R3:=(C.c3,2*C.c1%p,C.c5)
noncomputable def t2(p:Ad)(C:C6):R3:=(C.c4,C.c5,2*C.c2%p)
section
variable{U:Gam}{ns:Ac Ad}{p at_:Ad}{φ:Ad->Ad}
end
noncomputable def e0R:R3:=(1,0,0)
noncomputable def e1R:R3:=(0,1,0)
noncomputable def e2R:R3:=(0,0,1)
noncomputable def e3R:R3:=(1,1,1)
theorem Xu(hp:P4 p):In3 p e0R/\In3 p e1R/\In3 p e2R/\In3 p e3R:=by
 have z:0<=(0:Ad)/\(0:Ad)<p:=⟨by decide,hp.pos⟩
 have o:0<=(1:Ad)/\(1:Ad)<p:=⟨by decide,by have:=hp.lo;omega⟩
 exact⟨⟨o,z,z⟩,⟨z,o,z⟩,⟨z,z,o⟩,⟨o,o,o⟩⟩
theorem sF(hp:P4 p):UM p e0R e1R e2R e3R:=by
 rcases hp with rfl|rfl|rfl|rfl<;>exact⟨by decide,by decide,by decide,by decide⟩
def Pr(p:Ad)(x y:R3):Prop:=∃ d,d%p≠0/\CgR p x (B8 d y)
section
variable{p:Ad}{a b c x y z f g h:R3}{k:Ad}
theorem Lc(x:R3):B8 1 x=x:=by unfold B8;simp only[CV]
theorem Pr.rfl(hp:P4 p):Pr p x x:=⟨1,hp.o1,CgR.of (Lc x).symm⟩
theorem Pr.trans(hp:P4 p)(i:Pr p x y)(j:Pr p y z):Pr p x z:=by
 obtain⟨d,dz,e⟩:=i;obtain⟨d',dz',e'⟩:=j;exact⟨d*d',DJ hp dz dz',e.trans ((CgR.sc Cg.rfl e').trans (CgR.of (OS _ _ _)))⟩
theorem Pr.symm(hp:P4 p)(i:Pr p x y):Pr p y x:=by
 obtain⟨d,dz,e⟩:=i;obtain⟨u,u1,u2,u3⟩:=K9 hp dz;have uz:u%p≠0:=by rw[AT (by omega) u2];omega
 have o:Cg p (u*d) 1:=by
  show u*d%p=1%p;rw[BS,u3,AT (by decide) (by have:=hp.lo;omega)]
 refine⟨u,uz,?_⟩;have q:=CgR.sc (k:=u) (k':=u) Cg.rfl e;rw[OS]at q;exact(q.trans ((CgR.sc o CgR.rfl).trans (CgR.of (Lc y)))).symm
theorem Pr.cg(hp:P4 p)(e:CgR p x y):Pr p x y:=⟨1,hp.o1,e.trans (CgR.of (Lc y).symm)⟩
theorem Pi{a' b' c':R3}(ha:CgR p a a')(hb:CgR p b b')(hc:CgR p c c')(hx:CgR p x x'):CgR p (ap a b c x) (ap a' b' c' x'):=⟨Hx ha hx,Hx hb hx,Hx hc hx⟩
theorem Pr.ap(i:Pr p x y):Pr p (OvC.ap a b c x) (OvC.ap a b c y):=by
 obtain⟨d,dz,e⟩:=i;exact⟨d,dz,(Pi CgR.rfl CgR.rfl CgR.rfl e).trans (CgR.of (tG a b c y d))⟩
theorem TY(a b c v:R3):ap (bk0 a b c) (bk1 a b c) (bk2 a b c) (ap a b c v)=B8 (As a b c) v:=by
 unfold ap B8 BA bk0 bk1 bk2 Dq Dj Di crs As det;refine De ?_ (De ?_ ?_)<;>(simp only;grind)
end
noncomputable def tri(g:R3):Ac Ad:=[g.1,g.2.1,g.2.2]
theorem RD(hp:P4 p)(ix:In3 p x)(iy:In3 p y)(lx:Bs p (tri x)=Ab 1)(ly:Bs p (tri y)=Ab 1)(h:Pr p x y):x=y:=by
 obtain⟨d,dz,e⟩:=h;have p1:1<p:=by have:=hp.lo;omega
 have rs:(tri x).map (λx=>x%p)=((tri y).map λx=>d*x).map (λx=>x%p):=by
  simp only[tri,Ba,Im];rw[show x.1%p=d*y.1%p from e.1,show x.2.1%p=d*y.2.1%p from e.2.1,show x.2.2%p=d*y.2.2%p from e.2.2]
 have el:=LS hp dz (f:=λx=>d*x) (λ_=>rfl) (tri y)
 rw[ly,<-Nu rs,lx,Hg,Ci,EM]at el;have o:Cg p d 1:=by
  show d%p=1%p;rw[<-el,AT (by decide) p1]
 have q:=e.trans ((CgR.sc o CgR.rfl).trans (CgR.of (Lc y)));have same:∀{u v:Ad},(0<=u/\u<p)->(0<=v/\v<p)->Cg p u v->u=v:=λhu hv huv=>by
  have:=show _%p=_%p from huv
  rwa [AT hu.1 hu.2,AT hv.1 hv.2]at this
 exact De (same ix.1 iy.1 q.1) (De (same ix.2.1 iy.2.1 q.2.1) (same ix.2.2 iy.2.2 q.2.2))
structure Led (p:Ad) (a b c f0 f1 f2 f3 g0 g1 g2 g3:R3):Prop where
 h0:Pr p g0 (ap a b c f0)
 h1:Pr p g1 (ap a b c f1)
 h2:Pr p g2 (ap a b c f2)
 h3:Pr p g3 (ap a b c f3)
section
variable{p:Ad}{a b c a' b' c' f0 f1 f2 f3 g0 g1 g2 g3 h0 h1 h2 h3:R3}
end
section
variable{U:Gam}{ns:Ac Ad}{p:Ad}
theorem gS(hp:P4 p):GoodR p e0R e1R e2R/\Bs p (X2 e0R e1R e2R)=Ab 1:=by
 obtain⟨i0,i1,i2,i3⟩:=Xu hp;refine⟨⟨hp,i0,i1,i2,(sF hp).1⟩,?_⟩;rcases hp with rfl|rfl|rfl|rfl<;>decide
end
noncomputable def L3(a b c:R3):Ac D:=[Ea a,Ea b,Ea c]
def Ij(i j:Ad):Prop:=(i=0/\j=1)\/(i=0/\j=2)\/(i=1/\j=0)\/(i=1/\j=2)\/(i=2/\j=0)\/(i=2/\j=1)
theorem sQ(hi:m%3=i)(hj:(i+1+m/3%2)%3=j):Ij i j:=by
 have i3:i=0\/i=1\/i=2:=by omega
 have e2:m/3%2=0\/m/3%2=1:=by omega
 rcases i3 with z|z|z<;>rcases e2 with e|e<;>rw[z,e]at hj
 .exact .inl ⟨z,hj.symm⟩
 .exact .inr (.inl ⟨z,hj.symm⟩)
 .exact .inr (.inr (.inr (.inl ⟨z,hj.symm⟩)))
 .exact .inr (.inr (.inl ⟨z,hj.symm⟩))
 .exact .inr (.inr (.inr (.inr (.inl ⟨z,hj.symm⟩))))
 .exact .inr (.inr (.inr (.inr (.inr ⟨z,hj.symm⟩))))
def Jv(U:Gam)(mid:Ag)(ns:Ac Ad):Prop:=∀ k:Ad,0<=k->∃ m,0<=m/\U.F mid [scr ns,.int k]=.ok (.int m)
section
variable{U:Gam}{ns:Ac Ad}{mid:Ag}{p:Ad}{a b c:R3}{s2 s4 s5 s6 s7 s8:Sl}
end
theorem Jf{lo hi:Ad}(h1:-1000<=lo)(h2:lo<=1000)(h3:-1000<=hi)(h4:hi<=1000):Cq lo hi=.ok (Ce lo (hi-lo).toNat):=by
 unfold Cq;rw[Ax (by refine⟨⟨by omega,by omega⟩,⟨by omega,by omega⟩,?_⟩;omega)]
theorem SX(h:1<p):Bs p [0,0,1]=Ab 1:=by
 simp[Bs,AT (by decide:(0:Ad)<=1) h]
theorem qL(h:1<p)(z:Ad):Bs p [0,1,z]=Ab 1:=by
 simp[Bs,AT (by decide:(0:Ad)<=1) h]
theorem UU(h:1<p)(y z:Ad):Bs p [1,y,z]=Ab 1:=by
 simp[Bs,AT (by decide:(0:Ad)<=1) h]
theorem NM{p l:Ad}(hp:P4 p)(el:Bs p (tri r)=Ab l):∃ u,Ig p l u/\In3 p (fmR p u r)/\Bs p (tri (fmR p u r))=Ab 1/\Pr p (fmR p u r) r/\fmI p u (tri r)=tri (fmR p u r):=by
 have p0:=hp.pos;obtain⟨lz,_,_⟩:=LJ p0 el;obtain⟨t,t1,t2,t3⟩:=K9 hp lz;have tz:t%p≠0:=by rw[AT (by omega) t2];omega
 have ff:∀ x,(t*(x%p)%p)%p=t*x%p:=λx=>by rw[BG _ (CU p),BU t (x%p) p,BG _ (CU p),<-BU]
 have lv:=LS hp tz (f:=λx=>t*(x%p)%p) ff (tri r)
 rw[el,Hg,BS,t3]at lv;exact⟨t,⟨t1,t2,t3⟩,sW p0 t r,lv,⟨t,tz,sX p t r⟩,rfl⟩
theorem QO(h:Bs p (tri g)=Af):CgR p g (0,0,0):=by
 have hz:=No.mp h;have k:∀ x∈tri g,Cg p x 0:=λx hx=>by show x%p=0%p;rw[hz x hx,C2]
 exact⟨k _ (by simp[tri]),k _ (by simp[tri]),k _ (by simp[tri])⟩
theorem QV(h:CgR p g (0,0,0)):Bs p (tri g)=Af:=by
 refine No.mpr λx hx=>?_
 have k:∀{x:Ad},Cg p x 0->x%p=0:=λ{x} h=>by rw[show x%p=_ from h,C2]
 simp only[tri,AE,Bp,CQ]at hx;rcases hx with rfl|rfl|rfl
 .exact k h.1
 .exact k h.2.1
 .exact k h.2.2
theorem Kd{p l:Ad}{a b c f g:R3}(hp:P4 p)(z:As a b c%p≠0)(lf:Bs p (tri f)=Ab l)(h:CgR p g (ap a b c f)):∃ l,Bs p (tri g)=Ab l:=by
 cases el:Bs p (tri g) with
 |some l=>exact⟨l,rfl⟩
 |none=>
  have q0:CgR p (ap a b c f) (0,0,0):=h.symm.trans (QO el);have q1:CgR p (B8 (As a b c) f) (0,0,0):=by
   have:=Pi (CgR.rfl (a:=bk0 a b c)) (CgR.rfl (a:=bk1 a b c)) (CgR.rfl (a:=bk2 a b c)) q0;rw[TY]at this;refine this.trans (CgR.of ?_);unfold ap BA;simp
  obtain⟨u,uz,o⟩:=OQ hp z;have q2:CgR p f (0,0,0):=by
   have w:=CgR.sc (k:=u) (k':=u) Cg.rfl q1;rw[OS]at w;refine((CgR.of (Lc f).symm).trans (CgR.sc o.symm CgR.rfl)).trans (w.trans (CgR.of ?_));unfold B8;simp
  rw[QV q2]at lf;cases lf
theorem Mj(x:R3):flD 5 (An Aa x)=Aa/\eqD (An Aa x) (An Aa x)=Aa:=by
 refine⟨rfl,?_⟩;show eqDs (ds [x.1,x.2.1,x.2.2]) (ds [x.1,x.2.1,x.2.2])=Aa;rw[S5]
section
variable{U:Gam}{ns:Ac Ad}{p:Ad}{C:C6}{s3 s4 s5 s6 s7 s8:Sl}
end
section
variable{U:Gam}{ns:Ac Ad}
end
noncomputable def OJ:Df:=⟨3,Ae,(.cons (.ret (.call 17 (.cons (.var 0) (.cons (.call 23 (.cons (.var 1) (.cons (.var 2) .nil))) .nil)))) .nil)⟩
theorem ZZ{a b:R3}(hp:P4 p)(h:CgR p (crs a b) (0,0,0))(la:Bs p (tri a)=Ab 1)(lb:Bs p (tri b)=Ab 1):Pr p b a:=by
 obtain⟨h0,h1,h2⟩:=h;have p1:1<p:=by have:=hp.lo;omega
 have sw:∀{x y:Ad},Cg p (x-y) 0->Cg p x y:=λ{x y} h=>by
  have:=h.add (Cg.rfl (a:=y))
  rwa [U_9,CW]at this
 have e0:Cg p (a.2.1*b.2.2) (a.2.2*b.2.1):=sw h0;have e1:Cg p (a.2.2*b.1) (a.1*b.2.2):=sw h1;have e2:Cg p (a.1*b.2.1) (a.2.1*b.1):=sw h2;have one:∀{x:Ad},x%p=1->Cg p x 1:=λ{x} h=>by show x%p=1%p;rw[h,AT (by decide) p1]
 have fin:∀ k,CgR p b (B8 k a)->Pr p b a:=λk hk=>by
  refine⟨k,λz=>?_,hk⟩
  have:CgR p b (0,0,0):=by
   have kz:Cg p k 0:=by show k%p=0%p;rw[z,C2]
   refine hk.trans ((CgR.sc kz CgR.rfl).trans (CgR.of ?_));unfold B8;simp
  rw[QV this]at lb;cases lb
 unfold tri Bs at la;by_cases z0:a.1%p=0
 .rw[Ax z0]at la;have c0:Cg p a.1 0:=by show a.1%p=0%p;rw[z0,C2]
  unfold Bs at la;by_cases z1:a.2.1%p=0
  .rw[Ax z1]at la;have c1:Cg p a.2.1 0:=by show a.2.1%p=0%p;rw[z1,C2]
   unfold Bs at la;by_cases z2:a.2.2%p=0
   .rw[Ax z2]at la;cases la
   .rw[AF z2,Ci]at la;have c2:=one la;refine fin b.2.2 ⟨?_,?_,?_⟩
    .have:=(c2.symm.mul (Cg.rfl (a:=b.1))).trans e1;rw[CV]at this;exact this.trans (Cg.of (BS _ _))
    .have:=(c2.symm.mul (Cg.rfl (a:=b.2.1))).trans e0.symm;rw[CV]at this;exact this.trans (Cg.of (BS _ _))
    .have:=(Cg.rfl (a:=b.2.2)).mul c2;rw[EM]at this;exact this.symm
  .rw[AF z1,Ci]at la;have c1:=one la;refine fin b.2.1 ⟨?_,?_,?_⟩
   .have:=(c1.symm.mul (Cg.rfl (a:=b.1))).trans e2.symm;rw[CV]at this;exact this.trans (Cg.of (BS _ _))
   .have:=(Cg.rfl (a:=b.2.1)).mul c1;rw[EM]at this;exact this.symm
   .have:=(c1.symm.mul (Cg.rfl (a:=b.2.2))).trans e0;rw[CV]at this;exact this.trans (Cg.of (BS _ _))
 .rw[AF z0,Ci]at la;have c0:=one la;refine fin b.1 ⟨?_,?_,?_⟩
  .have:=(Cg.rfl (a:=b.1)).mul c0;rw[EM]at this;exact this.symm
  .have:=(c0.symm.mul (Cg.rfl (a:=b.2.1))).trans e2;rw[CV]at this;exact this.trans (Cg.of (BS _ _))
  .have:=(c0.symm.mul (Cg.rfl (a:=b.2.2))).trans e1.symm;rw[CV]at this;exact this.trans (Cg.of (BS _ _))
def ON(U:Gam):Prop:=∀(p:Ad)(a b:R3),P4 p->In3 p a->In3 p b->Bs p (tri a)=Ab 1->Bs p (tri b)=Ab 1->a≠b->∃ y,In3 p y/\Bs p (tri y)=Ab 1/\Pr p y (crs a b)/\U.F 57 [.int p,An Aa a,An Aa b]=.ok (An Aa y)
theorem lN(hc:hV U)(hf:R5 U)(p:Ad)(a b:R3)(hp:P4 p)(ia:In3 p a)(ib:In3 p b)(la:Bs p (tri a)=Ab 1)(lb:Bs p (tri b)=Ab 1)(ne:a≠b):∃ y,In3 p y/\Bs p (tri y)=Ab 1/\Pr p y (crs a b)/\OJ.run U [.int p,An Aa a,An Aa b]=.ok (An Aa y):=by
 have e1:=hc a b ((Gm hp ia).b3 (by decide)) ((Gm hp ib).b3 (by decide)) ne
 cases el:Bs p (tri (crs a b)) with
 |none=>exact absurd (RD hp ib ia lb la (ZZ hp (QO el) la lb)).symm ne
 |some l=>
  obtain⟨u,iu,j,l1,pr,ef⟩:=NM hp el;have e2:=hf p Aa _ l u hp el iu;rw[ef]at e2;have e2':U.F 17 [.int p,An Aa (crs a b)]=.ok (An Aa (fmR p u (crs a b))):=e2;refine⟨_,j,l1,pr,?_⟩;generalize An Aa (fmR p u (crs a b))=Y_ at *;simp[OJ,Df.run,BZ,e1,e2']
theorem L9{k x:Ad}(hp:P4 p)(kz:k%p≠0):k*x%p=0↔x%p=0:=by
 constructor
 .intro z;exact Classical.byContradiction λn=>DJ hp kz n z
 .intro z;rw[BU,z,FI,C2]
theorem qU(hp:P4 p)(hx:Pr p x x')(hy:Pr p y y'):(BA x y%p=0)↔(BA x' y'%p=0):=by
 obtain⟨d,dz,e⟩:=hx;obtain⟨d',dz',e'⟩:=hy;have q:Cg p (BA x y) (d*d'*BA x' y'):=(Hx e e').trans (Cg.of (by unfold BA B8;simp only;grind))
 rw[show BA x y%p=_ from q]
 exact L9 hp (DJ hp dz dz')
section
variable{U:Gam}{ns:Ac Ad}{p:Ad}{C:C6}{s3 s4 s5 s6 s7 s8:Sl}
end
def NF(p:Ad)(x:R3):Prop:=In3 p x/\Bs p (tri x)=Ab 1
noncomputable def ptI(p n:Ad):R3:=if n=0 then (0,0,1) else if n<=p then (0,1,n-1) else (1,(n-p-1)/p,(n-p-1)%p)
noncomputable def Ch(p:Ad):Ac R3:=(AS (p*p+p+1).toNat).map fun(n:Ag)=>ptI p n
theorem rZ{n:Ad}(hp:P4 p)(h0:0<=n)(h1:n<p*p+p+1):NF p (ptI p n):=by
 have p1:1<p:=by have:=hp.lo;omega
 have p0:=hp.pos;unfold ptI;by_cases z:n=0
 .rw[Ax z];exact⟨⟨⟨by decide,p0⟩,⟨by decide,p0⟩,⟨by decide,p1⟩⟩,SX p1⟩
 .rw[AF z];by_cases z1:n<=p
  .rw[Ax z1];exact⟨⟨⟨Hm 0,p0⟩,⟨(by decide:(0:Ad)<=1),p1⟩,⟨by show 0<=n-1;omega,by show n-1<p;omega⟩⟩,qL p1 _⟩
  .rw[AF z1];have d0:0<=(n-p-1)/p:=Int.ediv_nonneg (by omega) (by omega)
   have d1:(n-p-1)/p<p:=by rw[Int.ediv_lt_iff_lt_mul p0];omega
   exact⟨⟨⟨(by decide:(0:Ad)<=1),p1⟩,⟨d0,d1⟩,⟨Bg _ (by omega),Bc _ p0⟩⟩,UU p1 _ _⟩
theorem qY(hp:P4 p)(h:NF p x):∃ n:Ad,0<=n/\n<p*p+p+1/\x=ptI p n:=by
 obtain⟨⟨i0,i1,i2⟩,l⟩:=h;have p1:1<p:=by have:=hp.lo;omega
 have p0:=hp.pos;have pp:=IT p0 p0;obtain⟨x0,x1,x2⟩:=x;simp only at i0 i1 i2;unfold tri Bs at l;simp only at l;rw[AT i0.1 i0.2]at l;by_cases z0:x0=0
 .rw[Ax z0]at l;unfold Bs at l;rw[AT i1.1 i1.2]at l;by_cases z1:x1=0
  .rw[Ax z1]at l;unfold Bs at l;rw[AT i2.1 i2.2]at l;by_cases z2:x2=0
   .rw[Ax z2]at l;cases l
   .rw[AF z2,Ci]at l;exact⟨0,Hm 0,by omega,by rw[z0,z1,l];rfl⟩
  .rw[AF z1,Ci]at l;refine⟨x2+1,by omega,by omega,?_⟩
   unfold ptI;rw[AF (by omega),Ax (by omega),z0,l,Int.add_sub_cancel]
 .rw[AF z0,Ci]at l;have m1:p*x1<=p*(p-1):=Int.mul_le_mul_of_nonneg_left (by omega) (by omega)
  have m0:0<=p*x1:=U_6 (by omega) i1.1
  rw[U_7,EM]at m1;refine⟨p+1+p*x1+x2,by omega,by omega,?_⟩
  unfold ptI;have e:p+1+p*x1+x2-p-1=x2+p*x1:=by omega
  rw[AF (by omega),AF (by omega),e,Int.add_mul_ediv_left _ _ (by omega),Int.ediv_eq_zero_of_lt i2.1 i2.2,Int.add_mul_emod_self_left,AT i2.1 i2.2,CW,l]
theorem Jj(hp:P4 p):x∈Ch p↔NF p x:=by
 have p0:=hp.pos;have pp:=IT p0 p0;constructor
 .intro h;obtain⟨n,hn,rfl⟩:=Br.mp h;have:=A4.mp hn;exact rZ hp (by omega) (by omega)
 .intro h;obtain⟨n,n0,n1,rfl⟩:=qY hp h;refine Br.mpr ⟨n.toNat,A4.mpr (by omega),?_⟩
  rw[Vb n0]
theorem QF{α β:Type}{f:α->β}:∀{l:Ac α},l.Nodup->(∀ x∈l,∀ y∈l,f x=f y->x=y)->(l.map f).Nodup
 |[],_,_=>HC
 |x::l,nd,h=>by
  obtain⟨n1,n2⟩:=EZ.mp nd;rw[Ba,List.nodup_cons];refine⟨λm=>?_,QF n2 λy hy z hz=>h y (Au _ hy) z (Au _ hz)⟩
  obtain⟨y,hy,e⟩:=Br.mp m;have:=h y (Au _ hy) x Aw e;exact n1 (this ▸ hy)
noncomputable def nrm(p:Ad)(r:R3):R3:=open Classical in if h:∃ y,NF p y/\Pr p y r then U_4 h else r
theorem J3{p l:Ad}(hp:P4 p)(el:Bs p (tri r)=Ab l):NF p (nrm p r)/\Pr p (nrm p r) r:=by
 have h:∃ y,NF p y/\Pr p y r:=by
  obtain⟨u,iu,j,l1,pr,_⟩:=NM hp el;exact⟨_,⟨j,l1⟩,pr⟩
 unfold nrm;rw[dif_pos h];exact DA h
theorem QL{a b c x:R3}(hp:P4 p)(z:As a b c%p≠0)(hx:NF p x):NF p (nrm p (ap a b c x))/\Pr p (nrm p (ap a b c x)) (ap a b c x):=by
 obtain⟨l,el⟩:=Kd hp z hx.2 CgR.rfl;exact J3 hp el
theorem Ma(hp:P4 p)(hx:NF p x)(hy:NF p y)(h:Pr p x y):x=y:=RD hp hx.1 hy.1 hx.2 hy.2 h
theorem Qh{a b c x:R3}(hp:P4 p)(z:As a b c%p≠0)(hx:NF p x):nrm p (ap (bk0 a b c) (bk1 a b c) (bk2 a b c) (nrm p (ap a b c x)))=x:=by
 obtain⟨h1,h2⟩:=QL hp z hx;have zB:As (bk0 a b c) (bk1 a b c) (bk2 a b c)%p≠0:=by rw[nH];exact DJ hp z z
 obtain⟨h3,h4⟩:=QL hp zB h1;refine Ma hp h3 hx (h4.trans hp ((Pr.ap h2).trans hp ?_));rw[TY];exact⟨_,z,CgR.rfl⟩
noncomputable def q4(w:Ag)(k:Ad)(y:R3):Ad:=match w with
  |0=>y.1*y.2.2-y.2.1*y.2.1
  |1=>y.1*y.1
  |2=>y.1*y.2.1
  |_=>y.1*y.1-k*(y.2.1*y.2.1)
noncomputable def At(pts:Ac R3):D:=.lst (pts.map (An Aa))
theorem Qo{g:D->R Ai}{f:D->R D}{q:R3->Ai}:∀(xs:Ac R3),(∀ x∈xs,g (An Aa x)=.ok (q x)/\f (An Aa x)=.ok (An Aa x))->BN g f (xs.map (An Aa))=.ok ((xs.filter q).map (An Aa))
 |[],_=>rfl
 |x::xs,h=>by
  obtain⟨h1,h2⟩:=h x (Aw ..);have ih:=Qo xs λy hy=>h y (Au _ hy)
  show (g (An Aa x)).bind _=_;rw[h1,R.bind_ok,C3];cases hq:q x with
  |true=>
   rw[Ax rfl,Ax rfl,h2,R.bind_ok,show BN g f (IX (An Aa) xs)=_ from ih]
   rfl
  |false=>
   rw[AF (by decide),AF (by decide)]
   exact ih
noncomputable def Yg:Ss:=(.cons (.app 1 (.tup (.cons (.int 0) (.cons (.int 1) (.cons (.var 2) .nil))))) .nil)
noncomputable def Yh:E:=(.tup (.cons (.int 1) (.cons (.var 3) (.cons (.var 4) .nil))))
noncomputable def Ye:Ss:=(.cons (.ext 1 (.comp Yh 4 (.rng (.var 0)) DK)) .nil)
noncomputable def Qp:Df:=⟨5,Aa,(.cons (.asg 1 Aa (.lst (.cons (.tup (.cons (.int 0) (.cons (.int 0) (.cons (.int 1) .nil)))) .nil))) (.cons (.fors 2 (.rng (.var 0)) Yg) (.cons (.fors 3 (.rng (.var 0)) Ye) (.cons (.ret (.var 1)) .nil))))⟩
theorem rP(U:Gam)(p:Ad)(hp:P4 p):Qp.run U [.int p]=.ok (At (Ch p)):=by
 rcases hp with rfl|rfl|rfl|rfl<;>kernel_rfl!
section
variable{U:Gam}{p i j k d N:Ad}{PP x y u:D}{RL:Ac D}{s t s' t' v:Sl}
end
section
variable{U:Gam}{p:Ad}{pts:Ac R3}
end
theorem bW(h:tri x=tri y):x=y:=by
 obtain⟨x0,x1,x2⟩:=x;obtain⟨y0,y1,y2⟩:=y;unfold tri at h;simp at h;obtain⟨rfl,rfl,rfl⟩:=h;rfl
theorem nZ(k l:Ad)(a b:R3):crs (B8 k a) (B8 l b)=B8 (k*l) (crs a b):=by
 unfold crs B8;simp only;refine De ?_ (De ?_ ?_)<;>(simp only;grind)
theorem Pr.crs{a b a' b':R3}(hp:P4 p)(h:Pr p a a')(g:Pr p b b'):Pr p (OvC.crs a b) (OvC.crs a' b'):=by
 obtain⟨d,dz,e⟩:=h;obtain⟨d',dz',e'⟩:=g;exact⟨d*d',DJ hp dz dz',(oA e e').trans (CgR.of (nZ ..))⟩
noncomputable def OI:Df:=⟨3,Ae,(.cons (.ret (.cmp .Eq (.call 1 (.cons (.var 0) (.cons (.bin .Add (.bin .Add (.bin .Mult (.idx (.var 1) (.int 0)) (.idx (.var 2) (.int 0))) (.bin .Mult (.idx (.var 1) (.int 1)) (.idx (.var 2) (.int 1)))) (.bin .Mult (.idx (.var 1) (.int 2)) (.idx (.var 2) (.int 2)))) .nil))) (.int 0))) .nil)⟩
def Tk(U:Gam):Prop:=∀(p:Ad)(x y:R3),P4 p->In3 p x->In3 p y->U.F 24 [.int p,An Aa x,An Aa y]=.ok (.bl (decide (BA x y%p=0)))
theorem lM(hr:Kj U)(p:Ad)(x y:R3)(hp:P4 p)(ix:In3 p x)(iy:In3 p y):OI.run U [.int p,An Aa x,An Aa y]=.ok (.bl (decide (BA x y%p=0))):=by
 have p0:=hp.pos;have bx:=Gm hp ix;have by_:=Gm hp iy;have k:∀ {u v},Bd 10 u->Bd 10 v->GB u v=Aa:=λhu hv=>Kh hu hv (by decide) (by decide)
 have k0:=k bx.1 by_.1;have k1:=k bx.2.1 by_.2.1;have k2:=k bx.2.2 by_.2.2;obtain⟨x0,x1,x2⟩:=G3 Aa x;obtain⟨y0,y1,y2⟩:=G3 Aa y;have e:=hr p (BA x y) p0;unfold BA at *;generalize x.1=a0 at *;generalize x.2.1=a1 at *;generalize x.2.2=a2 at *;generalize y.1=b0 at *;generalize y.2.1=b1 at *;generalize y.2.2=b2 at *;generalize An Aa x=xx at *;generalize An Aa y=yy at *;generalize hs:(a0*b0+a1*b1+a2*b2)%p=s at *;simp[OI,Df.run,BZ,x0,x1,x2,y0,y1,y2,k0,k1,k2,e];rw[Cp];simp
noncomputable def PB:Df:=⟨3,Ae,(.cons (.ret (.call 24 (.cons (.var 0) (.cons (.var 1) (.cons (.var 2) .nil))))) .nil)⟩
def OM(U:Gam):Prop:=∀(p:Ad)(x y:R3),P4 p->In3 p x->In3 p y->U.F 56 [.int p,An Aa x,An Aa y]=.ok (.bl (decide (BA x y%p=0)))
theorem iX(h:Tk U)(p:Ad)(x y:R3)(hp:P4 p)(ix:In3 p x)(iy:In3 p y):PB.run U [.int p,An Aa x,An Aa y]=.ok (.bl (decide (BA x y%p=0))):=by
 have e:=h p x y hp ix iy;generalize An Aa x=xx at *;generalize An Aa y=yy at *;simp[PB,Df.run,BZ,e]
noncomputable abbrev Whl(p:Ad)(C:C6):Prop:=As (tw0 C) (tw1 C) (tw2 C)%p≠0
noncomputable def b4(u v:R3):Ad:=u.1*v.2.2+u.2.2*v.1-2*(u.2.1*v.2.1)
section
variable{p:Ad}{a b c:R3}{C:C6}
end
noncomputable def Lu:Df:=⟨2,Ae,(.cons (.asg 1 Ae (.bin .Mod (.var 1) (.bin .Add (.bin .Add (.bin .Mult (.var 0) (.var 0)) (.var 0)) (.int 1)))) (.cons (.ife (.cmp .Eq (.var 1) (.int 0)) (.cons (.ret (.tup (.cons (.int 0) (.cons (.int 0) (.cons (.int 1) .nil))))) .nil) .nil) (.cons (.ife (.cmp .LtE (.var 1) (.var 0)) (.cons (.ret (.tup (.cons (.int 0) (.cons (.int 1) (.cons (.bin .Sub (.var 1) (.int 1)) .nil))))) .nil) .nil) (.cons (.ret (.tup (.cons (.int 1) (.cons (.bin .FloorDiv (.bin .Sub (.bin .Sub (.var 1) (.var 0)) (.int 1)) (.var 0)) (.cons (.bin .Mod (.bin .Sub (.bin .Sub (.var 1) (.var 0)) (.int 1)) (.var 0)) .nil))))) .nil))))⟩
theorem pN{n:Ad}(hp:P4 p):0<p*p+p+1/\0<=n%(p*p+p+1)/\n%(p*p+p+1)<p*p+p+1:=by
 have p0:=hp.pos;have N0:0<p*p+p+1:=by have:=IT p0 p0;omega
 exact⟨N0,Bg n (U_8 N0),Bc n N0⟩
theorem iV(U:Gam)(p n:Ad)(hp:P4 p):Lu.run U [.int p,.int n]=.ok (An Aa (ptI p (n%(p*p+p+1)))):=by
 have pp:DL p p=Aa:=Hu (by have:=hp.lo;omega) (by have:=hp.hi;omega)
 have p0:=hp.pos;have ph:=hp.hi;obtain⟨N0,h0,h1⟩:=pN (n:=n) hp;have pb:p<1073741824:=by omega
 generalize hr:n%(p*p+p+1)=r at *;unfold ptI;by_cases z0:r=0
 .rw[Ax z0];simp[Lu,Df.run,BZ,pp,N0,hr,z0];rfl
 .rw[AF z0];by_cases z1:r<=p
  .rw[Ax z1];simp[Lu,Df.run,BZ,pp,N0,hr,z0,z1];rfl
  .rw[AF z1];simp[Lu,Df.run,BZ,pp,N0,hr,z0,z1,p0,pb];rfl
theorem OX(C:C6)(a b c x:R3):vI (pb C a b c) x=vI C (ap a b c x):=by
 have e:ap a b c x=(x.1*(Dq a b c).1+x.2.1*(Dj a b c).1+x.2.2*(Di a b c).1,x.1*(Dq a b c).2.1+x.2.1*(Dj a b c).2.1+x.2.2*(Di a b c).2.1,x.1*(Dq a b c).2.2+x.2.1*(Dj a b c).2.2+x.2.2*(Di a b c).2.2):=by
  unfold ap BA Dq Dj Di;simp only;refine De ?_ (De ?_ ?_)<;>(simp only;grind)
 rw[e,S8];have e2:∀(u0 u1 u2 u3 u4 u5:Ad),vI ⟨u0,u1,u2,u3,u4,u5⟩ x=x.1*x.1*u0+x.2.1*x.2.1*u1+x.2.2*x.2.2*u2+(x.1*x.2.1*u3+x.1*x.2.2*u4+x.2.1*x.2.2*u5):=λu0 u1 u2 u3 u4 u5=>by
  unfold vI;simp only;grind
 exact e2 ..
theorem S9(C:C6)(k:Ad)(x:R3):vI C (B8 k x)=k*k*vI C x:=by
 unfold vI B8;simp only;grind
theorem OW(hp:P4 p)(h:Pr p x y):vI C x%p=0↔vI C y%p=0:=by
 obtain⟨d,dz,e⟩:=h;have q:=(Mk (D:=C) ⟨Cg.rfl,Cg.rfl,Cg.rfl,Cg.rfl,Cg.rfl,Cg.rfl⟩ e).trans (Cg.of (S9 C d y));rw[show vI C x%p=_ from q]
 exact L9 hp (DJ hp dz dz)
section
variable{p:Ad}{a b c:R3}{C:C6}
end
theorem QK(l:Ac R3):biD .len [At l]=.ok (.int (l.length:Ad)):=by
 show R.ok (D.int ((l.map (An Aa)).length:Ag))=_;rw[Bl]
noncomputable def X1(p:Ad)(C:C6)(l:R3):R3:=nrm p (ap (bk0 (tw0 C) (tw1 C) (tw2 C)) (bk1 (tw0 C) (tw1 C) (tw2 C)) (bk2 (tw0 C) (tw1 C) (tw2 C)) l)
structure FOn (p:Ad) (C:C6) (A B P U_:R3):Prop where
 vA:vI C A%p=0
 vB:vI C B%p=0
 vU:vI C U_%p=0
 bA:bI C A P%p=0
 bB:bI C B P%p=0
theorem oB(A B P x:R3):B8 (As A B P) x=(As x B P*A.1+As A x P*B.1+As A B x*P.1,As x B P*A.2.1+As A x P*B.2.1+As A B x*P.2.1,As x B P*A.2.2+As A x P*B.2.2+As A B x*P.2.2):=by
 unfold B8 As det;refine De ?_ (De ?_ ?_)<;>(simp only;grind)
section
variable{p:Ad}{C R:C6}{A B P U_ x:R3}
theorem cg0{k x:Ad}(h:x%p=0):Cg p (k*x) 0:=by
 show k*x%p=0%p;rw[BU,h,FI]
theorem RJ(h:FOn p C A B P U_)(x:R3):Cg p (As A B P*As A B P*vI C x) (As A B x*As A B x*vI C P+As x B P*As A x P*bI C A B):=by
 have e:=S8 C A B P (As x B P) (As A x P) (As A B x);rw[<-oB,S9]at e;rw[e];generalize As x B P=α;generalize As A x P=β;generalize As A B x=γ;have k1:Cg p (α*α*vI C A) 0:=cg0 h.vA;have k2:Cg p (β*β*vI C B) 0:=cg0 h.vB;have k3:Cg p (α*γ*bI C A P) 0:=cg0 h.bA;have k4:Cg p (β*γ*bI C B P) 0:=cg0 h.bB;refine(((k1.add k2).add Cg.rfl).add ((Cg.rfl.add k3).add k4)).trans (Cg.of ?_);grind
theorem OU(h:FOn p C A B P U_)(x:R3):Cg p (As A B U_*As A B U_*(As A B P*As A B P*vI C x)) (bI C A B*(As A B U_*As A B U_*(As x B P*As A x P)-As A B x*As A B x*(As U_ B P*As A U_ P))):=by
 have e1:=RJ h x;have e2:=RJ h U_;have e0:Cg p (As A B P*As A B P*vI C U_) 0:=cg0 h.vU;have e3:Cg p (As A B U_*As A B U_*vI C P+As U_ B P*As A U_ P*bI C A B) 0:=e2.symm.trans e0;generalize As A B P=D at *;generalize As x B P=α at *;generalize As A x P=β at *;generalize As A B x=γ at *;generalize As U_ B P=α0 at *;generalize As A U_ P=β0 at *;generalize As A B U_=γ0 at *;generalize bI C A B=b at *;generalize vI C P=v at *;generalize vI C x=vx at *;have e4:Cg p (γ0*γ0*(D*D*vx)) (γ0*γ0*(γ*γ*v+α*β*b)):=Cg.rfl.mul e1;have e5:Cg p (γ*γ*(γ0*γ0*v+α0*β0*b)) (γ*γ*0):=Cg.rfl.mul e3;refine e4.trans ?_;have e6:γ0*γ0*(γ*γ*v+α*β*b)=γ*γ*(γ0*γ0*v+α0*β0*b)+b*(γ0*γ0*(α*β)-γ*γ*(α0*β0)):=by grind
 rw[e6];refine(e5.add Cg.rfl).trans (Cg.of ?_);grind
theorem Sk{k x y:Ad}(hp:P4 p)(kz:k%p≠0)(h:Cg p (k*x) (k*y)):Cg p x y:=by
 have e:k*(x-y)%p=0:=by
  have q:=h.sub (Cg.rfl (p:=p) (a:=k*y));have q2:(k*x-k*y)%p=(k*y-k*y)%p:=q;rw[Int.sub_self,C2,<-U_7]at q2;exact q2
 have z:=(L9 hp kz).mp e;have q3:=Cg.add (p:=p) (a:=x-y) (b:=0) (c:=y) (d:=y) (by show (x-y)%p=0%p;rw[z,C2]) Cg.rfl
 have q4:Cg p (x-y+y) (0+y):=q3;rw[U_9,CW]at q4;exact q4
theorem gW(hp:P4 p)(d1:As A B P%p≠0)(d2:As A B U_%p≠0)(hC:FOn p C A B P U_)(hR:FOn p R A B P U_)(x:R3):Cg p (bI C A B*vI R x) (bI R A B*vI C x):=by
 have e1:=OU hC x;have e2:=OU hR x;generalize (As A B U_*As A B U_*(As x B P*As A x P)-As A B x*As A B x*(As U_ B P*As A U_ P))=F at *;refine Sk hp (k:=As A B U_*As A B U_*(As A B P*As A B P)) (DJ hp (DJ hp d2 d2) (DJ hp d1 d1)) ?_;generalize As A B U_=γ at *;generalize As A B P=D at *;generalize bI C A B=b at *;generalize bI R A B=r at *;have f1:Cg p (b*(γ*γ*(D*D*vI R x))) (b*(r*F)):=Cg.rfl.mul e2;have f2:Cg p (r*(γ*γ*(D*D*vI C x))) (r*(b*F)):=Cg.rfl.mul e1;refine(Cg.of (by grind)).trans (f1.trans ((Cg.of (by grind:b*(r*F)=r*(b*F))).trans (f2.symm.trans (Cg.of (by grind)))))
theorem Sn{k l:Ad}(h:∀ x,Cg p (k*vI R x) (l*vI C x)):CgC p (scC k R) (scC l C):=by
 have a0:=h (1,0,0);have a1:=h (0,1,0);have a2:=h (0,0,1);have b0:=h (1,1,0);have b1:=h (1,0,1);have b2:=h (0,1,1);have v0:∀ E:C6,vI E (1,0,0)=E.c0:=λE=>by unfold vI;simp
 have v1:∀ E:C6,vI E (0,1,0)=E.c1:=λE=>by unfold vI;simp
 have v2:∀ E:C6,vI E (0,0,1)=E.c2:=λE=>by unfold vI;simp
 have w0:∀ E:C6,vI E (1,1,0)=E.c0+E.c1+E.c3:=λE=>by unfold vI;simp
 have w1:∀ E:C6,vI E (1,0,1)=E.c0+E.c2+E.c4:=λE=>by unfold vI;simp
 have w2:∀ E:C6,vI E (0,1,1)=E.c1+E.c2+E.c5:=λE=>by unfold vI;simp
 rw[v0,v0]at a0;rw[v1,v1]at a1;rw[v2,v2]at a2;rw[w0,w0]at b0;rw[w1,w1]at b1;rw[w2,w2]at b2;refine⟨a0,a1,a2,?_,?_,?_⟩
 .have:=(b0.sub a0).sub a1;refine(Cg.of ?_).trans (this.trans (Cg.of ?_))<;>(unfold scC;simp only;grind)
 .have:=(b1.sub a0).sub a2;refine(Cg.of ?_).trans (this.trans (Cg.of ?_))<;>(unfold scC;simp only;grind)
 .have:=(b2.sub a1).sub a2;refine(Cg.of ?_).trans (this.trans (Cg.of ?_))<;>(unfold scC;simp only;grind)
theorem UF(hp:P4 p)(w:Whl p C)(d1:As A B P%p≠0)(d2:As A B U_%p≠0)(hC:FOn p C A B P U_):bI C A B%p≠0:=λz=>by
 refine w ?_;have v0:∀ x,Cg p (1*vI C x) (0*vI C x):=λx=>by
  rw[CV,Vc];refine Sk hp (k:=As A B U_*As A B U_*(As A B P*As A B P)) (DJ hp (DJ hp d2 d2) (DJ hp d1 d1)) ?_;have e1:=OU hC x;refine(Cg.of (by grind)).trans (e1.trans ?_)
  rw[FI];show _%p=0%p;rw[BU,z,Vc]
 have c:=Sn v0;rw[L4]at c;obtain⟨t0,t1,t2⟩:=Tn c;have e:=Sf t0 t1 t2;rw[fV]at e;show As (tw0 C) (tw1 C) (tw2 C)%p=0;rw[show As (tw0 C) (tw1 C) (tw2 C)%p=_ from e]
 simp
theorem ZM(hp:P4 p)(wC:Whl p C)(wR:Whl p R)(d1:As A B P%p≠0)(d2:As A B U_%p≠0)(hC:FOn p C A B P U_)(hR:FOn p R A B P U_):PrC p R C:=by
 have b1:=UF hp wC d1 d2 hC;have b2:=UF hp wR d1 d2 hR;obtain⟨u,uz,ue⟩:=OQ hp b1;refine⟨u*bI R A B,DJ hp uz b2,?_⟩;have c:=Sn (gW hp d1 d2 hC hR);have e1:CgC p (scC u (scC (bI C A B) R)) (scC u (scC (bI R A B) C)):=CgC.sc Cg.rfl c;rw[Me,Me]at e1;have e2:CgC p (scC (u*bI C A B) R) (scC 1 R):=CgC.sc ue CgC.rfl;rw[L4]at e2;exact e2.symm.trans e1
end
section
variable{p:Ad}{C E:C6}{a b c A B P U_ A' B' P' U_' x y:R3}
theorem T7(C:C6)(a b c x y:R3):bI (pb C a b c) x y=bI C (ap a b c x) (ap a b c y):=by
 have e:∀ u:R3,ap a b c u=(u.1*(Dq a b c).1+u.2.1*(Dj a b c).1+u.2.2*(Di a b c).1,u.1*(Dq a b c).2.1+u.2.1*(Dj a b c).2.1+u.2.2*(Di a b c).2.1,u.1*(Dq a b c).2.2+u.2.1*(Dj a b c).2.2+u.2.2*(Di a b c).2.2):=λu=>by
  unfold ap BA Dq Dj Di;simp only;refine De ?_ (De ?_ ?_)<;>(simp only;grind)
 rw[e x,e y,Xz];rfl
theorem nI(C:C6)(k l:Ad)(x y:R3):bI C (B8 k x) (B8 l y)=k*l*bI C x y:=by
 unfold bI ap BA B8;simp only;grind
theorem T6(hp:P4 p)(h:Pr p x x')(g:Pr p y y'):bI C x y%p=0↔bI C x' y'%p=0:=by
 obtain⟨d,dz,e⟩:=h;obtain⟨d',dz',e'⟩:=g;have q:=(MD (CgC.rfl (C:=C)) e e').trans (Cg.of (nI C d d' x' y'));rw[show bI C x y%p=_ from q]
 exact L9 hp (DJ hp dz dz')
theorem nJ(hp:P4 p)(h:FOn p E A' B' P' U_')(hA:Pr p A' (ap a b c A))(hB:Pr p B' (ap a b c B))(hP:Pr p P' (ap a b c P))(hU:Pr p U_' (ap a b c U_)):FOn p (pb E a b c) A B P U_:=
 ⟨by rw[OX];exact(OW hp hA).mp h.vA,by rw[OX];exact(OW hp hB).mp h.vB,by rw[OX];exact(OW hp hU).mp h.vU,by rw[T7];exact(T6 hp hA hP).mp h.bA,by rw[T7];exact(T6 hp hB hP).mp h.bB⟩
theorem iA(hp:P4 p)(z:As a b c%p≠0)(w:Whl p E):Whl p (pb E a b c):=by
 show As _ _ _%p≠0;rw[nW];exact DJ hp (DJ hp z z) w
theorem YE(hp:P4 p)(z:As a b c%p≠0)(wC:Whl p C)(wE:Whl p E)(d1:As A B P%p≠0)(d2:As A B U_%p≠0)(hC:FOn p C A B P U_)(hE:FOn p E A' B' P' U_')(hA:Pr p A' (ap a b c A))(hB:Pr p B' (ap a b c B))(hP:Pr p P' (ap a b c P))(hU:Pr p U_' (ap a b c U_)):PrC p (pb E a b c) C:=
 ZM hp wC (iA hp z wE) d1 d2 hC (nJ hp hE hA hB hP hU)
end
noncomputable def Lx:Df:=⟨3,Ae,(.cons (.asg 2 Ae (.int 0)) (.cons (.ife (.cmp .Gt (.bi .len (.cons (.var 0) .nil)) (.int 0)) (.cons (.asg 2 Ae (.idx (.var 0) (.bin .Mod (.var 1) (.bi .len (.cons (.var 0) .nil))))) .nil) .nil) (.cons (.ret (.bin .Mod (.bin .Mult (.bin .Add (.bin .Add (.bin .Mod (.var 2) (.int 1000003)) (.bin .Mult (.int 7919) (.var 1))) (.int 11)) (.int 48271)) (.int 1000033))) .nil)))⟩
theorem iY(U:Gam)(ns:Ac Ad)(k:Ad)(h0:0<=k):∃ m,0<=m/\Lx.run U [scr ns,.int k]=.ok (.int m):=by
 have m1:DL 7919 k=Aa:=Hu (by decide) (by decide)
 have m2:∀ x,DL x 48271=Aa:=λx=>Od (by decide) (by decide)
 have ln:biD .len [scr ns]=.ok (.int ns.length):=by simp[scr]
 by_cases h1:0<(ns.length:Ad)
 .have q0:=Bg k (b:=(ns.length:Ad)) (by omega)
  have q1:=Bc k h1;have g:Ec (scr ns) (.int (k%(ns.length:Ad)))=.ok (.int (ns.getD (k%(ns.length:Ad)).toNat 0)):=fD (ns:=ns) q0 q1;generalize ns.getD (k%(ns.length:Ad)).toNat 0=x at g;refine⟨(x%1000003+7919*k+11)*48271%1000033,Bg _ (by decide),?_⟩
  generalize scr ns=S at *;generalize (ns.length:Ad)=N at *;simp[Lx,Df.run,BZ,ln,h1,g,m1,m2]
 .refine⟨(0%1000003+7919*k+11)*48271%1000033,Bg _ (by decide),?_⟩
  generalize scr ns=S at *;generalize (ns.length:Ad)=N at *;simp[Lx,Df.run,BZ,ln,h1,m1,m2]
noncomputable def M0:Df:=⟨1,Ae,(.cons (.ret (.idx (.lst (.cons (.int 3) (.cons (.int 5) (.cons (.int 7) (.cons (.int 5) (.cons (.int 7) (.cons (.int 11) .nil))))))) (.bin .Mod (.call 228 (.cons (.var 0) (.cons (.int 0) .nil))) (.int 6)))) .nil)⟩
theorem eC(h:Jv U 228 ns):∃ p,P4 p/\M0.run U [scr ns]=.ok (.int p):=by
 obtain⟨m,m0,e⟩:=h 0 (by decide)
 have q:m%6=0\/m%6=1\/m%6=2\/m%6=3\/m%6=4\/m%6=5:=by omega
 have g:∃ p,P4 p/\CN [.int 3,.int 5,.int 7,.int 5,.int 7,.int 11] (m%6)=.ok (.int p):=by
  rcases q with z|z|z|z|z|z<;>rw[z]
  .exact⟨3,.inl rfl,rfl⟩
  .exact⟨5,.inr (.inl rfl),rfl⟩
  .exact⟨7,.inr (.inr (.inl rfl)),rfl⟩
  .exact⟨5,.inr (.inl rfl),rfl⟩
  .exact⟨7,.inr (.inr (.inl rfl)),rfl⟩
  .exact⟨11,.inr (.inr (.inr rfl)),rfl⟩
 obtain⟨p,hp,g⟩:=g;refine⟨p,hp,?_⟩;simp[M0,Df.run,BZ,e,g]
def R6(U:Gam):Prop:=∀(p:Ad)(b:Ai)(xs:Ac Ad)(l t:Ad),P4 p->Bs p xs=Ab l->Ig p l t->U.F 288 [.int p,Dk b xs]=.ok (.tup (ds (fmI p t xs)))
noncomputable def M4:Df:=⟨6,Ae,(.cons (.asg 3 Ae (.bin .Sub (.bin .Mult (.idx (.var 1) (.int 1)) (.idx (.var 2) (.int 2))) (.bin .Mult (.idx (.var 1) (.int 2)) (.idx (.var 2) (.int 1))))) (.cons (.asg 4 Ae (.bin .Sub (.bin .Mult (.idx (.var 1) (.int 2)) (.idx (.var 2) (.int 0))) (.bin .Mult (.idx (.var 1) (.int 0)) (.idx (.var 2) (.int 2))))) (.cons (.asg 5 Ae (.bin .Sub (.bin .Mult (.idx (.var 1) (.int 0)) (.idx (.var 2) (.int 1))) (.bin .Mult (.idx (.var 1) (.int 1)) (.idx (.var 2) (.int 0))))) (.cons (.ret (.tup (.cons (.bin .Mod (.var 3) (.var 0)) (.cons (.bin .Mod (.var 4) (.var 0)) (.cons (.bin .Mod (.var 5) (.var 0)) .nil))))) .nil))))⟩
def Hv(U:Gam):Prop:=∀(p:Ad)(q q':Ai)(a x:R3),0<p->B3 a->B3 x->U.F 232 [.int p,An q a,An q' x]=.ok (An Aa (mdR p (crs a x)))
theorem ZJ(U:Gam)(p:Ad)(q q':Ai)(a x:R3)(p0:0<p)(ha:B3 a)(hx:B3 x):M4.run U [.int p,An q a,An q' x]=.ok (An Aa (mdR p (crs a x))):=by
 obtain⟨x0,x1,x2⟩:=G3 q a;obtain⟨y0,y1,y2⟩:=G3 q' x;have k:∀ {u v},Bd 300 u->Bd 300 v->GB u v=Aa:=λhu hv=>Kh hu hv (by decide) (by decide)
 simp[M4,Df.run,BZ,x0,x1,x2,y0,y1,y2,k ha.1 hx.1,k ha.1 hx.2.1,k ha.1 hx.2.2,k ha.2.1 hx.1,k ha.2.1 hx.2.1,k ha.2.1 hx.2.2,k ha.2.2 hx.1,k ha.2.2 hx.2.1,k ha.2.2 hx.2.2,p0];rfl
noncomputable def NV:Df:=⟨3,Ae,(.cons (.ret (.bin .Mod (.bin .Add (.bin .Add (.bin .Mult (.idx (.var 1) (.int 0)) (.idx (.var 2) (.int 0))) (.bin .Mult (.idx (.var 1) (.int 1)) (.idx (.var 2) (.int 1)))) (.bin .Mult (.idx (.var 1) (.int 2)) (.idx (.var 2) (.int 2)))) (.var 0))) .nil)⟩
def G1(U:Gam):Prop:=∀(p:Ad)(q q':Ai)(a x:R3),0<p->B3 a->B3 x->U.F 233 [.int p,An q a,An q' x]=.ok (.int (BA a x%p))
theorem ZF(U:Gam)(p:Ad)(q q':Ai)(a x:R3)(p0:0<p)(ha:B3 a)(hx:B3 x):NV.run U [.int p,An q a,An q' x]=.ok (.int (BA a x%p)):=by
 obtain⟨x0,x1,x2⟩:=G3 q a;obtain⟨y0,y1,y2⟩:=G3 q' x;have k:∀ {u v},Bd 300 u->Bd 300 v->GB u v=Aa:=λhu hv=>Kh hu hv (by decide) (by decide)
 simp[NV,Df.run,BZ,x0,x1,x2,y0,y1,y2,k ha.1 hx.1,k ha.2.1 hx.2.1,k ha.2.2 hx.2.2,p0];rfl
noncomputable def Lv:E:=(.call 233 (.cons (.var 0) (.cons (.var 3) (.cons (.var 2) .nil))))
noncomputable def Nl:Df:=⟨4,Ae,(.cons (.ret (.call 288 (.cons (.var 0) (.cons (.comp Lv 3 (.e (.var 1)) DK) .nil)))) .nil)⟩
def Rt(U:Gam):Prop:=∀(p:Ad)(t q q':Ai)(a b c x:R3),GoodR p a b c->B3 x->(∃ l,Bs p (tri x)=Ab l)->U.F 289 [.int p,IK t q a b c,An q' x]=.ok (An Aa (nrm p (ap a b c x)))
theorem ZH(hs:G1 U)(hf:R6 U)(p:Ad)(t q q':Ai)(a b c x:R3)(G:GoodR p a b c)(hx:B3 x)(lx:∃ l,Bs p (tri x)=Ab l):Nl.run U [.int p,IK t q a b c,An q' x]=.ok (An Aa (nrm p (ap a b c x))):=by
 have hp:=G.p4;have p0:=hp.pos;obtain⟨l0,lx⟩:=lx;obtain⟨l,el⟩:=Kd hp G.nz lx CgR.rfl;obtain⟨u,iu,j,l1,pr,ef⟩:=NM hp el;obtain⟨n1,n2⟩:=J3 hp el;have e0:fmR p u (ap a b c x)=nrm p (ap a b c x):=Ma hp ⟨j,l1⟩ n1 (pr.trans hp (n2.symm hp));have md:(tri (mdR p (ap a b c x))).map (λx=>x%p)=(tri (ap a b c x)).map (λx=>x%p):=by
  show [_%p%p,_%p%p,_%p%p]=[_%p,_%p,_%p];simp only[BG _ (CU p)]
 have e:=hf p Ae (tri (mdR p (ap a b c x))) l u hp (by rw[Nu md];exact el) iu
 rw[Zi md,ef,e0]at e;have e':U.F 288 [.int p,.lst [.int (BA a x%p),.int (BA b x%p),.int (BA c x%p)]]=.ok (An Aa (nrm p (ap a b c x))):=e;have b3:∀ {r},In3 p r->B3 r:=λh=>(Gm hp h).b3 (by decide)
 have k:∀ r,In3 p r->cF U [si p,sh (IK t q a b c),sh (An q' x),Af] 3 Lv (An q r)=.ok (.int (BA r x%p)):=λr hr=>by
  have e1:=hs p q q' r x p0 (b3 hr) hx;generalize An q r=rr at *;generalize An q' x=xx at *;simp[cF,Lv,e1]
 have g:∀ d,cG U [si p,sh (IK t q a b c),sh (An q' x),Af] 3 DK d=.ok Aa:=λ_=>rfl
 have cp:BN (cG U [si p,sh (IK t q a b c),sh (An q' x),Af] 3 DK) (cF U [si p,sh (IK t q a b c),sh (An q' x),Af] 3 Lv) [An q a,An q b,An q c]=.ok [.int (BA a x%p),.int (BA b x%p),.int (BA c x%p)]:=by
  simp[BN,g,k a G.ia,k b G.ib,k c G.ic]
 have sq:=XX t q a b c;generalize An Aa (nrm p (ap a b c x))=Y_ at *;generalize An q' x=xx at *;generalize IK t q a b c=TT at *;generalize [An q a,An q b,An q c]=LL at *;simp[Nl,Df.run,BZ,sq,cp,e']
noncomputable def KO:Ss:=(.cons (.app 2 (.call 289 (.cons (.var 0) (.cons (.var 1) (.cons (.tup (.cons (.int 1) (.cons (.var 3) (.cons (.bin .Mult (.var 3) (.var 3)) .nil)))) .nil))))) .nil)
noncomputable def Lz:Df:=⟨4,Ae,(.cons (.asg 2 Aa (.lst (.cons (.call 289 (.cons (.var 0) (.cons (.var 1) (.cons (.tup (.cons (.int 0) (.cons (.int 0) (.cons (.int 1) .nil)))) .nil)))) .nil))) (.cons (.fors 3 (.rng (.var 0)) KO) (.cons (.ret (.var 2)) .nil)))⟩
noncomputable def D8(p:Ad):Ac R3:=(0,0,1)::(AS p.toNat).map fun(t:Ag)=>((1:Ad),(t:Ad),(t:Ad)*(t:Ad))
theorem K5(hp:P4 p)(hx:x∈D8 p):B3 x/\∃ l,Bs p (tri x)=Ab l:=by
 have p1:1<p:=by have:=hp.lo;omega
 have ph:=hp.hi;rcases AE.mp hx with rfl|hx
 .exact⟨(Gm hp (a:=(0,0,1)) ⟨⟨Hm 0,hp.pos⟩,⟨Hm 0,hp.pos⟩,⟨(by decide:(0:Ad)<=1),p1⟩⟩).b3 (by decide),1,SX p1⟩
 .obtain⟨t,ht,rfl⟩:=Br.mp hx;have ht:=A4.mp ht;have t0:(t:Ad)<11:=by omega
  have tt:(t:Ad)*(t:Ad)<=11*11:=Int.mul_le_mul (by omega) (by omega) (by omega) (by decide)
  have t2:0<=(t:Ad)*(t:Ad):=U_6 (by omega) (by omega)
  have pw:(2:Ag) ^ 10<=2 ^ 300:=EA (by decide) (by decide)
  refine⟨⟨?_,?_,?_⟩,1,UU p1 _ _⟩
  .exact AG (by decide:(1:Ad).natAbs<2 ^ 10) pw
  .exact AG (by show ((t:Ad)).natAbs<2 ^ 10;omega) pw
  .exact AG (by show ((t:Ad)*(t:Ad)).natAbs<2 ^ 10;omega) pw
theorem cY{RR Y_:D}{acc:Ac D}(mm:DL m m=Aa)(en:U.F 289 [.int p,RR,.tup [.int 1,.int m,.int (m*m)]]=.ok Y_)(sz:B4 (acc.length+1)=Aa):AQ U 3 KO (.int m) [si p,sh RR,Ab (.lst acc,Aa),s3]=.next [si p,sh RR,Ab (.lst (acc++[Y_]),Aa),si m]:=by
 simp[AQ,KO,mm,en,CD,sz]
def mL(U:Gam):Prop:=∀(p:Ad)(a b c:R3),GoodR p a b c->U.F 290 [.int p,Gd a b c]=.ok (At ((D8 p).map λx=>nrm p (ap a b c x)))
theorem iW(hl:Rt U)(p:Ad)(a b c:R3)(G:GoodR p a b c):Lz.run U [.int p,Gd a b c]=.ok (At ((D8 p).map λx=>nrm p (ap a b c x))):=by
 have hp:=G.p4;have ph:=hp.hi;have pl:=hp.lo;have L:∀ x∈D8 p,U.F 289 [.int p,Gd a b c,An Aa x]=.ok (An Aa (nrm p (ap a b c x))):=λx hx=>hl p Ae Ae Aa a b c x G (K5 hp hx).1 (K5 hp hx).2
 have e0:U.F 289 [.int p,Gd a b c,.tup [.int 0,.int 0,.int 1]]=.ok (An Aa (nrm p (ap a b c (0,0,1)))):=L (0,0,1) (Aw ..);have rg:Cq 0 p=.ok (Ce 0 (p-0).toNat):=Jf (by decide) (by decide) (by omega) (by omega)
 rw[E2]at rg;have lp:=Nx (body:=AQ U 3 KO) (λn Z=>∃ s3,Z=[si p,sh (Gd a b c),Ab (.lst (((0,0,1)::(AS n).map fun(t:Ag)=>((1:Ad),(t:Ad),(t:Ad)*(t:Ad))).map λx=>An Aa (nrm p (ap a b c x))),Aa),s3]) (Ce 0 p.toNat) 0 [si p,sh (Gd a b c),Ab (.lst [An Aa (nrm p (ap a b c (0,0,1)))],Aa),Af] ⟨Af,rfl⟩ (by
  rintro n x hx Z ⟨s3,rfl⟩;obtain⟨hn,rfl⟩:=N5 hx;rw[CW,E3];have hm:((1:Ad),(n:Ad),(n:Ad)*(n:Ad))∈D8 p:=Au _ (Br.mpr ⟨n,A4.mpr (by omega),rfl⟩)
  have en:U.F 289 [.int p,Gd a b c,.tup [.int 1,.int (n:Ad),.int ((n:Ad)*(n:Ad))]]=.ok (An Aa (nrm p (ap a b c (1,(n:Ad),(n:Ad)*(n:Ad))))):=L _ hm;have lr:(AS (n+1)).map (fun(t:Ag)=>((1:Ad),(t:Ad),(t:Ad)*(t:Ad)))=(AS n).map (fun(t:Ag)=>((1:Ad),(t:Ad),(t:Ad)*(t:Ad)))++[((1:Ad),(n:Ad),(n:Ad)*(n:Ad))]:=by
   rw[List.range_succ,Eh];rfl
  rw[lr,<-List.cons_append,Eh];have len:((((0:Ad),(0:Ad),(1:Ad))::(AS n).map fun(t:Ag)=>((1:Ad),(t:Ad),(t:Ad)*(t:Ad))).map λx=>An Aa (nrm p (ap a b c x))).length=n+1:=by simp
  generalize ((((0:Ad),(0:Ad),(1:Ad))::(AS n).map fun(t:Ag)=>((1:Ad),(t:Ad),(t:Ad)*(t:Ad))).map λx=>An Aa (nrm p (ap a b c x)))=acc at *
  have sz:B4 (acc.length+1)=Aa:=Cr (by omega)
  have mm:DL (n:Ad) (n:Ad)=Aa:=Hu (by omega) (by omega)
  refine⟨_,?_,si (n:Ad),rfl⟩;show AQ U 3 KO (.int (n:Ad)) [si p,sh (Gd a b c),Ab (.lst acc,Aa),s3]=.next [si p,sh (Gd a b c),Ab (.lst (acc++[An Aa (nrm p (ap a b c (1,(n:Ad),(n:Ad)*(n:Ad))))]),Aa),si (n:Ad)];exact cY mm en sz)
 obtain⟨Z',e,s3,rfl⟩:=lp;rw[E3,KP]at e;have fin:D.lst (((0,0,1)::(AS p.toNat).map fun(t:Ag)=>((1:Ad),(t:Ad),(t:Ad)*(t:Ad))).map λx=>An Aa (nrm p (ap a b c x)))=At ((D8 p).map λx=>nrm p (ap a b c x)):=by
  unfold At D8;rw[Eo];rfl
 rw[<-fin]
 clear fin L
 generalize (((0,0,1)::(AS p.toNat).map fun(t:Ag)=>((1:Ad),(t:Ad),(t:Ad)*(t:Ad))).map λx=>An Aa (nrm p (ap a b c x)))=OUT at *
 generalize Ce 0 p.toNat=RL at *;generalize An Aa (nrm p (ap a b c (0,0,1)))=Y_ at *;generalize Gd a b c=RR at *;simp[Lz,Df.run,BZ,e0,CM,rg,e]
noncomputable def M8:E:=(.and (.cons (.isi (.var 3) [.int]) (.cons (.no (.isi (.var 3) [.bool])) (.cons (.cmp2 .LtE .Lt (.int 0) (.var 3) (.var 0)) .nil))))
noncomputable def MZ:Df:=⟨4,Ae,(.cons (.ife (.or (.cons (.no (.isi (.var 1) [.tuple])) (.cons (.cmp .NotEq (.bi .len (.cons (.var 1) .nil)) (.var 2)) .nil))) (.cons (.ret (.bl Ae)) .nil) .nil) (.cons (.ret (.bi .all (.cons (.comp M8 3 (.e (.var 1)) DK) .nil))) .nil))⟩
def R4(U:Gam):Prop:=∀(p:Ad)(xs:Ac Ad),(∀ x∈xs,0<=x/\x<p)->U.F 236 [.int p,.tup (ds xs),.int xs.length]=.ok (.bl Aa)
theorem eB(U:Gam)(p:Ad)(xs:Ac Ad)(hx:∀ x∈xs,0<=x/\x<p):MZ.run U [.int p,.tup (ds xs),.int xs.length]=.ok (.bl Aa):=by
 have c1:BN (cG U [si p,sh (.tup (ds xs)),si xs.length,Af] 3 DK) (cF U [si p,sh (.tup (ds xs)),si xs.length,Af] 3 M8) (ds xs)=.ok (xs.map λ_=>D.bl Aa):=by
  refine Sh xs λx hm=>⟨rfl,?_⟩
  obtain⟨h0,h1⟩:=hx x hm;simp[cF,M8,kiD,ET,h0,h1]
 have dl:(ds xs).length=xs.length:=Bl ..;simp[MZ,Df.run,BZ,kiD,ET,dl,c1,Rm]
noncomputable def MW:E:=(.cmp .Gt (.var 3) (.int 0))
noncomputable def MX:E:=(.var 3)
noncomputable def Nm:Df:=⟨4,Ae,(.cons (.ife (.or (.cons (.no (.call 236 (.cons (.var 0) (.cons (.var 1) (.cons (.var 2) .nil))))) (.cons (.cmp .Eq (.bi .sum (.cons (.var 1) .nil)) (.int 0)) .nil))) (.cons (.ret (.bl Ae)) .nil) .nil) (.cons (.ret (.cmp .Eq (.idx (.comp MX 3 (.e (.var 1)) MW) (.int 0)) (.int 1))) .nil))⟩
theorem QM{p:Ad}:∀ xs:Ac Ad,(∀ v∈xs,0<=v/\v<p)->Bs p xs=(xs.filter λv=>decide (0<v)).head?
 |[],_=>rfl
 |v::xs,h=>by
  have hv:=h v (Aw ..);have em:=AT hv.1 hv.2;have ih:=QM xs λw hw=>h w (Au _ hw)
  unfold Bs;rw[em,C3,ih];by_cases z:v=0
  .rw[Ax z,z];rfl
  .rw[AF z,Ax (by simp;omega)]
   rfl
theorem Tf:∀(xs:Ac Ad)(a:Ad),GD a (ds xs)=.ok (a+xs.sum)
 |[],a=>by show R.ok a=_;simp
 |x::xs,a=>by
  show GD (a+x) (ds xs)=_;rw[Tf xs (a+x)];simp[Int.add_assoc]
theorem RO{p:Ad}:∀ xs:Ac Ad,(∀ v∈xs,0<=v/\v<p)->0<=xs.sum/\∀ v∈xs,v<=xs.sum
 |[],_=>⟨by simp,λv h=>nomatch h⟩
 |x::xs,h=>by
  obtain⟨h1,h2⟩:=RO xs λw hw=>h w (Au _ hw)
  have hx:=h x (Aw ..);rw[List.sum_cons];refine⟨by omega,λv hv=>?_⟩
  rcases AE.mp hv with rfl|hv
  .omega
  .have:=h2 v hv;omega
theorem eJ(hr:R4 U)(p:Ad)(xs:Ac Ad)(p0:0<p)(hx:∀ x∈xs,0<=x/\x<p)(l1:Bs p xs=Ab 1):Nm.run U [.int p,.tup (ds xs),.int xs.length]=.ok (.bl Aa):=by
 have e1:=hr p xs hx;have hd:(xs.filter λv=>decide (0<v)).head?=Ab 1:=by rw[<-QM xs hx];exact l1
 have m1:(1:Ad)∈xs:=by
  have:(1:Ad)∈xs.filter λv=>decide (0<v):=List.mem_of_mem_head? hd
  exact(Dd.mp this).1
 obtain⟨s0,s1⟩:=RO xs hx;have sz:¬ xs.sum=0:=by have:=s1 1 m1;omega
 have sm:biD .sum [.tup (ds xs)]=.ok (.int xs.sum):=by
  show (GD 0 (ds xs)).bind (λi=>R.ok (D.int i))=_
  rw[Tf,CW];rfl
 have sq:Cm (.tup (ds xs))=.ok (ds xs):=rfl;have c1:∀ n:Ad,BN (cG U [si p,sh (.tup (ds xs)),si n,Af] 3 MW) (cF U [si p,sh (.tup (ds xs)),si n,Af] 3 MX) (ds xs)=.ok (ds (xs.filter λv=>decide (0<v))):=λn=>by
  refine Ls xs λv _=>⟨?_,?_⟩
  .simp[cG,MW]
  .simp[cF,MX]
 have g:=NN hd;generalize (xs.length:Ad)=N at *;generalize xs.sum=SS at *;generalize ds (xs.filter λv=>decide (0<v))=FL at *
 generalize D.tup (ds xs)=TT at *;generalize ds xs=XL at *;simp[Nm,Df.run,BZ,e1,sm,sz,sq,c1,g]
noncomputable def C0p:C6:=⟨0,1,0,0,-1,0⟩
noncomputable def M7:E:=(.bin .Mod (.bin .Add (.var 9) (.bin .Mult (.var 8) (.var 10))) (.var 0))
noncomputable def GY:Ss:=(.cons (.asg 5 Ae (.call 228 (.cons (.var 1) (.cons (.bin .Add (.var 2) (.var 4)) .nil)))) (.cons (.asg 6 Ae (.bin .Mod (.var 5) (.int 3))) (.cons (.asg 7 Ae (.bin .Mod (.bin .Add (.bin .Add (.var 6) (.int 1)) (.bin .Mod (.bin .FloorDiv (.var 5) (.int 3)) (.int 2))) (.int 3))) (.cons (.asg 8 Ae (.bin .Mod (.bin .FloorDiv (.var 5) (.int 6)) (.var 0))) (.cons (.put 3 (.var 6) (.compT M7 [9,10] (.zip (.idx (.var 3) (.var 6)) (.idx (.var 3) (.var 7))) DK)) (.cons (.ife (.cmp .Eq (.bin .Mod (.bin .FloorDiv (.var 5) (.int 100)) (.int 3)) (.int 1)) (.cons (.asg 3 Aa (.lst (.cons (.idx (.var 3) (.var 7)) (.cons (.idx (.var 3) (.var 6)) (.cons (.idx (.var 3) (.bin .Sub (.bin .Sub (.int 3) (.var 6)) (.var 7))) .nil))))) .nil) .nil) .nil))))))
noncomputable def M6:E:=(.bin .Mod (.bin .Mult (.var 8) (.var 11)) (.var 0))
noncomputable def Lw:Df:=⟨12,Ae,(.cons (.asg 3 Aa (.lst (.cons (.lst (.cons (.int 1) (.cons (.int 0) (.cons (.int 0) .nil)))) (.cons (.lst (.cons (.int 0) (.cons (.int 1) (.cons (.int 0) .nil)))) (.cons (.lst (.cons (.int 0) (.cons (.int 0) (.cons (.int 1) .nil)))) .nil))))) (.cons (.fors 4 (.rng (.int 6)) GY) (.cons (.asg 8 Ae (.bin .Add (.int 1) (.bin .Mod (.call 228 (.cons (.var 1) (.cons (.bin .Add (.var 2) (.int 6)) .nil))) (.bin .Sub (.var 0) (.int 1))))) (.cons (.put 3 (.int 0) (.comp M6 11 (.e (.idx (.var 3) (.int 0))) DK)) (.cons (.ret (.var 3)) .nil)))))⟩
theorem dS{a b c:R3}(h:GoodR p a b c)(ij:Ij i j):∃(i':Ag)(x y a' b' c':R3),CN (L3 a b c) i=.ok (Ea x)/\CN (L3 a b c) j=.ok (Ea y)/\plD 3 i=Ab i'/\GoodR p a' b' c'/\(L3 a b c).set i' (Ea (adR p t x y))=L3 a' b' c':=by
 have p0:=h.p4.pos;rcases ij with ⟨rfl,rfl⟩|⟨rfl,rfl⟩|⟨rfl,rfl⟩|⟨rfl,rfl⟩|⟨rfl,rfl⟩|⟨rfl,rfl⟩
 .exact⟨0,a,b,_,_,_,rfl,rfl,rfl,h.of (k:=1) h.p4.o1 (sM p t a b c) ⟨Kk p0 _ _ _,h.ib,h.ic⟩,rfl⟩
 .exact⟨0,a,c,_,_,_,rfl,rfl,rfl,h.of (k:=1) h.p4.o1 (sK p t a b c) ⟨Kk p0 _ _ _,h.ib,h.ic⟩,rfl⟩
 .exact⟨1,b,a,_,_,_,rfl,rfl,rfl,h.of (k:=1) h.p4.o1 (sJ p t a b c) ⟨h.ia,Kk p0 _ _ _,h.ic⟩,rfl⟩
 .exact⟨1,b,c,_,_,_,rfl,rfl,rfl,h.of (k:=1) h.p4.o1 (sI p t a b c) ⟨h.ia,Kk p0 _ _ _,h.ic⟩,rfl⟩
 .exact⟨2,c,a,_,_,_,rfl,rfl,rfl,h.of (k:=1) h.p4.o1 (sH p t a b c) ⟨h.ia,h.ib,Kk p0 _ _ _⟩,rfl⟩
 .exact⟨2,c,b,_,_,_,rfl,rfl,rfl,h.of (k:=1) h.p4.o1 (sG p t a b c) ⟨h.ia,h.ib,Kk p0 _ _ _⟩,rfl⟩
theorem dR{a b c:R3}(h:GoodR p a b c)(ij:Ij i j):∃(x y z:R3),CN (L3 a b c) j=.ok (Ea x)/\CN (L3 a b c) i=.ok (Ea y)/\CN (L3 a b c) (3-i-j)=.ok (Ea z)/\GoodR p x y z:=by
 rcases ij with ⟨rfl,rfl⟩|⟨rfl,rfl⟩|⟨rfl,rfl⟩|⟨rfl,rfl⟩|⟨rfl,rfl⟩|⟨rfl,rfl⟩
 .exact⟨b,a,c,rfl,rfl,rfl,h.of (k:=-1) h.p4.m1 (Cg.of (by unfold As det;grind)) ⟨h.ib,h.ia,h.ic⟩⟩
 .exact⟨c,a,b,rfl,rfl,rfl,h.of (k:=1) h.p4.o1 (Cg.of (by unfold As det;grind)) ⟨h.ic,h.ia,h.ib⟩⟩
 .exact⟨a,b,c,rfl,rfl,rfl,h⟩
 .exact⟨c,b,a,rfl,rfl,rfl,h.of (k:=-1) h.p4.m1 (Cg.of (by unfold As det;grind)) ⟨h.ic,h.ib,h.ia⟩⟩
 .exact⟨a,c,b,rfl,rfl,rfl,h.of (k:=-1) h.p4.m1 (Cg.of (by unfold As det;grind)) ⟨h.ia,h.ic,h.ib⟩⟩
 .exact⟨b,c,a,rfl,rfl,rfl,h.of (k:=1) h.p4.o1 (Cg.of (by unfold As det;grind)) ⟨h.ib,h.ic,h.ia⟩⟩
section
variable{U:Gam}{ns:Ac Ad}{p:Ad}{a b c:R3}{s2 s4 s5 s6 s7 s8:Sl}
theorem bU(hm:Jv U 228 ns)(h:GoodR p a b c){k:Ad}(ha:0<=at_)(hk:0<=k):∃ a' b' c' v5 v6 v7 v8,GoodR p a' b' c'/\AQ U 4 GY (.int k) [si p,sh (scr ns),si at_,Ab (.lst (L3 a b c),Aa),s4,s5,s6,s7,s8,Af,Af,Af]=.next [si p,sh (scr ns),si at_,Ab (.lst (L3 a' b' c'),Aa),si k,v5,v6,v7,v8,Af,Af,Af]:=by
 have p0:=h.p4.pos;have ph:=h.p4.hi;obtain⟨m,m0,e0⟩:=hm (at_+k) (by omega)
 generalize hi:m%3=i;generalize hj:(i+1+m/3%2)%3=j;have ij:=sQ hi hj;have t0:=Bg (m/6) (b:=p) (by omega)
 have t1:=Bc (m/6) p0;generalize ht:m/6%p=t at t0 t1;have mt:∀ x,DL t x=Aa:=λx=>Hu (by omega) (by omega)
 obtain⟨i',x,y,a',b',c',gi,gj,pi,g',es⟩:=dS (t:=t) h ij;obtain⟨x2,y2,z2,f1,f2,f3,g2⟩:=dR g' ij;have pi':plD (L3 a b c).length i=Ab i':=pi;have e1:evSs U [si p,sh (scr ns),si at_,Ab (.lst (L3 a b c),Aa),si k,s5,s6,s7,s8,Af,Af,Af] (GY.take 4)=.next [si p,sh (scr ns),si at_,Ab (.lst (L3 a b c),Aa),si k,si m,si i,si j,si t,Af,Af,Af]:=by
  simp[GY,Ss.take,e0,hi,hj,ht,p0]
 have cp:BN (cGT U [si p,sh (scr ns),si at_,Ab (.lst (L3 a b c),Aa),si k,si m,si i,si j,si t,Af,Af,Af] [9,10] DK) (cFT U [si p,sh (scr ns),si at_,Ab (.lst (L3 a b c),Aa),si k,si m,si i,si j,si t,Af,Af,Af] [9,10] M7) (Fh [.int x.1,.int x.2.1,.int x.2.2] [.int y.1,.int y.2.1,.int y.2.2])=.ok [.int ((x.1+t*y.1)%p),.int ((x.2.1+t*y.2.1)%p),.int ((x.2.2+t*y.2.2)%p)]:=by
  generalize x.1=x0;generalize x.2.1=x1;generalize x.2.2=x2;generalize y.1=y0;generalize y.2.1=y1;generalize y.2.2=y2;simp[BN,cGT,cFT,Fh,M7,DK,p0,mt]
 have gi':CN (L3 a b c) i=.ok (.lst [.int x.1,.int x.2.1,.int x.2.2]):=gi;have gj':CN (L3 a b c) j=.ok (.lst [.int y.1,.int y.2.1,.int y.2.2]):=gj;have rd:D.lst [.int ((x.1+t*y.1)%p),.int ((x.2.1+t*y.2.1)%p),.int ((x.2.2+t*y.2.2)%p)]=Ea (adR p t x y):=rfl;have fin:∀ {o},evSs U [si p,sh (scr ns),si at_,Ab (.lst (L3 a b c),Aa),si k,si m,si i,si j,si t,Af,Af,Af] (GY.drop 4)=o->AQ U 4 GY (.int k) [si p,sh (scr ns),si at_,Ab (.lst (L3 a b c),Aa),s4,s5,s6,s7,s8,Af,Af,Af]=o:=λ{o} h=>by
  show evSs U [si p,sh (scr ns),si at_,Ab (.lst (L3 a b c),Aa),si k,s5,s6,s7,s8,Af,Af,Af] GY=o;rw[Rb U 4,e1];exact h
 have sL:L3 x2 y2 z2=[Ea x2,Ea y2,Ea z2]:=rfl;by_cases q:m/100%3=1
 .refine⟨x2,y2,z2,si m,si i,si j,si t,g2,fin ?_⟩;rw[sL]
  clear e1 fin sL
  generalize L3 a b c=LL at *;generalize L3 a' b' c'=LM at *;generalize Ea x2=rx at *;generalize Ea y2=ry at *;generalize Ea z2=rz at *;generalize scr ns=S at *;simp[GY,Ss.drop,Oj,CD,gi',gj',pi',cp,rd,es,q,f1,f2,f3,CM]
 .refine⟨a',b',c',si m,si i,si j,si t,g',fin ?_⟩
  clear e1 fin sL
  generalize L3 a b c=LL at *;generalize L3 a' b' c'=LM at *;generalize scr ns=S at *;simp[GY,Ss.drop,Oj,CD,gi',gj',pi',cp,rd,es,q]
end
def iP(U:Gam)(ns:Ac Ad):Prop:=∀(p at_:Ad),P4 p->0<=at_->∃ a b c,GoodR p a b c/\U.F 250 [.int p,scr ns,.int at_]=.ok (Gd a b c)
theorem dZ(hm:Jv U 228 ns)(p at_:Ad)(hp:P4 p)(ha:0<=at_):∃ a b c,GoodR p a b c/\Lw.run U [.int p,scr ns,.int at_]=.ok (Gd a b c):=by
 have p0:=hp.pos;have g0:GoodR p e0R e1R e2R:=(gS hp).1;have rg:Cq 0 6=.ok (Ce 0 6):=rfl;obtain⟨Z',e,a,b,c,s4,s5,s6,s7,s8,g,rfl⟩:=Q8 (body:=AQ U 4 GY) (λZ=>∃ a b c s4 s5 s6 s7 s8,GoodR p a b c/\Z=[si p,sh (scr ns),si at_,Ab (.lst (L3 a b c),Aa),s4,s5,s6,s7,s8,Af,Af,Af]) (Ce 0 6) [si p,sh (scr ns),si at_,Ab (.lst (L3 e0R e1R e2R),Aa),Af,Af,Af,Af,Af,Af,Af,Af] ⟨_,_,_,_,_,_,_,_,g0,rfl⟩ (by
  rintro x hx Z ⟨a,b,c,s4,s5,s6,s7,s8,g,rfl⟩;obtain⟨k,_,rfl⟩:=Zv hx;obtain⟨a',b',c',v5,v6,v7,v8,g',e⟩:=bU (s4:=s4) (s5:=s5) (s6:=s6) (s7:=s7) (s8:=s8) hm g ha (k:=0+(k:Ad)) (by omega)
  exact⟨_,e,a',b',c',_,_,_,_,_,g',rfl⟩)
 obtain⟨m,m0,e2⟩:=hm (at_+6) (by omega)
 have q1:0<p-1:=by have:=hp.lo;omega
 have q2:1<p:=by have:=hp.lo;omega
 have t0:0<1+m%(p-1):=by have:=Bg m (b:=p-1) (by omega);omega
 have t1:1+m%(p-1)<p:=by have:=Bc m q1;omega
 generalize ht:1+m%(p-1)=t at t0 t1;have tz:t%p≠0:=by rw[AT (by omega) t1];omega
 have mt:∀ x,DL t x=Aa:=λx=>Hu (by omega) (by have:=hp.hi;omega)
 refine⟨scR p t a,b,c,g.of (k:=t) tz (Xv p t a b c) ⟨pH p0 _ _,g.ib,g.ic⟩,?_⟩;have cp:BN (cG U [si p,sh (scr ns),si at_,Ab (.lst (L3 a b c),Aa),s4,s5,s6,s7,si t,Af,Af,Af] 11 DK) (cF U [si p,sh (scr ns),si at_,Ab (.lst (L3 a b c),Aa),s4,s5,s6,s7,si t,Af,Af,Af] 11 M6) [.int a.1,.int a.2.1,.int a.2.2]=.ok [.int (a.1*t%p),.int (a.2.1*t%p),.int (a.2.2*t%p)]:=by
  refine JX (φ:=λx=>x*t%p) [a.1,a.2.1,a.2.2] λx _=>⟨rfl,?_⟩
  simp[cF,M6,mt,p0,BS]
 have e':BH (AQ U 4 GY) (Ce 0 6) [si p,sh (scr ns),si at_,Ab (.lst [.lst [.int 1,.int 0,.int 0],.lst [.int 0,.int 1,.int 0],.lst [.int 0,.int 0,.int 1]],Aa),Af,Af,Af,Af,Af,Af,Af,Af]=_:=e;have g0':CN (L3 a b c) 0=.ok (.lst [.int a.1,.int a.2.1,.int a.2.2]):=rfl;have pl:plD (L3 a b c).length 0=Ab 0:=rfl;have out:D.lst ((L3 a b c).set 0 (.lst [.int (a.1*t%p),.int (a.2.1*t%p),.int (a.2.2*t%p)]))=Gd (scR p t a) b c:=rfl
 clear e
 rw[<-out]
 clear out
 generalize L3 a b c=LL at *;generalize Ce 0 6=RL at *;generalize scr ns=S at *;simp[Lw,Df.run,BZ,CM,rg,e',e2,q1,q2,ht,Oj,CD,g0',pl,cp]
section
variable{p:Ad}{C:C6}{a b c A B P U_ l m:R3}
theorem swp(h:BA U_ m%p=0):BA m U_%p=0:=by rw[LV];exact h
end
noncomputable def Kn(p:Ad):Ac R3:=(D8 p).map (mdR p)
theorem ZS(hp:P4 p):(Kn p).Nodup:=by
 rcases hp with rfl|rfl|rfl|rfl<;>decide+kernel
theorem Rz(hp:P4 p):∀ x∈Kn p,x∈Ch p/\vI C0p x%p=0:=by
 rcases hp with rfl|rfl|rfl|rfl<;>decide+kernel
theorem cX(hp:P4 p):∀ x∈Ch p,vI C0p x%p=0->x∈Kn p:=by
 rcases hp with rfl|rfl|rfl|rfl<;>decide+kernel
theorem QD(hp:P4 p)(x:R3):x∈Kn p↔NF p x/\vI C0p x%p=0:=
 ⟨λh=>⟨(Jj hp).mp (Rz hp x h).1,(Rz hp x h).2⟩,λh=>cX hp x ((Jj hp).mpr h.1) h.2⟩
theorem gE{p l l':Ad}{s:R3}(hp:P4 p)(er:Bs p (tri r)=Ab l)(es:Bs p (tri s)=Ab l')(h:CgR p r s):nrm p r=nrm p s:=by
 obtain⟨h1,h2⟩:=J3 hp er;obtain⟨h3,h4⟩:=J3 hp es;exact Ma hp h1 h3 ((h2.trans hp (Pr.cg hp h)).trans hp (h4.symm hp))
theorem ZQ{a b c:R3}(hp:P4 p)(z:As a b c%p≠0):((D8 p).map λx=>nrm p (ap a b c x))=(Kn p).map λx=>nrm p (ap a b c x):=by
 unfold Kn;rw[Eo];refine F6 λx hx=>?_
 obtain⟨l,el⟩:=(K5 hp hx).2;have g:CgR p (mdR p x) x:=CgR.md rfl;have g':CgR p (ap a b c x) (ap a b c (mdR p x)):=Pi CgR.rfl CgR.rfl CgR.rfl g.symm;obtain⟨l1,e1⟩:=Kd hp z el (CgR.rfl (a:=ap a b c x));obtain⟨l2,e2⟩:=Kd hp z el g'.symm;exact gE hp e1 e2 g'
theorem Z_5(x:R3)(l:Ac R3):(l.map (An Aa)).any (λy=>eqD y (An Aa x))=decide (x∈l):=by
 induction l with
 |nil=>simp
 |cons y l ih=>
  rw[Ba,Ik,ih,La,Cp,Ca,AW,AW,AW,AE];exact or_congr ⟨Lp,Lp⟩ Iff.rfl
theorem Q4(x:R3)(l:Ac R3):Bw .In (An Aa x) (At l)=.ok (.bl (decide (x∈l))):=by
 have k1:(l.map (An Aa)).all (flD 5)=Aa:=by
  rw[Dr];intro y hy;obtain⟨z,_,rfl⟩:=Br.mp hy;exact(Mj z).1
 show (if (flD 5 (An Aa x)&&(l.map (An Aa)).all (flD 5))=Aa then R.ok (D.bl ((l.map (An Aa)).any λy=>eqD y (An Aa x))) else R.bad)=_
 rw[k1,(Mj x).1,Ax (show (Aa&&Aa)=Aa from rfl),Z_5]
structure Fb (p:Ad) (C:C6) (A B P U_:R3):Prop where
 nA:NF p A
 nB:NF p B
 nP:NF p P
 nU:NF p U_
 ne:A≠B
 ne2:A≠U_
 ne3:B≠U_
 on:FOn p C A B P U_
 gen:UM p A B P U_
 ln:∃ l,NF p l/\Pr p l (crs A B)/\P=X1 p C l
noncomputable def JQ:Ss:=(.cons (.asg 5 Ae (.bin .Mod (.call 228 (.cons (.var 0) (.cons (.bin .Add (.var 1) (.var 4)) .nil))) (.bin .Add (.bi .len (.cons (.var 3) .nil)) (.int 1)))) (.cons (.asg 3 Ae (.bin .Add (.bin .Add (.sl (.var 3) .non (.var 5)) (.lst (.cons (.idx (.var 2) (.var 4)) .nil))) (.sl (.var 3) (.var 5) .non))) .nil))
noncomputable def IZ:Df:=⟨6,Ae,(.cons (.asg 3 Ae (.lst .nil)) (.cons (.fors 4 (.rng (.bi .len (.cons (.var 2) .nil))) JQ) (.cons (.ret (.var 3)) .nil)))⟩
theorem kept{a b c A B P U_ A' B' P' U_':R3}(T:GoodR p a b c)(w:Whl p C)(f:Fb p C A B P U_)(f':Fb p C A' B' P' U_')(L:Led p a b c A B P U_ A' B' P' U_'):PrC p (pb C a b c) C:=YE T.p4 T.nz w w f.gen.1 f.gen.2.1 f.on f'.on L.h0 L.h1 L.h2 L.h3
theorem QU{d:Ag}(h0:0<=i):Gj n d (Ab i)=min i.toNat n:=by
 show (if i<0 then _ else _)=_
 rw[AF (by omega)]
theorem Ml(M:Ac R3)(h0:0<=i):slD (At M) Af (Ab i)=.ok (At (M.take i.toNat)):=by
 show R.ok (D.lst (((M.map (An Aa)).drop 0).take (Gj (M.map (An Aa)).length (M.map (An Aa)).length (Ab i)-0)))=_;rw[QU h0,Vi,Nat.sub_zero,Bl];unfold At;rw[List.map_take]
 congr 2
 by_cases h:i.toNat<=M.length
 .rw[VD h]
 .rw[Nat.min_eq_right (by omega),Ei (by simp),Ei (by simp;omega)]
theorem RS(M:Ac R3)(h0:0<=i)(h1:i.toNat<=M.length):slD (At M) (Ab i) Af=.ok (At (M.drop i.toNat)):=by
 show R.ok (D.lst (((M.map (An Aa)).drop (Gj (M.map (An Aa)).length 0 (Ab i))).take ((M.map (An Aa)).length-Gj (M.map (An Aa)).length 0 (Ab i))))=_;rw[QU h0];unfold At;rw[List.map_drop,Bl,VD h1]
 congr 2
 exact Ei (by simp)
theorem Qw(X Y_:Ac R3)(h:X.length+Y_.length<=1000):C5 .Add (At X) (At Y_)=.ok (At (X++Y_)):=by
 show (if B4 ((X.map (An Aa)).length+(Y_.map (An Aa)).length)=Aa then R.ok (D.lst (X.map (An Aa)++Y_.map (An Aa))) else R.bad)=_
 have z:B4 ((X.map (An Aa)).length+(Y_.map (An Aa)).length)=Aa:=Cr (by rw[Bl,Bl];omega)
 rw[Ax z,<-Eh];rfl
theorem Zg(h:L[n]?=Ab x):Ec (At L) (.int (n:Ad))=.ok (An Aa x):=by
 show CN (L.map (An Aa)) (n:Ad)=_;exact N6 (by omega) (by rw[Dl,Dm,h];rfl)
def hJ(U:Gam)(ns:Ac Ad):Prop:=∀(at_:Ad)(L:Ac R3),0<=at_->L.length<=60->∃ M:Ac R3,M.Perm L/\U.F 251 [scr ns,.int at_,At L]=.ok (At M)
theorem dA(hm:Jv U 228 ns){M:Ac R3}(ha:0<=at_)(hx:L[n]?=Ab x)(h5:M.length<=60):∃(M':Ac R3)(v5:Sl),M'.Perm (M++[x])/\AQ U 4 JQ (.int (n:Ad)) [sh (scr ns),si at_,sh (At L),sh (At M),s4,s5]=.next [sh (scr ns),si at_,sh (At L),sh (At M'),si (n:Ad),v5]:=by
 obtain⟨m,m0,e⟩:=hm (at_+(n:Ad)) (by omega)
 have q0:=Bg m (b:=(M.length:Ad)+1) (by omega)
 have q1:=Bc m (b:=(M.length:Ad)+1) (by omega)
 have ln:biD .len [At M]=.ok (.int (M.length:Ad)):=QK M;have lp:(0:Ad)<(M.length:Ad)+1:=by omega
 generalize hi:m%((M.length:Ad)+1)=i at *;have s1:=Ml M q0;have s2:=RS M q0 (by omega)
 have g:=Zg hx;have a1:=Qw (M.take i.toNat) [x] (by simp;omega)
 have a2:=Qw (M.take i.toNat++[x]) (M.drop i.toNat) (by simp;omega)
 refine⟨(M.take i.toNat++[x])++M.drop i.toNat,si i,?_,?_⟩
 .have p1:((M.take i.toNat++[x])++M.drop i.toNat).Perm (x::(M.take i.toNat++M.drop i.toNat)):=by
   rw[Ve];exact List.perm_middle
  rw[FG]at p1;exact p1.trans (List.perm_append_singleton x M).symm
 .have rx:D.lst [An Aa x]=At [x]:=rfl;generalize (M.length:Ad)=N at *;generalize At L=TL at *;generalize At M=TM at *;generalize At (M.take i.toNat)=T1 at *;generalize At (M.drop i.toNat)=T2 at *;generalize At (M.take i.toNat++[x])=T3 at *;generalize At ((M.take i.toNat++[x])++M.drop i.toNat)=T4 at *;rw[<-rx]at a1;generalize An Aa x=tx at *;generalize scr ns=S at *;simp[AQ,JQ,e,ln,lp,hi,s1,s2,g,a1,a2]
theorem cZ{S TL TM:D}(ln:biD .len [TL]=.ok (.int N))(rg:Cq 0 N=.ok RL)(e:BH (AQ U 4 JQ) RL [sh S,si at_,sh TL,sh (.lst []),Af,Af]=.next [sh S,si at_,sh TL,sh TM,s4,s5]):IZ.run U [S,.int at_,TL]=.ok TM:=by
 have e1:evSs U [sh S,si at_,sh TL,Af,Af,Af] IZ.body=Fk U (.cons (.ret (.var 3)) .nil) (BH (AQ U 4 JQ) RL [sh S,si at_,sh TL,sh (.lst []),Af,Af]):=by
  simp[IZ,ln,rg]
 show O.ans Ae (evSs U [sh S,si at_,sh TL,Af,Af,Af] IZ.body)=_;rw[e1,e];simp
theorem eF(hm:Jv U 228 ns)(at_:Ad)(L:Ac R3)(ha:0<=at_)(hL:L.length<=60):∃ M:Ac R3,M.Perm L/\IZ.run U [scr ns,.int at_,At L]=.ok (At M):=by
 have lp:=Nx (body:=AQ U 4 JQ) (λn Z=>∃(M:Ac R3)(s4 s5:Sl),M.Perm (L.take n)/\Z=[sh (scr ns),si at_,sh (At L),sh (At M),s4,s5]) (Ce 0 L.length) 0 [sh (scr ns),si at_,sh (At L),sh (At []),Af,Af] ⟨[],Af,Af,by simp,rfl⟩ (by
  rintro n y hy Z ⟨M,s4,s5,pm,rfl⟩;obtain⟨hn,rfl⟩:=N5 hy;rw[E3]at pm;rw[CW,E3];have hx:L[n]?=Ab L[n]:=BV hn;obtain⟨M',v5,pm',e⟩:=dA (s4:=s4) (s5:=s5) hm ha hx (M:=M) (by rw[pm.length_eq];simp;omega)
  refine⟨_,e,M',_,_,?_,rfl⟩;rw[List.take_succ,hx];exact pm'.trans (pm.append_right _))
 obtain⟨Z',e,M,s4,s5,pm,rfl⟩:=lp;rw[E3,KP,List.take_length]at pm;refine⟨M,pm,?_⟩;have ln:biD .len [At L]=.ok (.int (L.length:Ad)):=QK L;have rg:Cq 0 (L.length:Ad)=.ok (Ce 0 ((L.length:Ad)-0).toNat):=Jf (by decide) (by decide) (by omega) (by omega)
 rw[E2,Dl]at rg;have e0:At []=.lst []:=rfl;rw[e0]at e;generalize (L.length:Ad)=N at *;generalize Ce 0 L.length=RL at *;generalize At L=TL at *;generalize At M=TM at *;generalize scr ns=S at *;exact cZ ln rg e
theorem cV{a b c:R3}(hp:P4 p)(z:As a b c%p≠0):((D8 p).map λx=>nrm p (ap a b c x)).Nodup:=by
 rw[ZQ hp z];refine QF (ZS hp) λx hx y hy e=>?_
 have h1:=Qh hp z ((QD hp x).mp hx).1;have h2:=Qh hp z ((QD hp y).mp hy).1;rw[<-h1,<-h2,e]
theorem ZR(hp:P4 p):4<=(D8 p).length/\(D8 p).length<=60:=by
 rcases hp with rfl|rfl|rfl|rfl<;>decide+kernel
section
variable{U:Gam}{ns:Ac Ad}{p:Ad}
end
noncomputable def J2:Ss:=(.cons (.ife (.call 56 (.cons (.var 0) (.cons (.var 1) (.cons (.var 3) .nil)))) (.cons (.ret (.bl Aa)) .nil) .nil) .nil)
noncomputable def LW:Df:=⟨4,Ae,(.cons (.fors 3 (.e (.var 2)) J2) (.cons (.ret (.bl Ae)) .nil))⟩
noncomputable def Lr:E:=(.call 57 (.cons (.var 0) (.cons (.var 5) (.cons (.var 2) .nil))))
noncomputable def M5:E:=(.and (.cons (.cmp .NotEq (.var 6) (.var 2)) (.cons (.no (.call 221 (.cons (.var 0) (.cons (.var 6) (.cons (.var 4) .nil))))) .nil)))
noncomputable def MV:Df:=⟨7,Aa,(.cons (.asg 4 Ae (.comp Lr 5 (.e (.var 1)) DK)) (.cons (.ret (.comp JS 6 (.e (.var 3)) M5)) .nil))⟩
noncomputable def JO:Ss:=(.cons (.asg 2 Ae (.call 222 (.cons (.var 0) (.cons (.sl (.var 1) .non (.var 3)) (.cons (.var 4) (.cons (.var 2) .nil)))))) .nil)
noncomputable def LC:Df:=⟨5,Ae,(.cons (.asg 2 Ae (.call 69 (.cons (.var 0) .nil))) (.cons (.forT [3,4] (.enm (.var 1)) JO) (.cons (.ret (.var 2)) .nil)))⟩
section
variable{U:Gam}{p:Ad}
noncomputable def Ha(p:Ad)(x:R3)(ls:Ac R3):Ai:=ls.any λl=>decide (BA x l%p=0)
theorem Rl(h:OM U){x:R3}(hp:P4 p)(ix:In3 p x){L:D}:∀(ls:Ac R3)(s3:Sl),(∀ l∈ls,In3 p l)->∃ s3',BH (AQ U 3 J2) (ls.map (An Aa)) [si p,sh (An Aa x),sh L,s3]=if Ha p x ls=Aa then .ret (.bl Aa) Ae else .next [si p,sh (An Aa x),sh L,s3']
 |[],s3,_=>⟨s3,rfl⟩
 |l::ls,s3,hl=>by
  have e:=h p x l hp ix (hl l Aw);obtain⟨s3',ih⟩:=Rl h hp ix (L:=L) ls (sh (An Aa l)) λy hy=>hl y (Au _ hy)
  refine⟨s3',?_⟩;show (AQ U 3 J2 (An Aa l) _).turn _=_;by_cases z:BA x l%p=0
  .have t:Ha p x (l::ls)=Aa:=by unfold Ha;simp[z]
   rw[DX z]at e;rw[Ax t];generalize An Aa x=X at *;generalize An Aa l=Y_ at *;simp[AQ,J2,e,CM]
  .have t:Ha p x (l::ls)=Ha p x ls:=by unfold Ha;simp[z]
   rw[BK z]at e;rw[t,<-ih];generalize An Aa x=X at *;generalize An Aa l=Y_ at *;have q:AQ U 3 J2 Y_ [si p,sh X,sh L,s3]=.next [si p,sh X,sh L,sh Y_]:=by simp[AQ,J2,e]
   rw[q];rfl
def Ue(U:Gam):Prop:=∀(p:Ad)(x:R3)(ls:Ac R3),P4 p->In3 p x->(∀ l∈ls,In3 p l)->U.F 221 [.int p,An Aa x,At ls]=.ok (.bl (Ha p x ls))
theorem rS(h:OM U)(x:R3)(ls:Ac R3)(hp:P4 p)(ix:In3 p x)(hl:∀ l∈ls,In3 p l):LW.run U [.int p,An Aa x,At ls]=.ok (.bl (Ha p x ls)):=by
 obtain⟨s3,e⟩:=Rl h hp ix (L:=At ls) ls Af hl;have sq:Cm (At ls)=.ok (ls.map (An Aa)):=rfl;generalize At ls=L at *;generalize ls.map (An Aa)=M at *;generalize An Aa x=X at *;cases hb:Ha p x ls with
 |true=>rw[hb,Ax rfl]at e;simp[LW,Df.run,BZ,sq,e]
 |false=>rw[hb,AF AA]at e;simp[LW,Df.run,BZ,sq,e]
theorem kY(ny:NF p y)(pr:Pr p y r):NF p (nrm p r)/\Pr p (nrm p r) r:=by
 have ex:∃ y,NF p y/\Pr p y r:=⟨y,ny,pr⟩;unfold nrm;rw[dif_pos ex];exact DA ex
theorem qN(hp:P4 p){a b:R3}(na:NF p a)(nb:NF p b)(ne:a≠b)(h:ON U):NF p (nrm p (crs a b))/\Pr p (nrm p (crs a b)) (crs a b)/\U.F 57 [.int p,An Aa a,An Aa b]=.ok (An Aa (nrm p (crs a b))):=by
 obtain⟨y,i,l,pr,e⟩:=h p a b hp na.1 nb.1 na.2 nb.2 ne;obtain⟨n1,n2⟩:=kY ⟨i,l⟩ pr;have q:=Ma hp ⟨i,l⟩ n1 (pr.trans hp (n2.symm hp));rw[q]at e;exact⟨n1,n2,e⟩
theorem TU(hp:P4 p){a b q:R3}(pr:Pr p (nrm p (crs a b)) (crs a b)):BA q (nrm p (crs a b))%p=0↔As a b q%p=0:=by
 rw[qU hp (show Pr p q q from ⟨1,hp.o1,CgR.of (by unfold B8;simp)⟩) pr,show BA q (crs a b)=As a b q by unfold BA crs As det;grind]
noncomputable def stq(p:Ad)(pts:Ac R3)(f q:R3):Ai:=!decide (q=f) && !(pts.any λa=>decide (As a f q%p=0))
def Ow(U:Gam):Prop:=∀(p:Ad)(pts:Ac R3)(f:R3)(left:Ac R3),P4 p->(∀ x∈pts,NF p x)->NF p f->f∉pts->(∀ x∈left,NF p x)->U.F 222 [.int p,At pts,An Aa f,At left]=.ok (At (left.filter (stq p pts f)))
theorem eA(hj:ON U)(ha:Ue U)(pts:Ac R3)(f:R3)(left:Ac R3)(hp:P4 p)(np:∀ x∈pts,NF p x)(nf:NF p f)(ni:f∉pts)(nl:∀ x∈left,NF p x):MV.run U [.int p,At pts,An Aa f,At left]=.ok (At (left.filter (stq p pts f))):=by
 have jn:∀ a∈pts,NF p (nrm p (crs a f))/\Pr p (nrm p (crs a f)) (crs a f)/\U.F 57 [.int p,An Aa a,An Aa f]=.ok (An Aa (nrm p (crs a f))):=λa h=>qN hp (np a h) nf (λz=>ni (z ▸ h)) hj
 have c1:∀ xs:Ac R3,(∀ a∈xs,a∈pts)->BN (cG U [si p,sh (At pts),sh (An Aa f),sh (At left),Af,Af,Af] 5 DK) (cF U [si p,sh (At pts),sh (An Aa f),sh (At left),Af,Af,Af] 5 Lr) (xs.map (An Aa))=.ok ((xs.map λa=>nrm p (crs a f)).map (An Aa)):=by
  intro xs
  induction xs with
  |nil=>intro _;rfl
  |cons a xs ih=>
   intro h;have e:=(jn a (h a Aw)).2.2;have e1:cF U [si p,sh (At pts),sh (An Aa f),sh (At left),Af,Af,Af] 5 Lr (An Aa a)=.ok (An Aa (nrm p (crs a f))):=by
    generalize An Aa (nrm p (crs a f))=Y_ at *;generalize An Aa a=X at *;generalize An Aa f=F at *;generalize At pts=T at *;generalize At left=TL at *;simp[cF,Lr,e]
   have ih':=ih λb hb=>h b (Au _ hb)
   show (R.ok Aa).bind _=_;rw[R.bind_ok,Ax rfl,e1,R.bind_ok,show BN _ _ (IX _ xs)=_ from ih']
   rfl
 have c1:=c1 pts λ_ h=>h
 have il:∀ l∈(pts.map λa=>nrm p (crs a f)),In3 p l:=λl hl=>by
  obtain⟨a,h,rfl⟩:=Br.mp hl;exact(jn a h).1.1
 have c2:=Qo (g:=cG U [si p,sh (At pts),sh (An Aa f),sh (At left),sh (At (pts.map λa=>nrm p (crs a f))),Af,Af] 6 M5) (f:=cF U [si p,sh (At pts),sh (An Aa f),sh (At left),sh (At (pts.map λa=>nrm p (crs a f))),Af,Af] 6 JS) (q:=stq p pts f) left λx hx=>by
  have e:=ha p x _ hp (nl x hx).1 il;have q1:Ha p x (pts.map λa=>nrm p (crs a f))=pts.any λa=>decide (As a f x%p=0):=by
   unfold Ha;rw[List.any_map,Cp,Cs,Cs];constructor
   .rintro⟨a,h,z⟩;exact⟨a,h,DX ((TU hp (jn a h).2.1).mp (Bq z))⟩
   .rintro⟨a,h,z⟩;exact⟨a,h,DX ((TU hp (jn a h).2.1).mpr (Bq z))⟩
  rw[q1]at e;have q2:=La x f;have f1:=(Mj x).1;have f2:=(Mj f).1;unfold stq;generalize (pts.any λa=>decide (As a f x%p=0))=B at *
  generalize decide (x=f)=B2 at *;generalize At (pts.map λa=>nrm p (crs a f))=T2 at *
  generalize An Aa x=X at *;generalize An Aa f=F at *;generalize At pts=T at *;generalize At left=TL at *;constructor
  .cases B2<;>cases B<;>simp[cG,M5,e,q2,f1,f2]
  .simp[cF,JS]
 have s1:Cm (At pts)=.ok (pts.map (An Aa)):=rfl;have s2:Cm (At left)=.ok (left.map (An Aa)):=rfl;have e3:At (pts.map λa=>nrm p (crs a f))=.lst ((pts.map λa=>nrm p (crs a f)).map (An Aa)):=rfl
 have e4:At (left.filter (stq p pts f))=.lst ((left.filter (stq p pts f)).map (An Aa)):=rfl;rw[e3]at c2;rw[e4];generalize (left.filter (stq p pts f)).map (An Aa)=RL at *;generalize (pts.map λa=>nrm p (crs a f)).map (An Aa)=LL at *
 generalize left.map (An Aa)=M2 at *;generalize pts.map (An Aa)=M1 at *;generalize An Aa f=F at *;generalize At pts=T at *;generalize At left=TL at *;simp[MV,Df.run,BZ,s1,s2,c1,c2,CM]
noncomputable def IN(p:Ad):Ac R3->Ac R3->Ac R3->Ac R3
 |_,[],left=>left
 |seen,f::rest,left=>IN p (seen++[f]) rest (left.filter (stq p seen f))
theorem Q9(h:Ow U)(hp:P4 p){PT:Ac R3}(np:∀ x∈PT,NF p x)(nd:PT.Nodup)(hz:PT.length<=1000):∀(rest seen left:Ac R3)(s3 s4:Sl),PT=seen++rest->(∀ x∈left,NF p x)->∃ s3' s4',BH (D5 U [3,4] JO) (El seen.length (rest.map (An Aa))) [si p,sh (At PT),sh (At left),s3,s4]=.next [si p,sh (At PT),sh (At (IN p seen rest left)),s3',s4']
 |[],seen,left,s3,s4,_,_=>⟨s3,s4,rfl⟩
 |f::rest,seen,left,s3,s4,e,nl=>by
  have nf:NF p f:=np f (by rw[e];simp)
  have ns:∀ x∈seen,NF p x:=λx hx=>np x (by rw[e];simp[hx])
  have ni:f∉seen:=λz=>by
   rw[e,Vv]at nd;exact nd.2.2 f z f Aw rfl
  have e1:=h p seen f left hp ns nf ni nl;obtain⟨s3',s4',ih⟩:=Q9 h hp np nd hz rest (seen++[f]) (left.filter (stq p seen f)) (si seen.length) (sh (An Aa f)) (by rw[e];simp) λx hx=>nl x (Dd.mp hx).1
  refine⟨s3',s4',?_⟩;rw[Be,BD]at ih;rw[show IN p seen (f::rest) left=IN p (seen++[f]) rest (left.filter (stq p seen f)) from rfl,<-ih]
  have s1:slD (At PT) Af (Ab (seen.length:Ad))=.ok (At seen):=by
   rw[Ml PT (by omega),Dl,e,Vy]
   rfl
  show (D5 U [3,4] JO (.tup [.int seen.length,An Aa f]) _).turn _=_;have t:D5 U [3,4] JO (.tup [.int seen.length,An Aa f]) [si p,sh (At PT),sh (At left),s3,s4]=.next [si p,sh (At PT),sh (At (left.filter (stq p seen f))),si seen.length,sh (An Aa f)]:=by
   generalize At (left.filter (stq p seen f))=T3 at *;generalize At left=T2 at *;generalize At PT=T1 at *;generalize At seen=T0 at *;generalize An Aa f=F at *;simp[D5,JO,FB,Ew,s1,e1,slE]
  rw[t];rfl
noncomputable def F1(p:Ad)(pts:Ac R3):Ac R3:=IN p [] pts (Ch p)
def Ud(U:Gam):Prop:=∀(p:Ad)(pts:Ac R3),P4 p->(∀ x∈pts,NF p x)->pts.Nodup->pts.length<=1000->U.F 223 [.int p,At pts]=.ok (At (F1 p pts))
theorem rQ(h:Ow U)(ht:∀ p,P4 p->U.F 69 [.int p]=.ok (At (Ch p)))(pts:Ac R3)(hp:P4 p)(np:∀ x∈pts,NF p x)(nd:pts.Nodup)(hz:pts.length<=1000):LC.run U [.int p,At pts]=.ok (At (F1 p pts)):=by
 obtain⟨s3,s4,e⟩:=Q9 h hp np nd hz pts [] (Ch p) Af Af rfl λx hx=>(Jj hp).mp hx
 have e1:=ht p hp;have sq:Cm (At pts)=.ok (pts.map (An Aa)):=rfl;unfold F1;generalize At (IN p [] pts (Ch p))=T3 at *;generalize At (Ch p)=T2 at *;generalize pts.map (An Aa)=M at *;generalize At pts=T at *;have e':BH (D5 U [3,4] JO) (El 0 M) [si p,sh T,sh T2,Af,Af]=.next [si p,sh T,sh T3,s3,s4]:=e;simp[LC,Df.run,BZ,e1,sq,e']
end
noncomputable def Nf:Df:=⟨2,Ae,(.cons (.ife (.cmp .Eq (.var 0) (.var 1)) (.cons (.rais 107 (.cons (.var 0) .nil)) .nil) .nil) (.cons (.ret (.tup (.cons (.bin .Sub (.bin .Mult (.idx (.var 0) (.int 1)) (.idx (.var 1) (.int 2))) (.bin .Mult (.idx (.var 0) (.int 2)) (.idx (.var 1) (.int 1)))) (.cons (.bin .Sub (.bin .Mult (.idx (.var 0) (.int 2)) (.idx (.var 1) (.int 0))) (.bin .Mult (.idx (.var 0) (.int 0)) (.idx (.var 1) (.int 2)))) (.cons (.bin .Sub (.bin .Mult (.idx (.var 0) (.int 0)) (.idx (.var 1) (.int 1))) (.bin .Mult (.idx (.var 0) (.int 1)) (.idx (.var 1) (.int 0)))) .nil))))) .nil))⟩
theorem YH(U:Gam)(a b:R3)(ha:B3 a)(hb:B3 b)(ne:a≠b):Nf.run U [An Aa a,An Aa b]=.ok (An Aa (crs a b)):=by
 obtain⟨x0,x1,x2⟩:=G3 Aa a;obtain⟨y0,y1,y2⟩:=G3 Aa b;have k:∀ {u v},Bd 300 u->Bd 300 v->GB u v=Aa:=λhu hv=>Kh hu hv (by decide) (by decide)
 have f:∀ r:R3,flD 5 (An Aa r)=Aa:=λ_=>rfl
 have e:eqD (An Aa a) (An Aa b)=Ae:=by rw[La];exact BK ne
 simp[Nf,Df.run,BZ,f,e,x0,x1,x2,y0,y1,y2,k ha.2.1 hb.2.2,k ha.2.2 hb.2.1,k ha.2.2 hb.1,k ha.1 hb.2.2,k ha.1 hb.2.1,k ha.2.1 hb.1];rfl
section
variable{U:Gam}{ns:Ac Ad}
theorem in1(b:Ai):biD .int [.bl b]=.ok (.int (if b=Aa then 1 else 0)):=by cases b<;>rfl
end
theorem Jg{body:D->Rho->O}(I:Rho->Prop)(f:Ag->D)(g:Ag->Ao D):∀(L:Ac Ag),(∀ m∈L,∀ Z,I Z->(∃ d,g m=Ab d/\body (f m) Z=.ret d Ae)\/(g m=Af/\∃ Z',body (f m) Z=.next Z'/\I Z'))->∀ Z,I Z->(∃ d,L.findSome? g=Ab d/\BH body (L.map f) Z=.ret d Ae)\/(L.findSome? g=Af/\∃ Z',BH body (L.map f) Z=.next Z'/\I Z')
 |[],_,Z,i=>.inr ⟨rfl,Z,rfl,i⟩
 |m::L,h,Z,i=>by
  rcases h m (Aw ..) Z i with ⟨d,e1,e2⟩|⟨e1,Z',e2,i'⟩
  .refine .inl ⟨d,by rw[F4,e1],?_⟩
   show (body (f m) Z).turn _=_;rw[e2];rfl
  .rcases Jg I f g L (λm' h'=>h m' (Au _ h')) Z' i' with ⟨d,a,b⟩|⟨a,r,b,c⟩
   .refine .inl ⟨d,by rw[F4,e1];exact a,?_⟩
    show (body (f m) Z).turn _=_;rw[e2];exact b
   .refine .inr ⟨by rw[F4,e1];exact a,r,?_,c⟩
    show (body (f m) Z).turn _=_;rw[e2];exact b
noncomputable def atZ(pts:Ac R3)(i:Ag):R3:=pts.getD i (0,0,0)
theorem inZ(hg:∀ t∈pts,In3 p t){i:Ag}(h:i<pts.length):In3 p (atZ pts i):=by
 have e:atZ pts i=pts[i]:=by simp[atZ,h]
 rw[e];exact hg _ (C4 h)
theorem bZ(hp:P4 p)(hg:∀ t∈pts,In3 p t){i:Ag}(h:i<pts.length):B3 (atZ pts i):=(Gm hp (inZ hg h)).b3 (by decide)
theorem fE{i:Ag}(h:i<pts.length):CN (pts.map (An Aa)) (i:Ad)=.ok (An Aa (atZ pts i)):=by
 have h':i<(pts.map (An Aa)).length:=by simpa using h
 rw[Zh _ i h'];simp[atZ,h]
theorem Ge{i:Ag}(h:i<pts.length):Ec (At pts) (.int (i:Ad))=.ok (An Aa (atZ pts i)):=fE h
def IP(n:Ag):Prop:=n<20000
theorem iT{j:Ag}(hn:IP n)(hj:j<n):Cq ((j:Ad)+1) (n:Ad)=.ok ((AS (n-(j+1))).map λm=>D.int ((j+1+m:Ag):Ad)):=by
 have hn':n<20000:=hn;unfold Cq;rw[Ax (by omega)]
 unfold Ce;have e:((n:Ad)-((j:Ad)+1)).toNat=n-(j+1):=by omega
 rw[e]
 congr 1
theorem Uc:∀(xs:Ac D)(s:Ag),El (s:Ad) xs=(AS xs.length).map λm=>D.tup [.int ((s+m:Ag):Ad),xs.getD m .non]
 |[],s=>rfl
 |x::xs,s=>by
  have ih:=Uc xs (s+1);rw[El,Bj,Fm,Ba,Eo];have e:((s:Ad)+1)=((s+1:Ag):Ad):=by omega
  rw[e,ih]
  congr 1
  apply F6
  intro m _;show D.tup [.int ((s+1+m:Ag):Ad),xs.getD m .non]=D.tup [.int ((s+(m+1):Ag):Ad),(x::xs).getD (m+1) .non];have e2:s+1+m=s+(m+1):=by omega
  rw[e2];rfl
noncomputable def z3_(p:Ad)(pts:Ac R3)(i j k:Ag):Ao D:=if As (atZ pts i) (atZ pts j) (atZ pts k)%p=0 then Ab (.tup [An Aa (atZ pts i),An Aa (atZ pts j),An Aa (atZ pts k)]) else Af
noncomputable def z2_(p:Ad)(pts:Ac R3)(i j:Ag):Ao D:=(AS (pts.length-(j+1))).findSome? λm=>z3_ p pts i j (j+1+m)
noncomputable def z1_(p:Ad)(pts:Ac R3)(i:Ag):Ao D:=(AS (pts.length-(i+1))).findSome? λm=>z2_ p pts i (i+1+m)
noncomputable def z0_(p:Ad)(pts:Ac R3):Ao D:=(AS pts.length).findSome? (z1_ p pts)
theorem K7{t:Ag}{it:I}{body:Ss}{xs:Ac D}(h:Fl U Z it=.ok xs):evSs U Z (.cons (.fors t it body) .nil)=BH (AQ U t body) xs Z:=by rw[JW,kQ,N7,h,Og]
theorem LR{j a l:Ag}(hn:IP pts.length)(hj:j<pts.length)(h1:DT Z a=.ok (.int (j:Ad)))(h2:DT Z l=.ok (At pts)):Fl U Z (.rng2 (.bin .Add (.var a) (.int 1)) (.bi .len (.cons (.var l) .nil)))=.ok ((AS (pts.length-(j+1))).map λm=>D.int ((j+1+m:Ag):Ad)):=by
 have e1:evE U Z (.bin .Add (.var a) (.int 1))=.ok (.int ((j:Ad)+1)):=by
  show ((DT Z a).bind λx=>R.bind (.ok (.int 1)) λy=>C5 .Add x y)=_
  rw[h1];rfl
 have e2:evE U Z (.bi .len (.cons (.var l) .nil))=.ok (.int (pts.length:Ad)):=by
  show (((DT Z l).bind λx=>R.bind (.ok []) λxs=>.ok (x::xs)).bind λxs=>biD .len xs)=_
  rw[h2];show R.ok (D.int (((pts.map (An Aa)).length:Ag):Ad))=_;rw[Bl]
 have e3:∀ x y:E,(∀ r,top Z x r=r)->(∀ r,top Z y r=r)->∀ i j:Ad,evE U Z x=.ok (.int i)->evE U Z y=.ok (.int j)->Fl U Z (.rng2 x y)=Cq i j:=λx y tx ty i j hx hy=>by
  rw[Zb,ZW,tx,ty,hx,hy];simp only[R.bind_ok,NY]
 rw[e3 _ _ (λ_=>rfl) (λ_=>rfl) _ _ e1 e2]
 exact iT hn hj
section
variable{U:Gam}{p:Ad}{pts:Ac R3}
theorem Xq(h:ID U)(hp:P4 p)(hg:∀ t∈pts,In3 p t){i j:Ag}(hi:i<pts.length)(hj:j<pts.length)(hk:k<pts.length)(Z:Rho)(I:∃ s,Z=[si p,sh (At pts),si i,sh (An Aa (atZ pts i)),si j,s]):(∃ d,z3_ p pts i j k=Ab d/\AQ U 5 Jd (.int (k:Ad)) Z=.ret d Ae)\/(z3_ p pts i j k=Af/\∃ Z',AQ U 5 Jd (.int (k:Ad)) Z=.next Z'/\∃ s,Z'=[si p,sh (At pts),si i,sh (An Aa (atZ pts i)),si j,s]):=by
 obtain⟨s,rfl⟩:=I;have e:=h p Aa _ _ _ hp.pos (bZ hp hg hi) (bZ hp hg hj) (bZ hp hg hk);by_cases z:As (atZ pts i) (atZ pts j) (atZ pts k)%p=0
 .rw[z]at e;exact .inl ⟨_,Ax z,by simp[AQ,Jd,Ge hj,Ge hk,e,CM]⟩
 .exact .inr ⟨AF z,[si p,sh (At pts),si i,sh (An Aa (atZ pts i)),si j,si k],by simp[AQ,Jd,Ge hj,Ge hk,e,z],_,rfl⟩
theorem Xr(h:ID U)(hp:P4 p)(hg:∀ t∈pts,In3 p t)(hn:IP pts.length){i j:Ag}(hi:i<pts.length)(hj:j<pts.length)(Z:Rho)(I:∃ s t,Z=[si p,sh (At pts),si i,sh (An Aa (atZ pts i)),s,t]):(∃ d,z2_ p pts i j=Ab d/\AQ U 4 JT (.int (j:Ad)) Z=.ret d Ae)\/(z2_ p pts i j=Af/\∃ Z',AQ U 4 JT (.int (j:Ad)) Z=.next Z'/\∃ s t,Z'=[si p,sh (At pts),si i,sh (An Aa (atZ pts i)),s,t]):=by
 obtain⟨s,t,rfl⟩:=I;have e:AQ U 4 JT (.int (j:Ad)) [si p,sh (At pts),si i,sh (An Aa (atZ pts i)),s,t]=BH (AQ U 5 Jd) ((AS (pts.length-(j+1))).map λm=>D.int ((j+1+m:Ag):Ad)) [si p,sh (At pts),si i,sh (An Aa (atZ pts i)),si j,t]:=by
  exact K7 (LR hn hj rfl rfl)
 rw[e];rcases Jg (body:=AQ U 5 Jd) (λZ=>∃ s,Z=[si p,sh (At pts),si i,sh (An Aa (atZ pts i)),si j,s]) (λm=>D.int ((j+1+m:Ag):Ad)) (λm=>z3_ p pts i j (j+1+m)) (AS (pts.length-(j+1))) (λm hm Z I=>Xq h hp hg hi hj (by have:=A4.mp hm;omega) Z I) [si p,sh (At pts),si i,sh (An Aa (atZ pts i)),si j,t] ⟨t,rfl⟩ with ⟨d,a,b⟩|⟨a,r,b,u,c⟩
 .exact .inl ⟨d,a,b⟩
 .exact .inr ⟨a,r,b,_,u,c⟩
theorem Xs(h:ID U)(hp:P4 p)(hg:∀ t∈pts,In3 p t)(hn:IP pts.length){i:Ag}(hi:i<pts.length)(Z:Rho)(I:∃ a b s t,Z=[si p,sh (At pts),a,b,s,t]):(∃ d,z1_ p pts i=Ab d/\D5 U [2,3] Ht (.tup [.int ((0+i:Ag):Ad),(pts.map (An Aa)).getD i .non]) Z=.ret d Ae)\/(z1_ p pts i=Af/\∃ Z',D5 U [2,3] Ht (.tup [.int ((0+i:Ag):Ad),(pts.map (An Aa)).getD i .non]) Z=.next Z'/\∃ a b s t,Z'=[si p,sh (At pts),a,b,s,t]):=by
 obtain⟨a,b,s,t,rfl⟩:=I;have e0:(pts.map (An Aa)).getD i .non=An Aa (atZ pts i):=by simp[atZ,hi]
 have e:D5 U [2,3] Ht (.tup [.int ((0+i:Ag):Ad),(pts.map (An Aa)).getD i .non]) [si p,sh (At pts),a,b,s,t]=BH (AQ U 4 JT) ((AS (pts.length-(i+1))).map λm=>D.int ((i+1+m:Ag):Ad)) [si p,sh (At pts),si i,sh (An Aa (atZ pts i)),s,t]:=by
  have e':∀(x y:D),D5 U [2,3] Ht (.tup [x,y]) [si p,sh (At pts),a,b,s,t]=evSs U [si p,sh (At pts),sh x,sh y,s,t] Ht:=λ_ _=>rfl
  rw[e0,E3,e'];unfold Ht;rw[K7 (LR hn hi rfl rfl)]
 rw[e];rcases Jg (body:=AQ U 4 JT) (λZ=>∃ s t,Z=[si p,sh (At pts),si i,sh (An Aa (atZ pts i)),s,t]) (λm=>D.int ((i+1+m:Ag):Ad)) (λm=>z2_ p pts i (i+1+m)) (AS (pts.length-(i+1))) (λm hm Z I=>Xr h hp hg hn hi (by have:=A4.mp hm;omega) Z I) [si p,sh (At pts),si i,sh (An Aa (atZ pts i)),s,t] ⟨s,t,rfl⟩ with ⟨d,a,b⟩|⟨a,r,b,u,v,c⟩
 .exact .inl ⟨d,a,b⟩
 .exact .inr ⟨a,r,b,_,_,u,v,c⟩
theorem ZI(h:ID U)(hp:P4 p)(hg:∀ t∈pts,In3 p t)(hn:IP pts.length):Ng.run U [.int p,At pts]=.ok ((z0_ p pts).getD .non):=by
 have en:=Uc (pts.map (An Aa)) 0;rw[Bl]at en;have en':El 0 (pts.map (An Aa))=(AS pts.length).map λm=>D.tup [.int ((0+m:Ag):Ad),(pts.map (An Aa)).getD m .non]:=en
 have hE:Fl U [si p,sh (At pts),Af,Af,Af,Af] (.enm (.var 1))=.ok ((AS pts.length).map λm=>D.tup [.int ((0+m:Ag):Ad),(pts.map (An Aa)).getD m .non]):=by
  show R.ok (El 0 (pts.map (An Aa)))=_;rw[en']
 rcases Jg (body:=D5 U [2,3] Ht) (λZ=>∃ a b s t,Z=[si p,sh (At pts),a,b,s,t]) (λm=>D.tup [.int ((0+m:Ag):Ad),(pts.map (An Aa)).getD m .non]) (z1_ p pts) (AS pts.length) (λm hm Z I=>Xs h hp hg hn (A4.mp hm) Z I) [si p,sh (At pts),Af,Af,Af,Af] ⟨_,_,_,_,rfl⟩ with ⟨d,a,b⟩|⟨a,r,b,u1,u2,u3,u4,c⟩
 .have e:z0_ p pts=Ab d:=a;show (evSs U [si p,sh (At pts),Af,Af,Af,Af] (.cons (.forT [2,3] (.enm (.var 1)) Ht) (.cons (.ret .non) .nil))).ans Ae=_;rw[JW,Rc,hE,Q7,b,e];rfl
 .have e:z0_ p pts=Af:=a;subst c;show (evSs U [si p,sh (At pts),Af,Af,Af,Af] (.cons (.forT [2,3] (.enm (.var 1)) Ht) (.cons (.ret .non) .nil))).ans Ae=_;rw[JW,Rc,hE,Q7,b,e];rfl
noncomputable def Jc:Ss:=(.cons (.ife (.cmp .Eq (.call 233 (.cons (.var 0) (.cons (.var 4) (.cons (.idx (.var 1) (.var 5)) .nil)))) (.int 0)) (.cons (.ret (.tup (.cons (.idx (.var 1) (.var 2)) (.cons (.idx (.var 1) (.var 3)) (.cons (.idx (.var 1) (.var 5)) .nil))))) .nil) .nil) .nil)
noncomputable def IC:Ss:=(.cons (.asg 4 Ae (.call 232 (.cons (.var 0) (.cons (.idx (.var 1) (.var 2)) (.cons (.idx (.var 1) (.var 3)) .nil))))) (.cons (.fors 5 (.rng2 (.bin .Add (.var 3) (.int 1)) (.bi .len (.cons (.var 1) .nil))) Jc) .nil))
noncomputable def Jb:Ss:=(.cons (.fors 3 (.rng2 (.bin .Add (.var 2) (.int 1)) (.bi .len (.cons (.var 1) .nil))) IC) .nil)
noncomputable def MY:Df:=⟨6,Ae,(.cons (.fors 2 (.rng (.bi .len (.cons (.var 1) .nil))) Jb) (.cons (.ret .non) .nil))⟩
theorem gL(hc:Hv U)(hs:G1 U)(hp:P4 p)(hg:∀ t∈pts,In3 p t){i j:Ag}(hi:i<pts.length)(hj:j<pts.length)(hk:k<pts.length):U.F 233 [.int p,An Aa (mdR p (crs (atZ pts i) (atZ pts j))),An Aa (atZ pts k)]=.ok (.int (As (atZ pts i) (atZ pts j) (atZ pts k)%p)):=by
 have e:=hs p Aa Aa (mdR p (crs (atZ pts i) (atZ pts j))) (atZ pts k) hp.pos ((Gm hp (Mu hp.pos _)).b3 (by decide)) (bZ hp hg hk)
 have q:BA (mdR p (crs (atZ pts i) (atZ pts j))) (atZ pts k)%p=As (atZ pts i) (atZ pts j) (atZ pts k)%p:=by
  have c:=Hx (CgR.md (p:=p) (a:=mdR p (crs (atZ pts i) (atZ pts j))) _root_.rfl) (CgR.rfl (a:=atZ pts k));have d:BA (crs (atZ pts i) (atZ pts j)) (atZ pts k)=As (atZ pts i) (atZ pts j) (atZ pts k):=by unfold BA crs As det;grind
  rw[d]at c;exact c
 rw[q]at e;exact e
theorem tM(hc:Hv U)(hs:G1 U)(hp:P4 p)(hg:∀ t∈pts,In3 p t){i j:Ag}(hi:i<pts.length)(hj:j<pts.length)(hk:k<pts.length)(Z:Rho)(I:∃ s,Z=[si p,sh (At pts),si i,si j,sh (An Aa (mdR p (crs (atZ pts i) (atZ pts j)))),s]):(∃ d,z3_ p pts i j k=Ab d/\AQ U 5 Jc (.int (k:Ad)) Z=.ret d Ae)\/(z3_ p pts i j k=Af/\∃ Z',AQ U 5 Jc (.int (k:Ad)) Z=.next Z'/\∃ s,Z'=[si p,sh (At pts),si i,si j,sh (An Aa (mdR p (crs (atZ pts i) (atZ pts j)))),s]):=by
 obtain⟨s,rfl⟩:=I;have e:=gL hc hs hp hg hi hj hk;by_cases z:As (atZ pts i) (atZ pts j) (atZ pts k)%p=0
 .rw[z]at e;exact .inl ⟨_,Ax z,by
   generalize An Aa (mdR p (crs (atZ pts i) (atZ pts j)))=LN at *;simp[AQ,Jc,Ge hi,Ge hj,Ge hk,e,CM]⟩
 .exact .inr ⟨AF z,[si p,sh (At pts),si i,si j,sh (An Aa (mdR p (crs (atZ pts i) (atZ pts j)))),si k],by
   generalize An Aa (mdR p (crs (atZ pts i) (atZ pts j)))=LN at *;simp[AQ,Jc,Ge hi,Ge hj,Ge hk,e,z],_,rfl⟩
theorem tN(hc:Hv U)(hs:G1 U)(hp:P4 p)(hg:∀ t∈pts,In3 p t)(hn:IP pts.length){i j:Ag}(hi:i<pts.length)(hj:j<pts.length)(Z:Rho)(I:∃ s t u,Z=[si p,sh (At pts),si i,s,t,u]):(∃ d,z2_ p pts i j=Ab d/\AQ U 3 IC (.int (j:Ad)) Z=.ret d Ae)\/(z2_ p pts i j=Af/\∃ Z',AQ U 3 IC (.int (j:Ad)) Z=.next Z'/\∃ s t u,Z'=[si p,sh (At pts),si i,s,t,u]):=by
 obtain⟨s,t,u,rfl⟩:=I;have e1:=hc p Aa Aa (atZ pts i) (atZ pts j) hp.pos (bZ hp hg hi) (bZ hp hg hj);have e:AQ U 3 IC (.int (j:Ad)) [si p,sh (At pts),si i,s,t,u]=BH (AQ U 5 Jc) ((AS (pts.length-(j+1))).map λm=>D.int ((j+1+m:Ag):Ad)) [si p,sh (At pts),si i,si j,sh (An Aa (mdR p (crs (atZ pts i) (atZ pts j)))),u]:=by
  have a1:evS U [si p,sh (At pts),si i,si j,t,u] (.asg 4 Ae (.call 232 (.cons (.var 0) (.cons (.idx (.var 1) (.var 2)) (.cons (.idx (.var 1) (.var 3)) .nil)))))=.next [si p,sh (At pts),si i,si j,sh (An Aa (mdR p (crs (atZ pts i) (atZ pts j)))),u]:=by
   generalize An Aa (mdR p (crs (atZ pts i) (atZ pts j)))=LN at *;simp[Ge hi,Ge hj,e1]
  show evSs U [si p,sh (At pts),si i,si j,t,u] IC=_;unfold IC;rw[JW,a1,fB];generalize An Aa (mdR p (crs (atZ pts i) (atZ pts j)))=LN;exact K7 (LR hn hj rfl rfl)
 rw[e];rcases Jg (body:=AQ U 5 Jc) (λZ=>∃ s,Z=[si p,sh (At pts),si i,si j,sh (An Aa (mdR p (crs (atZ pts i) (atZ pts j)))),s]) (λm=>D.int ((j+1+m:Ag):Ad)) (λm=>z3_ p pts i j (j+1+m)) (AS (pts.length-(j+1))) (λm hm Z I=>tM hc hs hp hg hi hj (by have:=A4.mp hm;omega) Z I) [si p,sh (At pts),si i,si j,sh (An Aa (mdR p (crs (atZ pts i) (atZ pts j)))),u] ⟨_,rfl⟩ with ⟨d,a,b⟩|⟨a,r,b,w,c⟩
 .exact .inl ⟨d,a,b⟩
 .exact .inr ⟨a,r,b,_,_,w,c⟩
theorem tO(hc:Hv U)(hs:G1 U)(hp:P4 p)(hg:∀ t∈pts,In3 p t)(hn:IP pts.length){i:Ag}(hi:i<pts.length)(Z:Rho)(I:∃ r s t u,Z=[si p,sh (At pts),r,s,t,u]):(∃ d,z1_ p pts i=Ab d/\AQ U 2 Jb (.int (0+(i:Ad))) Z=.ret d Ae)\/(z1_ p pts i=Af/\∃ Z',AQ U 2 Jb (.int (0+(i:Ad))) Z=.next Z'/\∃ r s t u,Z'=[si p,sh (At pts),r,s,t,u]):=by
 obtain⟨r,s,t,u,rfl⟩:=I;rw[CW];have e:AQ U 2 Jb (.int (i:Ad)) [si p,sh (At pts),r,s,t,u]=BH (AQ U 3 IC) ((AS (pts.length-(i+1))).map λm=>D.int ((i+1+m:Ag):Ad)) [si p,sh (At pts),si i,s,t,u]:=by
  exact K7 (LR hn hi rfl rfl)
 rw[e];rcases Jg (body:=AQ U 3 IC) (λZ=>∃ s t u,Z=[si p,sh (At pts),si i,s,t,u]) (λm=>D.int ((i+1+m:Ag):Ad)) (λm=>z2_ p pts i (i+1+m)) (AS (pts.length-(i+1))) (λm hm Z I=>tN hc hs hp hg hn hi (by have:=A4.mp hm;omega) Z I) [si p,sh (At pts),si i,s,t,u] ⟨_,_,_,rfl⟩ with ⟨d,a,b⟩|⟨a,r,b,w,x,y,c⟩
 .exact .inl ⟨d,a,b⟩
 .exact .inr ⟨a,r,b,_,w,x,y,c⟩
theorem rL(hN:N=n)(l:biD .len [T]=.ok (.int N))(h:N<=1000)(h0:0<=N):Fl U [si p,sh T,Af,Af,Af,Af] (.rng (.bi .len (.cons (.var 1) .nil)))=.ok (Ce 0 n):=by
 have rg:Cq 0 N=.ok (Ce 0 (N-0).toNat):=Jf (by decide) (by decide) (by omega) (by omega)
 have q:(N-0).toNat=n:=by omega
 rw[q]at rg;generalize Ce 0 n=RR at *;have e:evE U [si p,sh T,Af,Af,Af,Af] (.bi .len (.cons (.var 1) .nil))=.ok (.int N):=by simp[l]
 rw[Zm,fK];simp only[jV,e,R.bind_ok,NY];exact rg
theorem K2(pts:Ac R3):biD .len [At pts]=.ok (.int pts.length):=by unfold At;simp
theorem dU(hz:pts.length<=1000):Fl U [si p,sh (At pts),Af,Af,Af,Af] (.rng (.bi .len (.cons (.var 1) .nil)))=.ok (Ce 0 pts.length):=rL rfl (K2 pts) (by omega) (by omega)
theorem ZE(hc:Hv U)(hs:G1 U)(hp:P4 p)(hg:∀ t∈pts,In3 p t)(hz:pts.length<=1000):MY.run U [.int p,At pts]=.ok ((z0_ p pts).getD .non):=by
 have hn:IP pts.length:=by show pts.length<20000;omega
 have r6:=dU (U:=U) (p:=p) hz;rw[show Ce 0 pts.length=(AS pts.length).map fun(i:Ag)=>D.int (0+(i:Ad)) by unfold Ce;rfl]at r6
 rcases Jg (body:=AQ U 2 Jb) (λZ=>∃ r s t u,Z=[si p,sh (At pts),r,s,t,u]) (fun(m:Ag)=>D.int (0+(m:Ad))) (z1_ p pts) (AS pts.length) (λm hm Z I=>tO hc hs hp hg hn (A4.mp hm) Z I) [si p,sh (At pts),Af,Af,Af,Af] ⟨_,_,_,_,rfl⟩ with ⟨d,a,b⟩|⟨a,r,b,r1,r2,r3,r4,c⟩
 .have e:z0_ p pts=Ab d:=a;show (evSs U [si p,sh (At pts),Af,Af,Af,Af] (.cons (.fors 2 (.rng (.bi .len (.cons (.var 1) .nil))) Jb) (.cons (.ret .non) .nil))).ans Ae=_;rw[JW,N7,r6,Og,b,e];rfl
 .have e:z0_ p pts=Af:=a;subst c;show (evSs U [si p,sh (At pts),Af,Af,Af,Af] (.cons (.fors 2 (.rng (.bi .len (.cons (.var 1) .nil))) Jb) (.cons (.ret .non) .nil))).ans Ae=_;rw[JW,N7,r6,Og,b,e];rfl
end
noncomputable def JP:Ss:=(.cons (.ife (.cmp .In (.var 2) (.sl (.var 0) .non (.var 1))) (.cons (.rais 107 (.cons (.var 2) .nil)) .nil) .nil) .nil)
noncomputable def NW:Df:=⟨3,Ae,(.cons (.forT [1,2] (.enm (.var 0)) JP) .nil)⟩
section
variable{U:Gam}{p:Ad}
theorem bD(PT seen rest:Ac R3)(e:PT=seen++rest):slD (At PT) Af (Ab (seen.length:Ad))=.ok (At seen):=by
 rw[Ml PT (by omega),Dl,e,Vy]
 rfl
theorem Nq(a:Ad)(n:Ag):Ce a (n+1)=.int a::Ce (a+1) n:=by
 unfold Ce;rw[Fm,Ba,Eo]
 congr 1
 .simp
 .refine F6 λk _=>?_
  simp only[Function.comp]
  congr 1
  omega
end
section
variable{U:Gam}{p:Ad}
noncomputable abbrev ow(l:Ac R3):Sl:=Ab (.lst (l.map (An Aa)),Aa)
theorem Ot(hp:P4 p):(Ch p).length<=133:=by
 unfold Ch;rw[Bl,List.length_range];rcases hp with rfl|rfl|rfl|rfl<;>decide
end
noncomputable def Yb:Df:=⟨2,Ae,(.cons (.asg 1 Ae (.bin .Mod (.var 1) (.bin .Add (.bin .Add (.bin .Mult (.var 0) (.var 0)) (.var 0)) (.int 1)))) (.cons (.ife (.cmp .Eq (.var 1) (.int 0)) (.cons (.ret (.tup (.cons (.int 0) (.cons (.int 0) (.cons (.int 1) .nil))))) .nil) .nil) (.cons (.ife (.cmp .LtE (.var 1) (.var 0)) (.cons (.ret (.tup (.cons (.int 0) (.cons (.int 1) (.cons (.bin .Sub (.var 1) (.int 1)) .nil))))) .nil) .nil) (.cons (.ret (.tup (.cons (.int 1) (.cons (.bin .FloorDiv (.bin .Sub (.bin .Sub (.var 1) (.var 0)) (.int 1)) (.var 0)) (.cons (.bin .Mod (.bin .Sub (.bin .Sub (.var 1) (.var 0)) (.int 1)) (.var 0)) .nil))))) .nil))))⟩
section
variable{U:Gam}{ns:Ac Ad}{p:Ad}
theorem Qf(x:R3)(l:Ac R3):Bw .NotIn (An Aa x) (At l)=.ok (.bl (!decide (x∈l))):=by
 have h:=Q4 x l;have h:(if (flD 5 (An Aa x)&&(l.map (An Aa)).all (flD 5))=Aa then R.ok (D.bl ((l.map (An Aa)).any λy=>eqD y (An Aa x))) else .bad)=_:=h
 show (if (flD 5 (An Aa x)&&(l.map (An Aa)).all (flD 5))=Aa then R.ok (D.bl (!(l.map (An Aa)).any λy=>eqD y (An Aa x))) else .bad)=_
 split at h
 .rename_i hc;rw[Ax hc]
  injection h with h
  injection h with h
  rw[h]
 .cases h
end
section
variable{U:Gam}{ns:Ac Ad}{p:Ad}
end
section
variable{p:Ad}
theorem Kf(hp:P4 p){s:Ad}(s0:0<=s)(s1:s<p)(t0:0<=t)(t1:t<p)(ne:s≠t):(t-s)%p≠0:=by
 rcases hp with rfl|rfl|rfl|rfl<;>omega
theorem mE(hp:P4 p){z:R3}(hx:x∈D8 p)(hy:y∈D8 p)(hz:z∈D8 p)(n1:x≠y)(n2:x≠z)(n3:y≠z):As x y z%p≠0:=by
 have p0:=hp.pos;have fm:∀{w:R3},w∈D8 p->w=(0,0,1)\/∃ t:Ad,0<=t/\t<p/\w=(1,t,t*t):=λ{w} hw=>by
  unfold D8 at hw;rcases AE.mp hw with h|h
  .exact .inl h
  .obtain⟨t,ht,rfl⟩:=Br.mp h;have:=A4.mp ht;exact .inr ⟨t,by omega,by omega,rfl⟩
 have df:∀{s t:Ad},((1:Ad),s,s*s)≠(1,t,t*t)->s≠t:=λh z=>h (by rw[z])
 rcases fm hx with rfl|⟨s,s0,s1,rfl⟩
 .rcases fm hy with rfl|⟨t,t0,t1,rfl⟩
  .exact absurd rfl n1
  .rcases fm hz with rfl|⟨u,u0,u1,rfl⟩
   .exact absurd rfl n2
   .have k:=Kf hp t0 t1 u0 u1 (df n3);rw[show As ((0:Ad),0,1) (1,t,t*t) (1,u,u*u)=u-t by unfold As det;simp]
    exact k
 .rcases fm hy with rfl|⟨t,t0,t1,rfl⟩
  .rcases fm hz with rfl|⟨u,u0,u1,rfl⟩
   .exact absurd rfl n3
   .have k:=Kf hp u0 u1 s0 s1 (λz=>df n2 z.symm)
    rw[show As ((1:Ad),s,s*s) (0,0,1) (1,u,u*u)=s-u by unfold As det;simp;try grind]
    exact k
  .rcases fm hz with rfl|⟨u,u0,u1,rfl⟩
   .have k:=Kf hp s0 s1 t0 t1 (df n1);rw[show As ((1:Ad),s,s*s) (1,t,t*t) (0,0,1)=t-s by unfold As det;simp;try grind]
    exact k
   .have k1:=Kf hp s0 s1 t0 t1 (df n1);have k2:=Kf hp s0 s1 u0 u1 (df n2);have k3:=Kf hp t0 t1 u0 u1 (df n3);rw[show As ((1:Ad),s,s*s) (1,t,t*t) (1,u,u*u)=(t-s)*((u-s)*(u-t)) by unfold As det;grind]
    exact DJ hp k1 (DJ hp k2 k3)
def N3s(p:Ad)(L:Ac R3):Prop:=∀ x∈L,∀ y∈L,∀ z∈L,x≠y->x≠z->y≠z->As x y z%p≠0
theorem gA(a b c x y z:R3):As (ap a b c x) (ap a b c y) (ap a b c z)=As a b c*As x y z:=by unfold As det ap BA;grind
theorem fW(d e f:Ad)(x y z:R3):As (B8 d x) (B8 e y) (B8 f z)=d*(e*(f*As x y z)):=by unfold As det B8;grind
theorem fY(hp:P4 p){z z':R3}(hx:Pr p x x')(hy:Pr p y y')(hz:Pr p z z')(h:As x' y' z'%p≠0):As x y z%p≠0:=by
 obtain⟨d,dz,ed⟩:=hx;obtain⟨e,ez,ee⟩:=hy;obtain⟨f,fz,ef⟩:=hz;have c:=Sf ed ee ef;rw[fW]at c;rw[show As x y z%p=_ from c]
 exact DJ hp dz (DJ hp ez (DJ hp fz h))
theorem cW(hp:P4 p){a b c:R3}(G:As a b c%p≠0):N3s p ((D8 p).map λx=>nrm p (ap a b c x)):=by
 intro x hx y hy z hz n1 n2 n3;obtain⟨x0,hx0,rfl⟩:=Br.mp hx;obtain⟨y0,hy0,rfl⟩:=Br.mp hy;obtain⟨z0,hz0,rfl⟩:=Br.mp hz;have sp:∀ {w},w∈D8 p->Pr p (nrm p (ap a b c w)) (ap a b c w):=λ{w} hw=>by
  obtain⟨_,l,el⟩:=K5 hp hw;obtain⟨k,ek⟩:=Kd hp G el CgR.rfl;exact(J3 hp ek).2
 refine fY hp (sp hx0) (sp hy0) (sp hz0) ?_;rw[gA];exact DJ hp G (mE hp hx0 hy0 hz0 (λz=>n1 (by rw[z])) (λz=>n2 (by rw[z])) (λz=>n3 (by rw[z])))
theorem oQ(h:∀ i j k,i<j->j<k->k<pts.length->As (atZ pts i) (atZ pts j) (atZ pts k)%p≠0):z0_ p pts=Af:=by
 unfold z0_;rw[EJ];intro i hi;unfold z1_;rw[EJ];intro m hm;unfold z2_;rw[EJ];intro n hn;have a:=A4.mp hi;have b:=A4.mp hm;have c:=A4.mp hn;unfold z3_;rw[AF (h i (i+1+m) (i+1+m+1+n) (by omega) (by omega) (by omega))]
theorem oS{d:D}(h:z0_ p pts=Ab d):∃ x∈pts,∃ y∈pts,∃ z∈pts,d=.tup [An Aa x,An Aa y,An Aa z]:=by
 unfold z0_ at h;obtain⟨i,hi,h⟩:=DY h;unfold z1_ at h;obtain⟨m,hm,h⟩:=DY h;unfold z2_ at h;obtain⟨n,hn,h⟩:=DY h;have a:=A4.mp hi;have b:=A4.mp hm;have c:=A4.mp hn;have mem:∀{k:Ag},k<pts.length->atZ pts k∈pts:=λ{k} hk=>by
  have e:atZ pts k=pts[k]:=by simp[atZ,hk]
  rw[e];exact C4 hk
 unfold z3_ at h;split at h
 .cases h;exact⟨_,mem (by omega),_,mem (by omega),_,mem (by omega),rfl⟩
 .cases h
theorem Oq(hk:k<pts.length):atZ pts k=pts[k]:=by simp[atZ,hk]
theorem oR(nd:pts.Nodup)(h:N3s p pts):z0_ p pts=Af:=oQ λi j k h1 h2 h3=>by
 have ne:∀{a b:Ag}(ha:a<pts.length)(hb:b<pts.length),a<b->pts[a]≠pts[b]:=λ{a b} ha hb hab z=>by
  have:=(Vp nd).mp z;omega
 rw[Oq (by omega),Oq (by omega),Oq h3]
 exact h _ (C4 _) _ (C4 _) _ (C4 _) (ne _ _ h1) (ne _ _ (by omega)) (ne _ _ h2)
end
def Kl(U:Gam):Prop:=∀(p n:Ad),P4 p->U.F 231 [.int p,.int n]=.ok (An Aa (ptI p (n%(p*p+p+1))))
noncomputable def IB:Ss:=(.cons (.ife (.cmp .Eq (.call 61 (.cons (.var 0) (.cons (.var 4) (.cons (.var 5) (.cons (.var 2) .nil))))) (.int 0)) (.cons (.ret (.tup (.cons (.var 4) (.cons (.var 5) .nil)))) .nil) .nil) .nil)
noncomputable def HX:Ss:=(.cons (.fors 5 (.e (.sl (.var 1) (.bin .Add (.var 3) (.int 1)) .non)) IB) .nil)
noncomputable def KR:Df:=⟨6,Ae,(.cons (.forT [3,4] (.enm (.var 1)) HX) (.cons (.ret .non) .nil))⟩
noncomputable def M3:E:=(.call 231 (.cons (.var 0) (.cons (.var 8) .nil)))
noncomputable def IY:Ss:=(.cons (.ife (.cmp .Eq (.call 233 (.cons (.var 0) (.cons (.var 6) (.cons (.var 7) .nil)))) (.int 0)) (.cons (.dsd 2 (.var 7) (.tup (.cons (.idx (.var 1) (.var 4)) (.cons (.idx (.var 1) (.var 5)) .nil)))) .nil) .nil) .nil)
noncomputable def JV:Ss:=(.cons (.asg 6 Ae (.call 232 (.cons (.var 0) (.cons (.idx (.var 1) (.var 4)) (.cons (.idx (.var 1) (.var 5)) .nil))))) (.cons (.fors 7 (.e (.var 3)) IY) .nil))
noncomputable def JU:Ss:=(.cons (.fors 5 (.rng2 (.bin .Add (.var 4) (.int 1)) (.bi .len (.cons (.var 1) .nil))) JV) .nil)
noncomputable def KQ:Df:=⟨9,Ae,(.cons (.dnw 2) (.cons (.asg 3 Ae (.comp M3 8 (.rng (.bin .Add (.bin .Add (.bin .Mult (.var 0) (.var 0)) (.var 0)) (.int 1))) DK)) (.cons (.fors 4 (.rng (.bi .len (.cons (.var 1) .nil))) JU) (.cons (.ret (.var 2)) .nil))))⟩
noncomputable def prL:Ac R3->Ac (R3×R3)
 |[]=>[]
 |a::r=>r.map (λb=>(a,b))++prL r
noncomputable def Fj(p:Ad)(x:R3)(q:R3×R3):Ai:=decide (As q.1 q.2 x%p=0)
noncomputable def twD(q:R3×R3):D:=.tup [An Aa q.1,An Aa q.2]
noncomputable def fpr(p:Ad)(pts:Ac R3)(x:R3):Ao (R3×R3):=(prL pts).find? (Fj p x)
noncomputable def okF(p:Ad):Ac R3->Ac R3->R3->Ai
 |_,[],_=>Aa
 |seen,f::rest,x=>stq p seen f x&&okF p (seen++[f]) rest x
theorem Ra(p:Ad):∀(rest seen left:Ac R3),IN p seen rest left=left.filter (okF p seen rest)
 |[],seen,left=>by
  show left=_;exact(List.filter_eq_self.mpr λ_ _=>rfl).symm
 |f::rest,seen,left=>by
  show IN p (seen++[f]) rest (left.filter (stq p seen f))=_;rw[Ra p rest,List.filter_filter]
  congr 1
  funext x
  show _=(stq p seen f x&&okF p (seen++[f]) rest x);rw[Bool.and_comm]
theorem RG(p:Ad)(x:R3):∀(rest seen:Ac R3),okF p seen rest x=Aa↔x∉rest/\(∀ a∈seen,∀ f∈rest,As a f x%p≠0)/\∀ q∈prL rest,Fj p x q=Ae
 |[],seen=>by simp[okF,prL]
 |f::rest,seen=>by
  show (stq p seen f x&&okF p (seen++[f]) rest x)=Aa↔_;rw[Ap,RG p x rest (seen++[f])];unfold stq;simp only[Ap,Bu,Ed,Vd,AW,List.mem_append,Bm,AE,prL,Br,Fj,EL];constructor
  .rintro⟨⟨h1,h2⟩,h3,h4,h5⟩;refine⟨⟨h1,h3⟩,λa ha g hg=>?_,λq hq=>?_⟩
   .rcases hg with rfl|hg
    .exact h2 a ha
    .exact h4 a (.inl ha) g hg
   .rcases hq with ⟨b,hb,rfl⟩|hq
    .exact h4 f (.inr (.inl rfl)) b hb
    .exact h5 q hq
  .rintro⟨⟨h1,h3⟩,h4,h5⟩;refine⟨⟨h1,λa ha=>h4 a ha f (.inl rfl)⟩,h3,λa ha g hg=>?_,λq hq=>h5 q (.inr hq)⟩
   rcases ha with ha|rfl|ha
   .exact h4 a ha g (.inr hg)
   .exact h5 (a,g) (.inl ⟨g,hg,rfl⟩)
   .cases ha
noncomputable def HB(p:Ad)(pts:Ac R3)(x:R3):Ai:=!decide (x∈pts)&&(fpr p pts x).isNone
theorem Oh(p:Ad)(pts:Ac R3):F1 p pts=(Ch p).filter (HB p pts):=by
 unfold F1;rw[Ra]
 congr 1
 funext x
 rw[Cp,RG];unfold HB fpr;simp
noncomputable def H9(kv:Ac (Ac Ad×D))(k:Ac Ad)(v:D):Ac (Ac Ad×D):=if (kv.any λq=>q.1==k)=Aa then kv else FA kv k v
theorem Of{k:Ac Ad}:(kv.any λq=>q.1==k)=(Cu kv k).isSome:=by
 unfold Cu;rw[VL,Cp,List.find?_isSome,Cs]
theorem YZ(kv:Ac (Ac Ad×D))(k k':Ac Ad)(v:D):Cu (H9 kv k v) k'=if k'=k then Ab ((Cu kv k).getD v) else Cu kv k':=by
 unfold H9;cases e:(kv.any λq=>q.1==k) with
 |true=>
  rw[Ax rfl];rw[Of]at e;split
  .rename_i h;rw[h];obtain⟨d,hd⟩:=E4.mp e;rw[hd];rfl
  .rfl
 |false=>
  rw[AF (by decide)]
  unfold FA;rw[AF (by rw[e];decide)]
  have hn:Cu kv k=Af:=by
   rw[Of]at e;cases h:Cu kv k with
   |none=>rfl
   |some d=>rw[h]at e;cases e
  rw[hn];show ((kv++[(k,v)]).find? λq=>q.1==k').map (·.2)=_
  rw[Vk];split
  .rename_i h;subst h;have:kv.find? (λq=>q.1==k')=Af:=by
    unfold Cu at hn;simpa using hn
   rw[this];simp
  .rename_i h;have:([(k,v)].find? λq=>q.1==k')=Af:=by
    simp;exact λz=>h z.symm
   rw[this];unfold Cu;simp
theorem QT(kv:Ac (Ac Ad×D))(k:Ac Ad)(v:D):(H9 kv k v).length<=kv.length+1:=by
 unfold H9;split
 .omega
 .unfold FA;split
  .rw[Bl];omega
  .simp
noncomputable def F2(p:Ad)(q:R3×R3)(kv:Ac (Ac Ad×D))(x:R3):Ac (Ac Ad×D):=if Fj p x q=Aa then H9 kv (tri x) (twD q) else kv
noncomputable def Hb(p:Ad)(kv:Ac (Ac Ad×D))(q:R3×R3):Ac (Ac Ad×D):=(Ch p).foldl (F2 p q) kv
theorem Ro(p:Ad)(q:R3×R3)(y:R3):∀(xs:Ac R3)(kv:Ac (Ac Ad×D)),Cu (xs.foldl (F2 p q) kv) (tri y)=if y∈xs/\Fj p y q=Aa then Ab ((Cu kv (tri y)).getD (twD q)) else Cu kv (tri y)
 |[],kv=>by simp
 |x::xs,kv=>by
  rw[FJ,Ro p q y xs];by_cases hx:Fj p x q=Aa
  .have e:F2 p q kv x=H9 kv (tri x) (twD q):=Ax hx;rw[e,YZ];by_cases hy:y=x
   .subst hy;rw[Ax rfl];simp[hx]
   .have:¬ tri y=tri x:=λz=>hy (bW z)
    rw[AF this];simp[hy]
  .have e:F2 p q kv x=kv:=AF hx;rw[e];by_cases hy:y=x
   .subst hy;simp[hx]
   .simp[hy]
theorem Rn(p:Ad)(q:R3×R3):∀(xs:Ac R3)(kv:Ac (Ac Ad×D)),(xs.foldl (F2 p q) kv).length<=kv.length+xs.length
 |[],kv=>by simp
 |x::xs,kv=>by
  rw[FJ];have h1:=Rn p q xs (F2 p q kv x);have h2:(F2 p q kv x).length<=kv.length+1:=by
   unfold F2;split
   .exact QT ..
   .omega
  rw[Bj];omega
noncomputable def GH(p:Ad)(pts:Ac R3):Ac (Ac Ad×D):=(prL pts).foldl (Hb p) []
theorem Rs(p:Ad){y:R3}(hy:y∈Ch p):∀(L:Ac (R3×R3))(kv:Ac (Ac Ad×D)),Cu (L.foldl (Hb p) kv) (tri y)=match Cu kv (tri y) with
  |some v=>Ab v
  |none=>(L.find? (Fj p y)).map twD
 |[],kv=>by
  show Cu kv (tri y)=_;cases Cu kv (tri y)<;>rfl
 |q::L,kv=>by
  rw[FJ,Rs p hy L];unfold Hb;rw[Ro];by_cases hh:Fj p y q=Aa
  .rw[Ax ⟨hy,hh⟩,DB,hh];cases Cu kv (tri y)<;>rfl
  .rw[AF (λz=>hh z.2),DB]
   have:Fj p y q=Ae:=by simpa using hh
   rw[this]
theorem dic_get(p:Ad)(pts:Ac R3)(hy:y∈Ch p):Cu (GH p pts) (tri y)=(fpr p pts y).map twD:=Rs p hy (prL pts) []
section
variable{U:Gam}{p:Ad}{pts:Ac R3}
theorem Y_1(x:R3):EF (An Aa x)=.ok (tri x):=rfl
theorem kG{PT EV A B LN X:D}{k:Ac Ad}(ea:Ec PT (.int i)=.ok A)(eb:Ec PT (.int j)=.ok B)(e:U.F 233 [.int p,LN,X]=.ok (.int v))(ek:EF X=.ok k)(hz:B4 (kv.length+1)=Aa):AQ U 7 IY X [si p,sh PT,Ab (.dic kv,Aa),sh EV,si i,si j,sh LN,s7,Af]=.next [si p,sh PT,Ab (.dic (if v=0 then H9 kv k (.tup [A,B]) else kv),Aa),sh EV,si i,si j,sh LN,sh X,Af]:=by
 by_cases z:v=0
 .subst z;simp[AQ,IY,e,ea,eb,ek,hz,Gk,H9]
 .simp[AQ,IY,e,z]
theorem SR{PT EV LN:D}{i j:Ad}{a b:R3}(ea:Ec PT (.int i)=.ok (An Aa a))(eb:Ec PT (.int j)=.ok (An Aa b))(e:∀ x,NF p x->U.F 233 [.int p,LN,An Aa x]=.ok (.int (As a b x%p))):∀(xs:Ac R3)(kv:Ac (Ac Ad×D))(s7:Sl),(∀ x∈xs,NF p x)->kv.length+xs.length<=60000->∃ s7',BH (AQ U 7 IY) (xs.map (An Aa)) [si p,sh PT,Ab (.dic kv,Aa),sh EV,si i,si j,sh LN,s7,Af]=.next [si p,sh PT,Ab (.dic (xs.foldl (F2 p (a,b)) kv),Aa),sh EV,si i,si j,sh LN,s7',Af]
 |[],kv,s7,_,_=>⟨s7,rfl⟩
 |x::xs,kv,s7,hx,hl=>by
  rw[Bj]at hl;have st:=kG (p:=p) (EV:=EV) (s7:=s7) (kv:=kv) ea eb (e x (hx x Aw)) (Y_1 x) (show C7 (kv.length+1) 1000000=Aa from Cr (by omega))
  have e2:(if As a b x%p=0 then H9 kv (tri x) (.tup [An Aa a,An Aa b]) else kv)=F2 p (a,b) kv x:=by
   unfold F2 Fj twD;by_cases z:As a b x%p=0
   .rw[Ax z,Ax (DX z)]
   .rw[AF z,AF (by simpa using z)]
  rw[e2]at st;have h2:(F2 p (a,b) kv x).length<=kv.length+1:=by
   unfold F2;split
   .exact QT ..
   .omega
  obtain⟨s7',ih⟩:=SR ea eb e xs (F2 p (a,b) kv x) (sh (An Aa x)) (λy hy=>hx y (Au _ hy)) (by omega)
  refine⟨s7',?_⟩;show (AQ U 7 IY (An Aa x) _).turn _=_;rw[st];exact ih
theorem Mb{PT seen rest:Ac R3}(e:PT=seen++a::rest):Ec (At PT) (.int seen.length)=.ok (An Aa a):=by
 have h:=Ge (pts:=PT) (i:=seen.length) (by rw[e];simp)
 rw[h];simp[atZ,e]
theorem nY(hc:Hv U)(hs:G1 U)(hp:P4 p){a b x:R3}(ia:In3 p a)(ib:In3 p b)(ix:In3 p x):U.F 233 [.int p,An Aa (mdR p (crs a b)),An Aa x]=.ok (.int (As a b x%p)):=by
 have e:=hs p Aa Aa (mdR p (crs a b)) x hp.pos ((Gm hp (Mu hp.pos _)).b3 (by decide)) ((Gm hp ix).b3 (by decide))
 have q:BA (mdR p (crs a b)) x%p=As a b x%p:=by
  have c:=Hx (CgR.md (p:=p) (a:=mdR p (crs a b)) _root_.rfl) (CgR.rfl (a:=x));have d:BA (crs a b) x=As a b x:=by unfold BA crs As det;grind
  rw[d]at c;exact c
 rw[q]at e;exact e
theorem Rr(hp:P4 p)(kv:Ac (Ac Ad×D))(q:R3×R3):(Hb p kv q).length<=kv.length+133:=by
 have h:=Rn p q (Ch p) kv;have:=Ot hp;unfold Hb;omega
theorem kF{PT AL LN:D}{kv':Ac (Ac Ad×D)}{s7':Sl}{B:D}{xs:Ac D}(ea:Ec PT (.int i)=.ok A)(eb:Ec PT (.int j)=.ok B)(el:U.F 232 [.int p,A,B]=.ok LN)(sq:Cm AL=.ok xs)(lp:BH (AQ U 7 IY) xs [si p,sh PT,Ab (.dic kv,Aa),sh AL,si i,si j,sh LN,s7,Af]=.next [si p,sh PT,Ab (.dic kv',Aa),sh AL,si i,si j,sh LN,s7',Af]):AQ U 5 JV (.int j) [si p,sh PT,Ab (.dic kv,Aa),sh AL,si i,s5,s6,s7,Af]=.next [si p,sh PT,Ab (.dic kv',Aa),sh AL,si i,si j,sh LN,s7',Af]:=by
 simp[AQ,JV,ea,eb,el,sq];exact lp
theorem SQ(hc:Hv U)(hs:G1 U)(hp:P4 p){PT:Ac R3}(np:∀ x∈PT,NF p x){i:Ad}{a:R3}(ha:a∈PT)(ea:Ec (At PT) (.int i)=.ok (An Aa a)):∀(rest seen:Ac R3)(kv:Ac (Ac Ad×D))(s5 s6 s7:Sl),PT=seen++rest->kv.length+133*rest.length<=50000->∃ s5' s6' s7',BH (AQ U 5 JV) (Ce seen.length rest.length) [si p,sh (At PT),Ab (.dic kv,Aa),sh (.lst ((Ch p).map (An Aa))),si i,s5,s6,s7,Af]=.next [si p,sh (At PT),Ab (.dic ((rest.map λb=>(a,b)).foldl (Hb p) kv),Aa),sh (.lst ((Ch p).map (An Aa))),si i,s5',s6',s7',Af]
 |[],seen,kv,s5,s6,s7,_,_=>⟨s5,s6,s7,rfl⟩
 |b::rest,seen,kv,s5,s6,s7,e,hl=>by
  rw[Bj]at hl;have hb:b∈PT:=by rw[e];simp
  have al:=Ot hp;obtain⟨t7,l0⟩:=SR (U:=U) (p:=p) (EV:=.lst ((Ch p).map (An Aa))) ea (Mb e) (λx hx=>nY hc hs hp (np a ha).1 (np b hb).1 hx.1) (Ch p) kv s7 (λx hx=>(Jj hp).mp hx) (by omega)
  have el:=hc p Aa Aa a b hp.pos ((Gm hp (np a ha).1).b3 (by decide)) ((Gm hp (np b hb).1).b3 (by decide))
  have st:=kF (s5:=s5) (s6:=s6) (AL:=.lst ((Ch p).map (An Aa))) ea (Mb e) el rfl l0;have h2:=Rr hp kv (a,b);obtain⟨s5',s6',s7',ih⟩:=SQ hc hs hp np ha ea rest (seen++[b]) (Hb p kv (a,b)) _ _ t7 (by rw[e];simp) (by omega)
  refine⟨s5',s6',s7',?_⟩;rw[Bj,Nq];rw[Be,BD]at ih;show (AQ U 5 JV (.int seen.length) _).turn _=_;rw[st];exact ih
theorem kE{PT AL:D}{kv':Ac (Ac Ad×D)}{n:Ad}{s5' s6' s7':Sl}{xs:Ac D}(ln:biD .len [PT]=.ok (.int n))(rg:Cq (i+1) n=.ok xs)(lp:BH (AQ U 5 JV) xs [si p,sh PT,Ab (.dic kv,Aa),sh AL,si i,s5,s6,s7,Af]=.next [si p,sh PT,Ab (.dic kv',Aa),sh AL,si i,s5',s6',s7',Af]):AQ U 4 JU (.int i) [si p,sh PT,Ab (.dic kv,Aa),sh AL,s4,s5,s6,s7,Af]=.next [si p,sh PT,Ab (.dic kv',Aa),sh AL,si i,s5',s6',s7',Af]:=by
 simp[AQ,JU,ln,rg];exact lp
theorem SN(hc:Hv U)(hs:G1 U)(hp:P4 p){PT:Ac R3}(np:∀ x∈PT,NF p x)(hz:PT.length<=15):∀(rest seen:Ac R3)(kv:Ac (Ac Ad×D))(s4 s5 s6 s7:Sl),PT=seen++rest->kv.length+2000*rest.length<=40000->∃ s4' s5' s6' s7',BH (AQ U 4 JU) (Ce seen.length rest.length) [si p,sh (At PT),Ab (.dic kv,Aa),sh (.lst ((Ch p).map (An Aa))),s4,s5,s6,s7,Af]=.next [si p,sh (At PT),Ab (.dic ((prL rest).foldl (Hb p) kv),Aa),sh (.lst ((Ch p).map (An Aa))),s4',s5',s6',s7',Af]
 |[],seen,kv,s4,s5,s6,s7,_,_=>⟨s4,s5,s6,s7,rfl⟩
 |a::rest,seen,kv,s4,s5,s6,s7,e,hl=>by
  rw[Bj]at hl;have ha:a∈PT:=by rw[e];simp
  have hr:rest.length<=15:=by rw[e]at hz;simp at hz;omega
  have e':PT=(seen++[a])++rest:=by rw[e];simp
  obtain⟨t5,t6,t7,l1⟩:=SQ hc hs hp np ha (Mb e) rest (seen++[a]) kv s5 s6 s7 e' (by omega)
  have lk:∀(L:Ac R3)(kv:Ac (Ac Ad×D)),((L.map λb=>(a,b)).foldl (Hb p) kv).length<=kv.length+133*L.length:=by
   intro L
   induction L with
   |nil=>intro kv;simp
   |cons b L ih=>
    intro kv;rw[Ba,FJ,Bj];have:=ih (Hb p kv (a,b));have:=Rr hp kv (a,b);omega
  have lk':=lk rest kv;have rg:Cq ((seen.length:Ad)+1) (PT.length:Ad)=.ok (Ce (seen.length+1) rest.length):=by
   have q:(PT.length:Ad)=seen.length+1+rest.length:=by rw[e];simp;omega
   rw[q,Jf (by omega) (by omega) (by omega) (by omega)]
   congr 2
   omega
  have ln:=K2 PT;rw[Be,BD]at l1;have st:=kE (s4:=s4) ln rg (by exact l1)
  obtain⟨s4',s5',s6',s7',ih⟩:=SN hc hs hp np hz rest (seen++[a]) ((rest.map λb=>(a,b)).foldl (Hb p) kv) (si seen.length) t5 t6 t7 e' (by omega)
  refine⟨s4',s5',s6',s7',?_⟩;rw[Bj,Nq];rw[Be,BD]at ih;show (AQ U 4 JU (.int seen.length) _).turn _=_;rw[st,show prL (a::rest)=rest.map (λb=>(a,b))++prL rest from rfl,List.foldl_append]
  exact ih
theorem oC(h:Kl U)(hp:P4 p){q e:E}(hg:∀ n:Ag,(n:Ad)<p*p+p+1->cG U Z k q (.int (n:Ad))=.ok Aa/\cF U Z k e (.int (n:Ad))=U.F 231 [.int p,.int (n:Ad)]):BN (cG U Z k q) (cF U Z k e) (Ce 0 (p*p+p+1).toNat)=.ok ((Ch p).map (An Aa)):=by
 have N1:0<=p*p+p+1/\p*p+p+1<=1000:=by rcases hp with rfl|rfl|rfl|rfl<;>decide
 have key:∀ L:Ac Ag,(∀ k∈L,(k:Ad)<p*p+p+1)->BN (cG U Z k q) (cF U Z k e) (L.map fun(k:Ag)=>D.int (0+(k:Ad)))=.ok ((L.map fun(n:Ag)=>ptI p n).map (An Aa)):=by
  intro L
  induction L with
  |nil=>intro _;rfl
  |cons n L ih=>
   intro hL;have e1:=h p n hp;have hn:=hL n Aw;rw[AT (by omega) hn]at e1
   obtain⟨g1,g2⟩:=hg n hn;rw[e1]at g2;have ih':=ih λm hm=>hL m (Au _ hm)
   rw[Ba,CW];show (cG U Z k q (.int (n:Ad))).bind _=_;rw[g1,R.bind_ok,Ax rfl,g2,R.bind_ok,show BN _ _ (IX _ L)=_ from ih']
   rfl
 unfold Ch Ce;exact key _ λk hk=>by have:=A4.mp hk;omega
theorem YT{PT:D}{n:Ad}{xs AL:Ac D}(m:DL p p=Aa)(hN:p*p+p+1=N)(rN:Cq 0 N=.ok RL)(cp:BN (cG U [si p,sh PT,Ab (.dic [],Aa),Af,Af,Af,Af,Af,Af] 8 DK) (cF U [si p,sh PT,Ab (.dic [],Aa),Af,Af,Af,Af,Af,Af] 8 M3) RL=.ok AL)(ln:biD .len [PT]=.ok (.int n))(rg:Cq 0 n=.ok xs)(lp:BH (AQ U 4 JU) xs [si p,sh PT,Ab (.dic [],Aa),sh (.lst AL),Af,Af,Af,Af,Af]=.next [si p,sh PT,Ab (.dic kv,Aa),sh (.lst AL),s4,s5,s6,s7,Af]):KQ.run U [.int p,PT]=.ok (.dic kv):=by
 simp[KQ,Df.run,BZ,m,hN,rN,cp,ln,rg,lp]
def iQ(U:Gam):Prop:=∀(p:Ad)(pts:Ac R3),P4 p->(∀ x∈pts,NF p x)->pts.length<=15->U.F 235 [.int p,At pts]=.ok (.dic (GH p pts))
theorem eE(h:Kl U)(hc:Hv U)(hs:G1 U)(hp:P4 p)(np:∀ x∈pts,NF p x)(hz:pts.length<=15):KQ.run U [.int p,At pts]=.ok (.dic (GH p pts)):=by
 have N1:0<=p*p+p+1/\p*p+p+1<=1000:=by rcases hp with rfl|rfl|rfl|rfl<;>decide
 obtain⟨s4,s5,s6,s7,lp⟩:=SN hc hs hp np hz pts [] [] Af Af Af Af rfl (by simp;omega)
 have rN:Cq 0 (p*p+p+1)=.ok (Ce 0 (p*p+p+1).toNat):=by
  have:=Jf (lo:=0) (hi:=p*p+p+1) (by decide) (by decide) (by omega) (by omega)
  rwa [E2]at this
 have rg:Cq 0 (pts.length:Ad)=.ok (Ce 0 pts.length):=by
  have:=Jf (lo:=0) (hi:=(pts.length:Ad)) (by decide) (by decide) (by omega) (by omega)
  rwa [E2,Dl]at this
 have ph:=hp.hi;have pl:=hp.lo;have m:DL p p=Aa:=Hu (by omega) (by omega)
 refine YT m rfl rN (oC h hp λn hn=>⟨rfl,?_⟩) (K2 pts) rg (by exact lp)
 generalize At pts=T;simp[cF,M3];cases U.F 231 [.int p,.int (n:Ad)]<;>rfl
theorem kI{X Y_:D}(e:U.F 61 [.int p,A,Y_,X]=.ok (.int v)):AQ U 5 IB Y_ [si p,sh T,sh X,si i,sh A,s5]=if v=0 then .ret (.tup [A,Y_]) Ae else .next [si p,sh T,sh X,si i,sh A,sh Y_]:=by
 by_cases z:v=0
 .subst z;simp[AQ,IB,e,CM]
 .simp[AQ,IB,e,z]
theorem SV(h:ID U)(hp:P4 p){x a:R3}(ix:In3 p x)(ia:In3 p a){T:D}{i:Ad}:∀(rest:Ac R3)(s5:Sl),(∀ y∈rest,In3 p y)->∃ s5',BH (AQ U 5 IB) (rest.map (An Aa)) [si p,sh T,sh (An Aa x),si i,sh (An Aa a),s5]=match (rest.map λb=>(a,b)).find? (Fj p x) with
  |some q=>.ret (twD q) Ae
  |none=>.next [si p,sh T,sh (An Aa x),si i,sh (An Aa a),s5']
 |[],s5,_=>⟨s5,rfl⟩
 |y::rest,s5,hy=>by
  have b:∀ {r},In3 p r->B3 r:=λhr=>(Gm hp hr).b3 (by decide)
  have st:=kI (T:=T) (i:=i) (s5:=s5) (h p Aa a y x hp.pos (b ia) (b (hy y Aw)) (b ix));rw[Ba,Ba,DB];by_cases z:As a y x%p=0
  .have hh:Fj p x (a,y)=Aa:=DX z;rw[hh];refine⟨s5,?_⟩;show (AQ U 5 IB (An Aa y) _).turn _=_;rw[st,Ax z];rfl
  .have hh:Fj p x (a,y)=Ae:=BK z;rw[hh];obtain⟨s5',ih⟩:=SV h hp ix ia (T:=T) (i:=i) rest (sh (An Aa y)) λw hw=>hy w (Au _ hw)
   refine⟨s5',?_⟩;show (AQ U 5 IB (An Aa y) _).turn _=_;rw[st,AF z];exact ih
theorem kH{X T':D}{L:Ac D}(sl:slD T (Ab (i+1)) Af=.ok T')(sq:Cm T'=.ok L):D5 U [3,4] HX (.tup [.int i,A]) [si p,sh T,sh X,s3,s4,s5]=BH (AQ U 5 IB) L [si p,sh T,sh X,si i,sh A,s5]:=by
 have e':D5 U [3,4] HX (.tup [.int i,A]) [si p,sh T,sh X,s3,s4,s5]=evSs U [si p,sh T,sh X,si i,sh A,s5] HX:=rfl;rw[e'];unfold HX;refine K7 ?_;simp[sl,slE,sq]
theorem SU(h:ID U)(hp:P4 p){PT:Ac R3}(np:∀ y∈PT,In3 p y){x:R3}(ix:In3 p x):∀(rest seen:Ac R3)(s3 s4 s5:Sl),PT=seen++rest->∃ s3' s4' s5',BH (D5 U [3,4] HX) (El seen.length (rest.map (An Aa))) [si p,sh (At PT),sh (An Aa x),s3,s4,s5]=match (prL rest).find? (Fj p x) with
  |some q=>.ret (twD q) Ae
  |none=>.next [si p,sh (At PT),sh (An Aa x),s3',s4',s5']
 |[],seen,s3,s4,s5,_=>⟨s3,s4,s5,rfl⟩
 |a::rest,seen,s3,s4,s5,e=>by
  have ia:In3 p a:=np a (by rw[e];simp)
  have sl:slD (At PT) (Ab ((seen.length:Ad)+1)) Af=.ok (At rest):=by
   have:=RS PT (i:=(seen.length:Ad)+1) (by omega) (by rw[e];simp<;>omega)
   rw[this,show ((seen.length:Ad)+1).toNat=seen.length+1 by omega,e]
   congr 2
   rw[show seen++a::rest=(seen++[a])++rest by simp]
   exact List.drop_left' (by simp)
  obtain⟨t5,l0⟩:=SV h hp ix ia (T:=At PT) (i:=(seen.length:Ad)) rest s5 λy hy=>np y (by rw[e];simp[hy])
  have st:=kH (U:=U) (p:=p) (X:=An Aa x) (A:=An Aa a) (s3:=s3) (s4:=s4) (s5:=s5) (L:=rest.map (An Aa)) sl rfl;rw[show prL (a::rest)=rest.map (λb=>(a,b))++prL rest from rfl,Vk]
  cases hf:(rest.map λb=>(a,b)).find? (Fj p x) with
  |some q=>
   rw[hf]at l0;refine⟨s3,s4,s5,?_⟩;show (D5 U [3,4] HX (.tup [.int seen.length,An Aa a]) _).turn _=_;rw[st,l0];rfl
  |none=>
   rw[hf]at l0;obtain⟨s3',s4',s5',ih⟩:=SU h hp np ix rest (seen++[a]) (si seen.length) (sh (An Aa a)) t5 (by rw[e];simp)
   refine⟨s3',s4',s5',?_⟩;rw[Be,BD]at ih;show (D5 U [3,4] HX (.tup [.int seen.length,An Aa a]) _).turn _=_;rw[st,l0];exact ih
def TZ(U:Gam):Prop:=∀(p:Ad)(pts:Ac R3)(x:R3),P4 p->(∀ y∈pts,In3 p y)->In3 p x->U.F 225 [.int p,At pts,An Aa x]=.ok (((fpr p pts x).map twD).getD .non)
theorem rO(h:ID U)(hp:P4 p)(np:∀ y∈pts,In3 p y)(ix:In3 p x):KR.run U [.int p,At pts,An Aa x]=.ok (((fpr p pts x).map twD).getD .non):=by
 obtain⟨s3,s4,s5,lp⟩:=SU h hp np ix pts [] Af Af Af rfl;have sq:Cm (At pts)=.ok (pts.map (An Aa)):=rfl;unfold fpr;have lp':BH (D5 U [3,4] HX) (El 0 (pts.map (An Aa))) [si p,sh (At pts),sh (An Aa x),Af,Af,Af]=_:=lp;generalize pts.map (An Aa)=M at *;generalize At pts=T at *;generalize An Aa x=X at *;cases hf:(prL pts).find? (Fj p x) with
 |some q=>rw[hf]at lp';simp[KR,Df.run,BZ,sq,lp']
 |none=>rw[hf]at lp';simp[KR,Df.run,BZ,sq,lp']
end
noncomputable def Nh:E:=(.cmp .NotIn (.var 2) (.var 1))
noncomputable def Ni:E:=(.bin .Add (.tup (.cons (.var 2) .nil)) (.call 225 (.cons (.var 0) (.cons (.var 1) (.cons (.var 2) .nil)))))
noncomputable def K8:Df:=⟨3,Aa,(.cons (.ret (.comp Ni 2 (.e (.call 69 (.cons (.var 0) .nil))) Nh)) .nil)⟩
noncomputable def Jl:Df:=⟨4,Aa,(.cons (.expr (.call 194 (.cons (.var 1) .nil))) (.cons (.asg 2 Ae (.call 65 (.cons (.var 0) (.cons (.var 1) .nil)))) (.cons (.ife (.cmp .IsNot (.var 2) .non) (.cons (.ret (.tup (.cons (.str (AV "line")) (.cons (.var 2) .nil)))) .nil) .nil) (.cons (.ife (.cmp .Eq (.bi .len (.cons (.var 1) .nil)) (.bin .Add (.var 0) (.int 1))) (.cons (.expr (.bi .len .nil)) .nil) .nil) (.cons (.asg 3 Ae (.call 223 (.cons (.var 0) (.cons (.var 1) .nil)))) (.cons (.ife (.cmp .Gt (.bi .len (.cons (.var 3) .nil)) (.int 0)) (.cons (.ret (.tup (.cons (.str (AV "more")) (.cons (.idx (.var 3) (.int 0)) .nil)))) .nil) .nil) (.cons (.retT (.cons (.str (AV "ends")) (.cons (.call 226 (.cons (.var 0) (.cons (.var 1) .nil))) .nil))) .nil)))))))⟩
section
variable{U:Gam}{p:Ad}{pts:Ac R3}
theorem Rj{α:Type}{g:D->R Ai}{f:D->R D}(φ:α->D)(c:α->Ai)(ψ:α->D):∀ L:Ac α,(∀ x∈L,g (φ x)=.ok (c x)/\(c x=Aa->f (φ x)=.ok (ψ x)))->BN g f (L.map φ)=.ok ((L.filter c).map ψ)
 |[],_=>rfl
 |x::L,h=>by
  obtain⟨h1,h2⟩:=h x Aw;have ih:=Rj φ c ψ L λy hy=>h y (Au _ hy)
  show (g (φ x)).bind _=_;rw[h1,R.bind_ok,C3];cases e:c x with
  |true=>
   rw[Ax rfl,h2 e,R.bind_ok,show BN _ _ (IX _ L)=_ from ih]
   rfl
  |false=>exact ih
noncomputable def rwD(p:Ad)(pts:Ac R3)(x:R3):D:=match fpr p pts x with
  |some q=>.tup [An Aa x,An Aa q.1,An Aa q.2]
  |none=>.non
noncomputable def GF(p:Ad)(pts:Ac R3):Ac R3:=(Ch p).filter λx=>!decide (x∈pts)
noncomputable def JD(p:Ad)(pts:Ac R3):D:=.lst ((GF p pts).map (rwD p pts))
theorem dN{AL:D}{L R:Ac D}(ht:U.F 69 [.int p]=.ok AL)(sq:Cm AL=.ok L)(cp:BN (cG U [si p,sh T,Af] 2 Nh) (cF U [si p,sh T,Af] 2 Ni) L=.ok R):K8.run U [.int p,T]=.ok (.lst R):=by
 simp[K8,Df.run,BZ,ht,sq,cp,CM]
theorem rR(ht:∀ p,P4 p->U.F 69 [.int p]=.ok (At (Ch p)))(h2:TZ U)(hp:P4 p)(np:∀ x∈pts,NF p x)(ha:∀ x∈Ch p,x∉pts->∃ q,fpr p pts x=Ab q):K8.run U [.int p,At pts]=.ok (JD p pts):=by
 refine dN (ht p hp) rfl (Rj (An Aa) (λx=>!decide (x∈pts)) (rwD p pts) (Ch p) λx hx=>⟨?_,λhn=>?_⟩)
 .have n:=Qf x pts;generalize At pts=T at *;generalize An Aa x=X at *;simp[cG,Nh,n]
 .have hn:x∉pts:=by simpa using hn
  obtain⟨q,hq⟩:=ha x hx hn;have e:=h2 p pts x hp (λy hy=>(np y hy).1) ((Jj hp).mp hx).1
  rw[hq]at e;have e:U.F 225 [.int p,At pts,An Aa x]=.ok (.tup [An Aa q.1,An Aa q.2]):=e;have e3:rwD p pts x=.tup [An Aa x,An Aa q.1,An Aa q.2]:=by unfold rwD;rw[hq]
  rw[e3];have sz:B4 3=Aa:=rfl;generalize At pts=T at *;generalize An Aa x=X at *;generalize An Aa q.1=A at *;generalize An Aa q.2=B at *;simp[cF,Ni,e,sz]
theorem YB{L X:D}{n:Ad}(h:U.F 194 [T]=.ok .non)(e:U.F 65 [.int p,T]=.ok .non)(ln:biD .len [T]=.ok (.int n))(hn:¬ n=p+1)(ef:U.F 223 [.int p,T]=.ok L)(lm:biD .len [L]=.ok (.int m))(hm:0<m)(ix:Ec L (.int 0)=.ok X)(lx:G6 X=Ae):Jl.run U [.int p,T]=.ok (.tup [.str (AV "more"),X]):=by
 simp[Jl,Df.run,BZ,h,e,ln,hn,ef,lm,hm,ix,lx]
theorem YC{L:D}{R:Ac D}{n:Ad}(h:U.F 194 [T]=.ok .non)(e:U.F 65 [.int p,T]=.ok .non)(ln:biD .len [T]=.ok (.int n))(hn:¬ n=p+1)(ef:U.F 223 [.int p,T]=.ok L)(lm:biD .len [L]=.ok (.int 0))(ee:U.F 226 [.int p,T]=.ok (.lst R))(fe:U.fr 226=Aa):Jl.run U [.int p,T]=.ok (.tup [.str (AV "ends"),.lst R]):=by
 simp[Jl,Df.run,BZ,h,e,ln,hn,ef,lm,Zk,evP,ee,CM,fe,noX,Ku]
theorem RK{PT:Ac R3}(nd:PT.Nodup):∀(rest seen:Ac R3)(s1 s2:Sl),PT=seen++rest->∃ Z':Rho,BH (D5 U [1,2] JP) (El seen.length (rest.map (An Aa))) [sh (At PT),s1,s2]=.next Z'
 |[],seen,s1,s2,_=>⟨_,rfl⟩
 |x::rest,seen,s1,s2,e=>by
  have s:=bD PT seen (x::rest) e;have c:=Q4 x seen;have hm:x∉seen:=λz=>by
   rw[e]at nd;exact(List.nodup_append.mp nd).2.2 x z x (Aw ..) rfl
  rw[BK hm]at c;obtain⟨Z',ih⟩:=RK nd rest (seen++[x]) (si seen.length) (sh (An Aa x)) (by rw[e];simp)
  refine⟨Z',?_⟩;rw[Be,BD]at ih;rw[<-ih];show (D5 U [1,2] JP (.tup [.int seen.length,An Aa x]) _).turn _=_;have t:D5 U [1,2] JP (.tup [.int seen.length,An Aa x]) [sh (At PT),s1,s2]=.next [sh (At PT),si seen.length,sh (An Aa x)]:=by
   generalize At PT=T at *;generalize At seen=T0 at *;generalize An Aa x=X at *;simp[D5,JP,FB,Ew,s,c,slE]
  rw[t];rfl
theorem rM(pts:Ac R3)(nd:pts.Nodup):NW.run U [At pts]=.ok .non:=by
 obtain⟨Z',e⟩:=RK (U:=U) nd pts [] Af Af rfl;have sq:Cm (At pts)=.ok (pts.map (An Aa)):=rfl;have e':BH (D5 U [1,2] JP) (El 0 (pts.map (An Aa))) [sh (At pts),Af,Af]=_:=e;generalize pts.map (An Aa)=M at *;generalize At pts=T at *;simp[NW,Df.run,BZ,sq,e']
structure Fre (p:Ad) (l:Ac R3):Prop where
 nf:∀ x∈l,NF p x
 nd:l.Nodup
 z0:z0_ p l=Af
 ln:(l.length:Ad)<=p+1
structure HLk (U:Gam):Prop where
 un:∀ pts:Ac R3,pts.Nodup->U.F 194 [At pts]=.ok .non
 fi:∀(p:Ad)(pts:Ac R3),P4 p->(∀ x∈pts,NF p x)->pts.length<=1000->U.F 65 [.int p,At pts]=.ok ((z0_ p pts).getD .non)
 ft:Ud U
 ee:∀(p:Ad)(pts:Ac R3),P4 p->(∀ x∈pts,NF p x)->(∀ x∈Ch p,x∉pts->∃ q,fpr p pts x=Ab q)->U.F 226 [.int p,At pts]=.ok (JD p pts)
 fe:U.fr 226=Aa
theorem Rv(hp:P4 p)(f:Fre p pts):pts.length<=12:=by have:=hp.hi;have:=f.ln;omega
theorem Sb(h:F1 p pts=[]):∀ x∈Ch p,x∉pts->∃ q,fpr p pts x=Ab q:=λx hx hn=>by
 rw[Oh]at h;have:=List.filter_eq_nil_iff.mp h x hx;unfold HB at this;cases e:fpr p pts x with
 |some q=>exact⟨q,rfl⟩
 |none=>
  rw[e]at this;simp[hn]at this
theorem ZG(h:HLk U)(hp:P4 p)(f:Fre p pts)(hl:(pts.length:Ad)<=p):Jl.run U [.int p,At pts]=.ok (match (F1 p pts).head? with
  |some x=>.tup [.str (AV "more"),An Aa x]
  | none=>.tup [.str (AV "ends"),JD p pts]):=by
 have l12:=Rv hp f;have e1:=h.un pts f.nd;have e2:=h.fi p pts hp f.nf (by omega)
 rw[f.z0]at e2;have e3:=h.ft p pts hp f.nf f.nd (by omega)
 have ln:=K2 pts;cases hf:F1 p pts with
 |nil=>
  have e4:=h.ee p pts hp f.nf (Sb hf);rw[hf]at e3;exact YC e1 e2 ln (by omega) e3 rfl e4 h.fe
 |cons x l=>
  rw[hf]at e3;have lm:biD .len [At (x::l)]=.ok (.int ((x::l).length:Ag)):=K2 (x::l);refine YB e1 e2 ln (by omega) e3 lm (by rw[Bj];omega) (Mb (PT:=x::l) (seen:=[]) (rest:=l) rfl) rfl
noncomputable def Hs:Ss:=(.cons (.asg 6 Ae (.call 231 (.cons (.var 0) (.cons (.call 228 (.cons (.var 1) (.cons (.bin .Add (.int 20) (.var 5)) .nil))) .nil)))) (.cons (.ife (.and (.cons (.cmp .Lt (.bi .len (.cons (.var 4) .nil)) (.var 3)) (.cons (.cmp .NotIn (.var 6) (.var 4)) (.cons (.cmp .Is (.call 234 (.cons (.var 0) (.cons (.bin .Add (.var 4) (.lst (.cons (.var 6) .nil))) .nil))) .non) .nil)))) (.cons (.app 4 (.var 6)) .nil) .nil) .nil))
noncomputable def Ja(j:Ad):Df:=⟨7,Ae,(.cons (.asg 2 Ae (.bin .Mod (.call 228 (.cons (.var 1) (.cons (.int 1) .nil))) (.int 2))) (.cons (.asg 3 Ae (.bin .Mod (.call 228 (.cons (.var 1) (.cons (.int 2) .nil))) (.bin .Add (.var 0) (.int j)))) (.cons (.ife (.cmp .Eq (.var 2) (.int 0)) (.cons (.ret (.sl (.call 251 (.cons (.var 1) (.cons (.int 20) (.cons (.call 290 (.cons (.var 0) (.cons (.call 250 (.cons (.var 0) (.cons (.var 1) (.cons (.int 3) .nil)))) .nil))) .nil)))) .non (.var 3))) .nil) .nil) (.cons (.asg 4 Aa (.lst .nil)) (.cons (.fors 5 (.rng (.int 20)) Hs) (.cons (.ret (.var 4)) .nil))))))⟩
section
variable{U:Gam}{p:Ad}{ns:Ac Ad}
structure HFs (U:Gam) (ns:Ac Ad):Prop where
 tb:iP U ns
 ov:mL U
 ord:hJ U ns
 mix:Jv U 228 ns
 pt:Kl U
 f4:U.fr 234=Ae
 th:∀(p:Ad)(pts:Ac R3),P4 p->(∀ x∈pts,NF p x)->pts.length<=1000->U.F 234 [.int p,At pts]=.ok ((z0_ p pts).getD .non)
theorem qH{S X TH:D}{l:Ac D}{q n:Ad}{s2:Sl}{b1:Ai}(em:U.F 228 [S,.int (20+i)]=.ok (.int n))(ex:U.F 231 [.int p,.int n]=.ok X)(ln:B4 (l.length+1)=Aa)(fX:flD 5 X=Aa)(fl:∀ x∈l,flD 5 x=Aa)(hn:(∀ x∈l,eqD x X=Ae)↔b1=Aa)(et:U.F 234 [.int p,.lst (l++[X])]=.ok TH){b2:Ai}(hT:Bw .Is TH .non=.ok (.bl b2)):AQ U 5 Hs (.int i) [si p,sh S,s2,si q,Ab (.lst l,Aa),s5,s6]=.next [si p,sh S,s2,si q,Ab (.lst (if (decide ((l.length:Ad)<q)&&(b1&&b2))=Aa then l++[X] else l),Aa),si i,sh X]:=by
 by_cases c1:(l.length:Ad)<q
 .cases b1 with
  |false=>
   simp[AQ,Hs,em,ex,fX,hn,c1];exact fl
  |true=>
   cases b2 with
   |false=>
    simp[AQ,Hs,em,ex,fX,hn,c1,ln,et,hT];exact fl
   |true=>
    simp[AQ,Hs,em,ex,fX,hn,c1,ln,et,hT,CD];exact fl
 .simp[AQ,Hs,em,ex,c1]
theorem sO(d:Ao D)(h:∀ x,d=Ab x->∃ ds,x=.tup ds):Bw .Is (d.getD .non) .non=.ok (.bl d.isNone):=by
 cases d with
 |none=>rfl
 |some x=>
  obtain⟨ds,rfl⟩:=h x rfl;rfl
theorem lR(hp:P4 p)(n:Ad):NF p (ptI p (n%(p*p+p+1))):=by
 have N1:0<p*p+p+1:=by rcases hp with rfl|rfl|rfl|rfl<;>decide
 have b0:=Bg n (U_8 N1);have b1:=Bc n N1;refine(Jj hp).mp (Br.mpr ⟨(n%(p*p+p+1)).toNat,A4.mpr (by omega),?_⟩)
 show ptI p ((n%(p*p+p+1)).toNat:Ad)=_;rw[Vb b0]
theorem O8(h:HFs U ns)(hp:P4 p){q:Ad}(q0:q<=p+1){s2:Sl}:∀(m:Ag)(i:Ag)(l:Ac R3)(s5 s6:Sl),Fre p l->(l.length:Ad)<=max q 0->∃ l' s5' s6',Fre p l'/\(l'.length:Ad)<=max q 0/\BH (AQ U 5 Hs) (Ce i m) [si p,sh (scr ns),s2,si q,Ab (.lst (l.map (An Aa)),Aa),s5,s6]=.next [si p,sh (scr ns),s2,si q,Ab (.lst (l'.map (An Aa)),Aa),s5',s6']
 |0,i,l,s5,s6,f,hl=>⟨l,s5,s6,f,hl,rfl⟩
 |m+1,i,l,s5,s6,f,hl=>by
  have ph:=hp.hi;have pl:=hp.lo;have fln:=f.ln;obtain⟨n,n0,em⟩:=h.mix (20+i) (by omega)
  have ex:=h.pt p n hp;have nx:NF p (ptI p (n%(p*p+p+1))):=lR hp n;generalize ptI p (n%(p*p+p+1))=x at *;have fl:∀ y∈l.map (An Aa),flD 5 y=Aa:=λy hy=>by
   obtain⟨z,_,rfl⟩:=Br.mp hy;rfl
  have hn:(∀ y∈l.map (An Aa),eqD y (An Aa x)=Ae)↔(!decide (x∈l))=Aa:=by
   rw[Bu,Ed];constructor
   .intro z hx;have:=z _ (List.mem_map_of_mem hx);rw[La]at this;simp at this
   .intro z y hy;obtain⟨w,hw,rfl⟩:=Br.mp hy;rw[La];exact BK λe=>z (e ▸ hw)
  have et:U.F 234 [.int p,.lst (l.map (An Aa)++[An Aa x])]=.ok ((z0_ p (l++[x])).getD .non):=by
   have q:=h.th p (l++[x]) hp (λy hy=>by
    rcases EY.mp hy with z|z
    .exact f.nf y z
    .rw[Bm.mp z];exact nx) (by simp;omega)
   unfold At at q;rw[Eh]at q;exact q
  have hT:=sO (z0_ p (l++[x])) λy hy=>by
   obtain⟨_,_,_,_,_,_,e⟩:=oS hy;exact⟨_,e⟩
  have st:=qH (s2:=s2) (s5:=s5) (s6:=s6) (q:=q) em ex (show C7 _ 1000000=Aa from Cr (by rw[Bl];omega)) rfl fl hn et hT
  rw[Bl]at st;rw[Nq];by_cases c:(decide ((l.length:Ad)<q)&&(!decide (x∈l)&&(z0_ p (l++[x])).isNone))=Aa
  .rw[Ax c,show l.map (An Aa)++[An Aa x]=(l++[x]).map (An Aa) by rw[Eh];rfl]at st
   simp only[Ap,AW,Bu,Ed,Option.isNone_iff_eq_none]at c;obtain⟨c1,c2,c3⟩:=c;have f':Fre p (l++[x]):=⟨λy hy=>by
    rcases EY.mp hy with z|z
    .exact f.nf y z
    .rw[Bm.mp z];exact nx,List.nodup_append.mpr ⟨f.nd,by simp,λa ha b hb=>by rw[Bm.mp hb];exact λz=>c2 (z ▸ ha)⟩,c3,by rw[Be,BD];omega⟩
   obtain⟨l',s5',s6',g,gl,ih⟩:=O8 h hp q0 (s2:=s2) m (i+1) (l++[x]) (si i) (sh (An Aa x)) f' (by rw[Be,BD];omega)
   refine⟨l',s5',s6',g,gl,?_⟩;show (AQ U 5 Hs (.int i) _).turn _=_;rw[st];exact ih
  .rw[AF c]at st;obtain⟨l',s5',s6',g,gl,ih⟩:=O8 h hp q0 (s2:=s2) m (i+1) l (si i) (sh (An Aa x)) f hl;refine⟨l',s5',s6',g,gl,?_⟩;show (AQ U 5 Hs (.int i) _).turn _=_;rw[st];exact ih
theorem dM{S RR OO MM T:D}{m1 m2 j:Ad}(hj:0<p+j)(e1:U.F 228 [S,.int 1]=.ok (.int m1))(e2:U.F 228 [S,.int 2]=.ok (.int m2))(h0:m1%2=0)(et:U.F 250 [.int p,S,.int 3]=.ok RR)(eo:U.F 290 [.int p,RR]=.ok OO)(er:U.F 251 [S,.int 20,OO]=.ok MM)(sl:slD MM Af (Ab (m2%(p+j)))=.ok T):(Ja j).run U [.int p,S]=.ok T:=by
 simp[Ja,Df.run,BZ,e1,e2,h0,hj,et,eo,er,sl,slE]
theorem dL{S:D}{L:Ac D}{m1 m2 j:Ad}(hj:0<p+j)(e1:U.F 228 [S,.int 1]=.ok (.int m1))(e2:U.F 228 [S,.int 2]=.ok (.int m2))(h0:m1%2≠0)(rg:Cq 0 20=.ok RL)(lp:BH (AQ U 5 Hs) RL [si p,sh S,si (m1%2),si (m2%(p+j)),Ab (.lst [],Aa),Af,Af]=.next [si p,sh S,si (m1%2),si (m2%(p+j)),Ab (.lst L,Aa),s5,s6]):(Ja j).run U [.int p,S]=.ok (.lst L):=by
 simp[Ja,Df.run,BZ,e1,e2,h0,hj,rg,CM,lp]
theorem X0(h:HFs U ns)(hp:P4 p)(j0:1<=j)(j1:j<=2):∃ l,Fre p l/\(l.length:Ad)<=p+j-1/\(Ja j).run U [.int p,scr ns]=.ok (At l):=by
 have ph:=hp.hi;have pl:=hp.lo;obtain⟨m1,_,e1⟩:=h.mix 1 (by decide)
 obtain⟨m2,_,e2⟩:=h.mix 2 (by decide)
 have b0:=Bg m2 (show p+j≠0 by omega)
 have b1:=Bc m2 (show 0<p+j by omega)
 by_cases h0:m1%2=0
 .obtain⟨a,b,c,G,et⟩:=h.tb p 3 hp (by decide)
  have eo:=h.ov p a b c G;have ll:((D8 p).map λx=>nrm p (ap a b c x)).length<=60:=by rw[Bl];exact(ZR hp).2
  have nO:∀ x∈((D8 p).map λx=>nrm p (ap a b c x)),NF p x:=λx hx=>by
   obtain⟨w,hw,rfl⟩:=Br.mp hx;obtain⟨_,l,el⟩:=K5 hp hw;obtain⟨k,ek⟩:=Kd hp G.nz el CgR.rfl;exact(J3 hp ek).1
  have dO:=cV hp G.nz;have zO:=cW hp G.nz;obtain⟨M,pm,er⟩:=h.ord 20 _ (by decide) ll
  generalize ((D8 p).map λx=>nrm p (ap a b c x))=OL at *
  have sl:=Ml M (i:=m2%(p+j)) (by omega)
  have mg:∀ x∈M.take (m2%(p+j)).toNat,x∈OL:=λx hx=>pm.mem_iff.mp (List.mem_of_mem_take hx)
  have dg:(M.take (m2%(p+j)).toNat).Nodup:=(pm.nodup_iff.mpr dO).sublist (Vz _ _);have lt:=List.length_take_le (m2%(p+j)).toNat M;refine⟨_,⟨λx hx=>nO x (mg x hx),dg,oR dg λx hx y hy z hz=>zO x (mg x hx) y (mg y hy) z (mg z hz),by omega⟩,by omega,dM (by omega) e1 e2 h0 et eo er sl⟩
 .obtain⟨l,s5,s6,f,fl,lp⟩:=O8 h hp (q:=m2%(p+j)) (by omega) (s2:=si (m1%2)) 20 0 [] Af Af ⟨by simp,by simp,by rfl,by simp;omega⟩ (by simp;omega)
  exact⟨l,f,by omega,dL (by omega) e1 e2 h0 rfl (by exact lp)⟩
end
end
noncomputable def Gz:Ss:=(.cons (.asg 7 Ae (.call 231 (.cons (.var 1) (.cons (.var 6) .nil)))) (.cons (.ife (.cmp .NotIn (.var 7) (.var 2)) (.cons (.ife (.and (.cons (.cmp .NotIn (.var 7) (.var 3)) (.cons (.cmp .Is (.var 4) .non) .nil))) (.cons (.asg 4 Ae (.tup (.cons (.str (AV "more")) (.cons (.var 7) .nil)))) .nil) .nil) (.cons (.ife (.cmp .In (.var 7) (.var 3)) (.cons (.app 5 (.tup (.cons (.var 7) (.cons (.idx (.idx (.var 3) (.var 7)) (.int 0)) (.cons (.idx (.idx (.var 3) (.var 7)) (.int 1)) .nil))))) .nil) .nil) .nil)) .nil) .nil))
noncomputable def PY:E:=(.isi (.var 11) [.tuple])
noncomputable def JN:Ss:=(.cons (.blk [10] 227 (.cons (.var 1) (.cons (.var 8) .nil)) (.cons (.ife (.or (.cons (.no (.isi (.var 10) [.tuple])) (.cons (.cmp .NotEq (.bi .len (.cons (.var 10) .nil)) (.int 2)) (.cons (.cmp .NotEq (.var 8) (.var 2)) .nil)))) (.cons (.ret (.bl Ae)) .nil) .nil) .nil) (.cmp .IsNot (.var 4) .non) (.cons (.ife (.or (.cons (.cmp .NotEq (.var 10) (.var 4)) (.cons (.no (.call 237 (.cons (.var 1) (.cons (.idx (.var 10) (.int 1)) (.cons (.int 3) .nil))))) .nil))) (.cons (.ret (.bl Ae)) .nil) .nil) .nil) (.cons (.ife (.or (.cons (.cmp .NotEq (.idx (.var 10) (.int 0)) (.str (AV "ends"))) (.cons (.no (.isi (.idx (.var 10) (.int 1)) [.list])) (.cons (.cmp .NotEq (.idx (.var 10) (.int 1)) (.var 5)) .nil)))) (.cons (.ret (.bl Ae)) .nil) .nil) (.cons (.ife (.no (.bi .all (.cons (.comp PY 11 (.e (.idx (.var 10) (.int 1))) DK) .nil))) (.cons (.ret (.bl Ae)) .nil) .nil) .nil)) 1 (.int 7)) .nil)
noncomputable def LB:Df:=⟨12,Ae,(.cons (.asg 1 Ae (.call 229 (.cons (.var 0) .nil))) (.cons (.asg 2 Ae (.call 252 (.cons (.var 1) (.cons (.var 0) .nil)))) (.cons (.asg 3 Ae (.call 235 (.cons (.var 1) (.cons (.var 2) .nil)))) (.cons (.asg 4 Ae .non) (.cons (.asg 5 Aa (.lst .nil)) (.cons (.fors 6 (.rng (.bin .Add (.bin .Add (.bin .Mult (.var 1) (.var 1)) (.var 1)) (.int 1))) Gz) (.cons (.asg 8 Ae (.bi .list (.cons (.var 2) .nil))) (.cons (.fors 9 (.rng (.int 2)) JN) (.cons (.ret (.bl Aa)) .nil)))))))))⟩
section
variable{U:Gam}{p:Ad}{ns:Ac Ad}
theorem k0a{S T DC DU X:D}{s10 s11:Sl}(ex:U.F 231 [.int p,.int i]=.ok X)(h:Bw .NotIn X T=.ok (.bl Ae)):AQ U 6 Gz (.int i) [sh S,si p,sh T,sh DC,sh DU,Ab (.lst RW,Aa),s6,s7,s8,s9,s10,s11]=.next [sh S,si p,sh T,sh DC,sh DU,Ab (.lst RW,Aa),si i,sh X,s8,s9,s10,s11]:=by
 simp[AQ,Gz,ex,h]
theorem k0b{S T DC DU X:D}{s10 s11:Sl}{b:Ai}(ex:U.F 231 [.int p,.int i]=.ok X)(h:Bw .NotIn X T=.ok (.bl Aa))(h1:Bw .NotIn X DC=.ok (.bl Aa))(h2:Bw .In X DC=.ok (.bl Ae))(hd:Bw .Is DU .non=.ok (.bl b)):
  AQ U 6 Gz (.int i) [sh S,si p,sh T,sh DC,sh DU,Ab (.lst RW,Aa),s6,s7,s8,s9,s10,s11]=.next [sh S,si p,sh T,sh DC,sh (if b=Aa then .tup [.str (AV "more"),X] else DU),Ab (.lst RW,Aa),si i,sh X,s8,s9,s10,s11]:=by
 cases b<;>simp[AQ,Gz,ex,h,h1,h2,hd]
theorem k0d{S T DC DU X A B:D}{s10 s11:Sl}(ex:U.F 231 [.int p,.int i]=.ok X)(h:Bw .NotIn X T=.ok (.bl Aa))(h1:Bw .NotIn X DC=.ok (.bl Ae))(h2:Bw .In X DC=.ok (.bl Aa))(ix:Ec DC X=.ok (.tup [A,B]))(hz:B4 (RW.length+1)=Aa):AQ U 6 Gz (.int i) [sh S,si p,sh T,sh DC,sh DU,Ab (.lst RW,Aa),s6,s7,s8,s9,s10,s11]=.next [sh S,si p,sh T,sh DC,sh DU,Ab (.lst (RW++[.tup [X,A,B]]),Aa),si i,sh X,s8,s9,s10,s11]:=by
 have g0:CN [A,B] 0=.ok A:=rfl;have g1:CN [A,B] 1=.ok B:=rfl;simp[AQ,Gz,ex,h,h1,h2,ix,g0,g1,CD,hz]
noncomputable def Lo:Ao R3->D
 |none=>.non
 |some x=>.tup [.str (AV "more"),An Aa x]
noncomputable def Ic(p:Ad)(pts:Ac R3)(x:R3):Ai:=!decide (x∈pts)&&(fpr p pts x).isSome
theorem lK(hx:x∈Ch p):Bw .NotIn (An Aa x) (.dic (GH p pts))=.ok (.bl (fpr p pts x).isNone)/\Bw .In (An Aa x) (.dic (GH p pts))=.ok (.bl (fpr p pts x).isSome)/\∀ q,fpr p pts x=Ab q->Ec (.dic (GH p pts)) (An Aa x)=.ok (.tup [An Aa q.1,An Aa q.2]):=by
 have g:=dic_get p pts hx;have a:((GH p pts).any λq=>q.1==tri x)=(fpr p pts x).isSome:=by rw[Of,g,VL]
 refine⟨?_,?_,λq hq=>?_⟩
 .show R.ok (D.bl (!(GH p pts).any λq=>q.1==tri x))=_
  rw[a];cases fpr p pts x<;>rfl
 .show R.ok (D.bl ((GH p pts).any λq=>q.1==tri x))=_
  rw[a]
 .show (match Cu (GH p pts) (tri x) with|some d=>R.ok d|none=>.bad)=_
  rw[g,hq];rfl
theorem Mv(hpt:Kl U)(hp:P4 p){S:D}{pts:Ac R3}{s8 s9 s10 s11:Sl}:∀(L:Ac Ag)(du:Ao R3)(RW:Ac D)(s6 s7:Sl),(∀ n∈L,(n:Ad)<p*p+p+1)->RW.length+L.length<=1000->∃ s6' s7',BH (AQ U 6 Gz) (L.map fun(n:Ag)=>D.int (0+(n:Ad))) [sh S,si p,sh (At pts),sh (.dic (GH p pts)),sh (Lo du),Ab (.lst RW,Aa),s6,s7,s8,s9,s10,s11]=.next [sh S,si p,sh (At pts),sh (.dic (GH p pts)),sh (Lo (du.or (((L.map fun(n:Ag)=>ptI p n).filter (HB p pts)).head?))),Ab (.lst (RW++((L.map fun(n:Ag)=>ptI p n).filter (Ic p pts)).map (rwD p pts)),Aa),s6',s7',s8,s9,s10,s11]
 |[],du,RW,s6,s7,_,_=>⟨s6,s7,by simp[BH]⟩
 |n::L,du,RW,s6,s7,hL,hz=>by
  have hn:=hL n Aw;have ex:=hpt p n hp;rw[AT (by omega) hn]at ex
  have hx:ptI p (n:Ad)∈Ch p:=Br.mpr ⟨n,A4.mpr (by omega),rfl⟩
  have ni:=Qf (ptI p (n:Ad)) pts;obtain⟨d1,d2,d3⟩:=lK (pts:=pts) hx;rw[Bj]at hz;rw[Ba,Ba,CW];generalize ptI p (n:Ad)=x at *;rw[C3,C3];by_cases hm:x∈pts
  .rw[DX hm]at ni;have f1:HB p pts x=Ae:=by simp[HB,hm]
   have f2:Ic p pts x=Ae:=by simp[Ic,hm]
   rw[f1,f2];obtain⟨s6',s7',ih⟩:=Mv hpt hp (S:=S) (pts:=pts) (s8:=s8) (s9:=s9) (s10:=s10) (s11:=s11) L du RW (si n) (sh (An Aa x)) (λm hm=>hL m (Au _ hm)) (by omega)
   refine⟨s6',s7',?_⟩;show (AQ U 6 Gz (.int n) _).turn _=_;rw[k0a ex ni];exact ih
  .rw[BK hm]at ni;cases hf:fpr p pts x with
   |none=>
    rw[hf]at d1 d2;have f1:HB p pts x=Aa:=by simp[HB,hm,hf]
    have f2:Ic p pts x=Ae:=by simp[Ic,hf]
    rw[f1,f2];have hd:Bw .Is (Lo du) .non=.ok (.bl du.isNone):=by cases du<;>rfl
    have eD:(if du.isNone=Aa then .tup [.str (AV "more"),An Aa x] else Lo du)=Lo (du.or (Ab x)):=by cases du<;>rfl
    obtain⟨s6',s7',ih⟩:=Mv hpt hp (S:=S) (pts:=pts) (s8:=s8) (s9:=s9) (s10:=s10) (s11:=s11) L (du.or (Ab x)) RW (si n) (sh (An Aa x)) (λm hm=>hL m (Au _ hm)) (by omega)
    refine⟨s6',s7',?_⟩;show (AQ U 6 Gz (.int n) _).turn _=_;rw[k0b ex ni d1 d2 hd,eD];refine IW ih ?_;rw[Ax rfl,List.head?_cons,Option.or_assoc];rfl
   |some q=>
    rw[hf]at d1 d2;have f1:HB p pts x=Ae:=by simp[HB,hf]
    have f2:Ic p pts x=Aa:=by simp[Ic,hm,hf]
    have er:rwD p pts x=.tup [An Aa x,An Aa q.1,An Aa q.2]:=by unfold rwD;rw[hf]
    rw[f1,f2];obtain⟨s6',s7',ih⟩:=Mv hpt hp (S:=S) (pts:=pts) (s8:=s8) (s9:=s9) (s10:=s10) (s11:=s11) L du (RW++[rwD p pts x]) (si n) (sh (An Aa x)) (λm hm=>hL m (Au _ hm)) (by rw[Be,BD];omega)
    refine⟨s6',s7',?_⟩;show (AQ U 6 Gz (.int n) _).turn _=_;rw[k0d ex ni d1 d2 (d3 q hf) (show C7 _ 1000000=Aa from Cr (by omega)),<-er]
    refine IW ih ?_;rw[Ax rfl,Ba,Ve];rfl
theorem nK(l:Ac R3):flD 5 (At l)=Aa/\eqD (At l) (At l)=Aa:=by
 have h:flD 5 (At l)=Aa:=by
  show ((l.map (An Aa)).all (flD 4))=Aa;rw[Dr];intro x hx;obtain⟨r,_,rfl⟩:=Br.mp hx;rfl
 exact⟨h,LU 5 _ h⟩
theorem Ta{S T DC X:D}(fr:U.fr 227=Aa)(e:U.F 227 [.int p,T]=.ok (.tup [.str (AV "more"),X]))(fT:flD 5 T=Aa)(eT:eqD T T=Aa)(fX:flD 4 X=Aa)(eX:eqD X X=Aa)(hd:U.F 237 [.int p,X,.int 3]=.ok (.bl Aa)):
  AQ U 9 JN (.int i) [sh S,si p,sh T,sh DC,sh (.tup [.str (AV "more"),X]),Ab (.lst RW,Aa),s6,s7,sh T,s9,Af,Af]=.next [sh S,si p,sh T,sh DC,sh (.tup [.str (AV "more"),X]),Ab (.lst RW,Aa),s6,s7,sh T,si i,Af,Af]:=by
 have g1:CN [.str (AV "more"),X] 1=.ok X:=rfl;simp[AQ,JN,L8,fr,e,JG,Js,Hy,kiD,fT,eT,fX,eX,g1,hd,noX]
theorem Tb{S T DC:D}(fr:U.fr 227=Aa)(e:U.F 227 [.int p,T]=.ok (.tup [.str (AV "ends"),.lst RW]))(fT:flD 5 T=Aa)(eT:eqD T T=Aa)(fR:∀ x∈RW,flD 4 x=Aa)(eR:eqDs RW RW=Aa)(ta:∀ x∈RW,∃ ds,x=.tup ds)(hz:B4 (RW.length+1)=Aa):AQ U 9 JN (.int i) [sh S,si p,sh T,sh DC,sh .non,Ab (.lst RW,Aa),s6,s7,sh T,s9,Af,Af]=.next [sh S,si p,sh T,sh DC,sh .non,Ab (.lst RW,Aa),s6,s7,sh T,si i,Af,Af]:=by
 have g0:CN [.str (AV "ends"),.lst RW] 0=.ok (.str (AV "ends")):=rfl;have g1:CN [.str (AV "ends"),.lst RW] 1=.ok (.lst RW):=rfl;have cp:∀ L:Ac D,(∀ x∈L,∃ ds,x=.tup ds)->BN (cG U [sh S,si p,sh T,sh DC,sh .non,Ab (.lst RW,Aa),s6,s7,sh T,si i,sh (.tup [.str (AV "ends"),.lst RW]),Af] 11 DK) (cF U [sh S,si p,sh T,sh DC,sh .non,Ab (.lst RW,Aa),s6,s7,sh T,si i,sh (.tup [.str (AV "ends"),.lst RW]),Af] 11 PY) L=.ok (L.map λ_=>.bl Aa):=by
  intro L hL
  induction L with
  |nil=>rfl
  |cons x L ih=>
   obtain⟨ds,rfl⟩:=hL x Aw;have ih':=ih λy hy=>hL y (Au _ hy)
   show (R.ok Aa).bind _=_;rw[R.bind_ok,Ax rfl];show (R.ok (D.bl Aa)).bind _=_;rw[R.bind_ok,show BN _ _ L=_ from ih']
   rfl
 have al:biD .all [.lst (RW.map λ_=>D.bl Aa)]=.ok (.bl Aa):=by
  have:∀ L:Ac D,FC (L.map λ_=>D.bl Aa)=.ok Aa:=by
   intro L
   induction L with
   |nil=>rfl
   |cons x L ih=>rw[Ba];show (FC (L.map λ_=>D.bl Aa)).bind _=_;rw[ih];rfl
  show (FC (RW.map λ_=>D.bl Aa)).bind _=_
  rw[this RW];rfl
 have c1:=cp RW ta;generalize (RW.map λ_=>D.bl Aa)=BB at *
 simp[AQ,JN,L8,fr,e,JG,Js,Hy,Lj,kiD,fT,eT,fR,eR,g0,g1,c1,al,noX,hz];exact fR
structure H73 (U:Gam) (ns:Ac Ad):Prop where
  pr:∃ p,P4 p/\U.F 229 [scr ns]=.ok (.int p)
  fs:∀ p,P4 p->∃ l,Fre p l/\(l.length:Ad)<=p/\U.F 252 [.int p,scr ns]=.ok (At l)
  pa:iQ U
  pt:Kl U
  lk:∀(p:Ad)(pts:Ac R3),P4 p->Fre p pts->(pts.length:Ad)<=p->U.F 227 [.int p,At pts]=.ok (match (F1 p pts).head? with
    |some x=>.tup [.str (AV "more"),An Aa x]
    | none=>.tup [.str (AV "ends"),JD p pts])
  fl:U.fr 227=Aa
  fd:∀(p:Ad)(x:R3),P4 p->NF p x->U.F 237 [.int p,An Aa x,.int 3]=.ok (.bl Aa)
theorem Tr{S T DC DU:D}{Z':Rho}(e1:U.F 229 [S]=.ok (.int p))(e2:U.F 252 [.int p,S]=.ok T)(e3:U.F 235 [.int p,T]=.ok DC)(m:DL p p=Aa)(hN:p*p+p+1=N)(rN:Cq 0 N=.ok RL)(li:biD .list [T]=.ok T)(lp:BH (AQ U 6 Gz) RL [sh S,si p,sh T,sh DC,sh .non,Ab (.lst [],Aa),Af,Af,Af,Af,Af,Af]=.next [sh S,si p,sh T,sh DC,sh DU,Ab (.lst RW,Aa),s6,s7,Af,Af,Af,Af])(l2:BH (AQ U 9 JN) [.int 0,.int 1] [sh S,si p,sh T,sh DC,sh DU,Ab (.lst RW,Aa),s6,s7,sh T,Af,Af,Af]=.next Z'):LB.run U [S]=.ok (.bl Aa):=by
 have rg:Cq 0 2=.ok [.int 0,.int 1]:=rfl;simp[LB,Df.run,BZ,e1,e2,e3,m,hN,rN,CM,lp,li,rg,l2]
theorem Tl{body:D->Rho->O}{Z1 Z2:Rho}(h1:body (.int 0) Z=.next Z1)(h2:body (.int 1) Z1=.next Z2):BH body [.int 0,.int 1] Z=.next Z2:=by
 simp only[BH,h1,h2,O.turn]
theorem nM(h:H73 U ns):LB.run U [scr ns]=.ok (.bl Aa):=by
 obtain⟨p,hp,e1⟩:=h.pr;obtain⟨pts,f,hl,e2⟩:=h.fs p hp;have l12:=Rv hp f;have e3:=h.pa p pts hp f.nf (by omega)
 have N1:0<=p*p+p+1/\p*p+p+1<=1000:=by rcases hp with rfl|rfl|rfl|rfl<;>decide
 have ph:=hp.hi;have pl:=hp.lo;have m:DL p p=Aa:=Hu (by omega) (by omega)
 have rN:Cq 0 (p*p+p+1)=.ok (Ce 0 (p*p+p+1).toNat):=by
  have:=Jf (lo:=0) (hi:=p*p+p+1) (by decide) (by decide) (by omega) (by omega)
  rwa [E2]at this
 obtain⟨s6,s7,lp⟩:=Mv h.pt hp (S:=scr ns) (pts:=pts) (s8:=Af) (s9:=Af) (s10:=Af) (s11:=Af) (AS (p*p+p+1).toNat) Af [] Af Af (λn hn=>by have:=A4.mp hn;omega) (by simp;omega)
 rw[show ((AS (p*p+p+1).toNat).map fun(n:Ag)=>ptI p n)=Ch p from rfl,<-Oh,List.nil_append,show none.or ((F1 p pts).head?)=(F1 p pts).head? from rfl]at lp
 have lk:=h.lk p pts hp f hl;obtain⟨fT,eT⟩:=nK pts;have aL:=Ot hp;cases hf:(F1 p pts).head? with
 |some x=>
  rw[hf]at lp lk;have nx:NF p x:=by
   have:x∈F1 p pts:=List.mem_of_head? hf;rw[Oh]at this;exact(Jj hp).mp (Dd.mp this).1
  have hd:=h.fd p x hp nx;have fX:flD 4 (An Aa x)=Aa:=rfl;have eX:=LU 4 _ fX;refine Tr e1 e2 e3 m rfl rN rfl (by exact lp) (Tl (Ta h.fl lk fT eT fX eX hd) (Ta h.fl lk fT eT fX eX hd))
 |none=>
  rw[hf]at lp lk;have hn:=Sb (List.head?_eq_none_iff.mp hf);have eL:(Ch p).filter (Ic p pts)=GF p pts:=by
   unfold GF;refine List.filter_congr λx hx=>?_
   unfold Ic;by_cases hm:x∈pts
   .simp[hm]
   .obtain⟨q,hq⟩:=hn x hx hm;simp[hm,hq]
  rw[eL]at lp;have rows:∀ d∈(GF p pts).map (rwD p pts),∃ a b c:R3,d=.tup [An Aa a,An Aa b,An Aa c]:=λd hd=>by
   obtain⟨x,hx,rfl⟩:=Br.mp hd;unfold GF at hx;obtain⟨hx,hm⟩:=Dd.mp hx;obtain⟨q,hq⟩:=hn x hx (by simpa using hm)
   exact⟨x,q.1,q.2,by unfold rwD;rw[hq]⟩
  have fR:∀ d∈(GF p pts).map (rwD p pts),flD 4 d=Aa:=λd hd=>by
   obtain⟨a,b,c,rfl⟩:=rows d hd;rfl
  have eR:eqDs ((GF p pts).map (rwD p pts)) ((GF p pts).map (rwD p pts))=Aa:=by
   refine LU 5 (.lst ((GF p pts).map (rwD p pts))) ?_;exact List.all_eq_true.mpr fR
  have tR:∀ d∈(GF p pts).map (rwD p pts),∃ ds,d=.tup ds:=λd hd=>by
   obtain⟨a,b,c,rfl⟩:=rows d hd;exact⟨_,rfl⟩
  have zR:B4 (((GF p pts).map (rwD p pts)).length+1)=Aa:=by
   have:(GF p pts).length<=(Ch p).length:=List.length_filter_le _ _;exact Cr (by rw[Bl];omega)
  unfold JD at lk;exact Tr e1 e2 e3 m rfl rN rfl (by exact lp) (Tl (Tb h.fl lk fT eT fR eR tR zR) (Tb h.fl lk fT eT fR eR tR zR))
end
noncomputable def tL:Ag->Ac Ag:=λ_=>[]
noncomputable def tK:Ag->Ac D->R Ex:=λ_ _=>.bad
noncomputable def Q73:Prg:=⟨Aa,fun
 |1=>OH
 |9=>Ly
 |17=>LH
 |23=>Nf
 |24=>OI
 |56=>PB
 |57=>OJ
 |61=>NU
 |65=>Ng
 |194=>NW
 |69=>Qp
 |221=>LW
 |222=>MV
 |223=>LC
 |225=>KR
 |226=>K8
 |227=>Jl
 |228=>Lx
 |229=>M0
 |288=>MU
 |231=>Yb
 |232=>M4
 |233=>NV
 |234=>MY
 |235=>KQ
 |250=>Lw
 |289=>Nl
 |290=>Lz
 |251=>IZ
 |236=>MZ
 |237=>Nm
 |252=>Ja 1
 |253=>LB
 | _=>⟨0,Ae,.nil⟩,λ_=>.non,tL,tK⟩
theorem qM(ns:Ac Ad):(gam Q73 10).F 253 [scr ns]=.ok (.bl Aa):=by
 have gF:∀ n i ds,(gam Q73 (n+1)).F i ds=(Q73.defs i).run (gam Q73 n) ds:=λ_ _ _=>rfl
 have d65:Q73.defs 65=Ng:=rfl;have d223:Q73.defs 223=LC:=rfl;have d234:Q73.defs 234=MY:=rfl;have d227:Q73.defs 227=Jl:=rfl;have d226:Q73.defs 226=K8:=rfl;have d225:Q73.defs 225=KR:=rfl;have d235:Q73.defs 235=KQ:=rfl;have d250:Q73.defs 250=Lw:=rfl;have d290:Q73.defs 290=Lz:=rfl;have d251:Q73.defs 251=IZ:=rfl;have d252:Q73.defs 252=Ja 1:=rfl;have rs:∀ n,Kj (gam Q73 (n+1)):=λn p m hp=>iU (gam Q73 n) p m hp
 have mi:∀ n,Jv (gam Q73 (n+1)) 228 ns:=λn k hk=>iY (gam Q73 n) ns k hk
 have tu:∀ n,NZ (gam Q73 (n+2)):=λn p m hp z=>YG (rs n) p m hp z
 have fo:∀ n,R5 (gam Q73 (n+3)):=λn p b xs l t hp e it=>eH (rs (n+1)) (tu n) hp e it
 have me:∀ n,ID (gam Q73 (n+2)):=λn p q a b c hp ha hb hc=>eG (rs n) p q a b c hp ha hb hc
 have jo:∀ n,ON (gam Q73 (n+4)):=λn p a b hp ia ib la lb ne=>lN (λa b ha hb ne=>YH (gam Q73 (n+2)) a b ha hb ne) (fo n) p a b hp ia ib la lb ne
 have ly:∀ n,Tk (gam Q73 (n+2)):=λn p x y hp ix iy=>lM (rs n) p x y hp ix iy
 have on:∀ n,OM (gam Q73 (n+3)):=λn p x y hp ix iy=>iX (ly n) p x y hp ix iy
 have an:∀ n,Ue (gam Q73 (n+4)):=λn p x ls hp ix hl=>rS (on n) x ls hp ix hl
 have st:∀ n,Ow (gam Q73 (n+5)):=λn p pts f left hp np nf ni nl=>eA (jo n) (an n) pts f left hp np nf ni nl
 have tr:∀ n p,P4 p->(gam Q73 (n+1)).F 69 [.int p]=.ok (At (Ch p)):=λn p hp=>rP (gam Q73 n) p hp
 have ft:∀ n,Ud (gam Q73 (n+6)):=λn p pts hp np nd hz=>by rw[gF,d223];exact rQ (st n) (λp hp=>tr (n+4) p hp) pts hp np nd hz
 have fi:∀ n (p:Ad) (pts:Ac R3),P4 p->(∀ x∈pts,NF p x)->pts.length<=1000->(gam Q73 (n+3)).F 65 [.int p,At pts]=.ok ((z0_ p pts).getD .non):=λn p pts hp np hz=>by rw[gF,d65];exact ZI (me n) hp (λx hx=>(np x hx).1) (by show pts.length<20000;omega)
 have tw:∀ n,TZ (gam Q73 (n+3)):=λn p pts x hp np ix=>by rw[gF,d225];exact rO (me n) hp np ix
 have ee:∀ n (p:Ad) (pts:Ac R3),P4 p->(∀ x∈pts,NF p x)->(∀ x∈Ch p,x∉pts->∃ q,fpr p pts x=Ab q)->(gam Q73 (n+4)).F 226 [.int p,At pts]=.ok (JD p pts):=λn p pts hp np ha=>by rw[gF,d226];exact rR (λp hp=>tr (n+2) p hp) (tw n) hp np ha
 have lk:∀ n (p:Ad) (pts:Ac R3),P4 p->Fre p pts->(pts.length:Ad)<=p->(gam Q73 (n+7)).F 227 [.int p,At pts]=.ok (match (F1 p pts).head? with|some x=>.tup [.str (AV "more"),An Aa x]|none=>.tup [.str (AV "ends"),JD p pts]):=λn p pts hp f hl=>by rw[gF,d227];exact ZG ⟨λpts nd=>rM (U:=gam Q73 (n+5)) pts nd,λp pts hp np hz=>fi (n+3) p pts hp np hz,ft n,λp pts hp np ha=>ee (n+2) p pts hp np ha,rfl⟩ hp f hl
 have sm:∀ n,G1 (gam Q73 (n+1)):=λn p q q' a x p0 ha hx=>ZF (gam Q73 n) p q q' a x p0 ha hx
 have cs:∀ n,Hv (gam Q73 (n+1)):=λn p q q' a x p0 ha hx=>ZJ (gam Q73 n) p q q' a x p0 ha hx
 have fm:∀ n,R6 (gam Q73 (n+1)):=λn p b xs l t hp e it=>eI (gam Q73 n) hp e it
 have le:∀ n,Rt (gam Q73 (n+2)):=λn p t q q' a b c x G hx lx=>ZH (sm n) (fm n) p t q q' a b c x G hx lx
 have pt:∀ n,Kl (gam Q73 (n+1)):=λn p m hp=>iV (gam Q73 n) p m hp
 have th:∀ n (p:Ad) (pts:Ac R3),P4 p->(∀ x∈pts,NF p x)->pts.length<=1000->(gam Q73 (n+2)).F 234 [.int p,At pts]=.ok ((z0_ p pts).getD .non):=λn p pts hp np hz=>by rw[gF,d234];exact ZE (cs n) (sm n) hp (λx hx=>(np x hx).1) hz
 have rq:∀ n,R4 (gam Q73 (n+1)):=λn p xs hx=>eB (gam Q73 n) p xs hx
 have fd:∀ n (p:Ad) (x:R3),P4 p->NF p x->(gam Q73 (n+2)).F 237 [.int p,An Aa x,.int 3]=.ok (.bl Aa):=λn p x hp nx=>eJ (rq n) p [x.1,x.2.1,x.2.2] hp.pos (by
  obtain⟨⟨h1,h2,h3⟩,_⟩:=nx;intro y hy;simp at hy;rcases hy with rfl|rfl|rfl<;>assumption) nx.2
 have fs:∀ n,HFs (gam Q73 (n+4)) ns:=λn=>⟨λp at_ hp ha=>dZ (mi (n+2)) p at_ hp ha,λp a b c G=>by rw[gF,d290];exact iW (le (n+1)) p a b c G,λat_ L ha hL=>by
  obtain⟨M,pm,e⟩:=eF (mi (n+2)) at_ L ha hL;exact⟨M,pm,by rw[gF,d251];exact e⟩,mi (n+3),pt (n+3),rfl,λp pts hp np hz=>th (n+2) p pts hp np hz⟩
 refine nM (U:=gam Q73 9) ⟨eC (mi 7),λp hp=>?_,λp pts hp np hz=>by rw[gF,d235];exact eE (pt 7) (cs 7) (sm 7) hp np hz,pt 8,λp pts hp f hl=>lk 2 p pts hp f hl,rfl,λp x hp nx=>fd 7 p x hp nx⟩
 obtain⟨l,f,hl,e⟩:=X0 (fs 4) hp (j:=1) (by decide) (by decide)
 exact⟨l,f,by omega,by rw[gF,d252];exact e⟩
end OvC
namespace OvC
open PySem PySem.Spec PyProof.Rows Ov L2
variable{l:Fo}
noncomputable def T9:Ac (Ak×Ag×Ag):=([("rest",1,2),("turned_over",9,2),("one_form",17,2),("crossed",23,2),("lies",24,3),("on",56,3),("join",57,3),("measure",61,4),("first_three",65,2),("ask_unlike",194,1),("triples",69,1),("on_any",221,3),("still_fitting",222,4),("fitting",223,2),("first_two",225,3),("end_rows",226,2),("look",227,2),("_law_mixed",228,2),("_law_prime",229,1),("_law_form",288,2),("_law_point",231,2),("_law_cross",232,3),("_law_sum",233,3),("_law_three",234,2),("_law_pairs",235,2),("_law_table",250,3),("_law_led",289,3),("_law_oval",290,2),("_law_order",251,3),("_law_rests",236,3)]:Ac (Ak×Ag×Ag))++([("_law_formed",237,3),("_law_free_set",252,2),("law",253,1)]:Ac (Ak×Ag×Ag))
noncomputable def UE:Ac Ak:=["all", "bool", "enumerate", "int", "isinstance", "len", "list", "range", "sum", "tuple", "zip"]
noncomputable def Tu:Ac (Ak×Ag):=[]
noncomputable def Ub:Ac (Ak×Ag):=[]
noncomputable def Tx:Ac (Ak×Ag):=[]
noncomputable abbrev C73(h:Ai)(n:Ag)(N:Ac Ak)(i d:Ag):Ai:=G8 80 h T9 UE Tu Ub Tx (N.take n) N (tp73 i) (Q73.defs d)
theorem mY:C73 Ae 2 ["p", "n"] 10 1=Aa:=by decide+kernel
theorem mX:C73 Ae 2 ["p", "n", "turned"] 11 9=Aa:=by decide+kernel
theorem mW:C73 Ae 2 ["p", "numbers", "rests", "first", "factor", "#5", "#6"] 13 17=Aa:=by decide+kernel
theorem mV:C73 Ae 2 ["one", "other"] 14 23=Aa:=by decide+kernel
theorem mU:C73 Ae 3 ["p", "point", "line"] 15 24=Aa:=by decide+kernel
theorem mT:C73 Ae 3 ["p", "point", "line"] 17 56=Aa:=by decide+kernel
theorem mS:C73 Ae 3 ["p", "one", "other"] 18 57=Aa:=by decide+kernel
theorem mR:C73 Ae 4 ["p", "one", "other", "third"] 19 61=Aa:=by decide+kernel
theorem mQ:C73 Ae 2 ["p", "points", "i", "one", "j", "k"] 20 65=Aa:=by decide+kernel
theorem mP:C73 Ae 1 ["points", "place", "point"] 21 194=Aa:=by decide+kernel
theorem iM:C73 Ae 1 ["p", "told", "z", "y", "#4"] 23 69=Aa:=by decide+kernel
theorem iL:C73 Ae 3 ["p", "point", "lines", "line"] 49 221=Aa:=by decide+kernel
theorem iK:C73 Ae 4 ["p", "points", "further_point", "left", "lines", "#5", "#6"] 50 222=Aa:=by decide+kernel
theorem iJ:C73 Ae 2 ["p", "points", "left", "place", "point"] 51 223=Aa:=by decide+kernel
theorem iI:C73 Ae 3 ["p", "points", "point", "place", "one", "other"] 53 225=Aa:=by decide+kernel
theorem iH:C73 Ae 2 ["p", "points", "#2"] 54 226=Aa:=by decide+kernel
theorem iG:C73 Ae 2 ["p", "points", "three", "left"] 55 227=Aa:=by decide+kernel
theorem iF:C73 Ae 2 ["_law_script", "_law_k", "_law_cell"] 57 228=Aa:=by decide+kernel
theorem iE:C73 Ae 1 ["_law_script"] 58 229=Aa:=by decide+kernel
theorem iD:C73 Ae 2 ["_law_p", "_law_numbers", "_law_rests_here", "_law_first", "_law_back", "#5", "#6", "#7", "#8"] 59 288=Aa:=by decide+kernel
theorem iC:C73 Ae 2 ["_law_p", "_law_number"] 60 231=Aa:=by decide+kernel
theorem iB:C73 Ae 3 ["_law_p", "_law_one", "_law_other", "_law_x", "_law_y", "_law_z"] 61 232=Aa:=by decide+kernel
theorem fA:C73 Ae 3 ["_law_p", "_law_one", "_law_other"] 62 233=Aa:=by decide+kernel
theorem eZ:C73 Ae 2 ["_law_p", "_law_points", "_law_i", "_law_j", "_law_line", "_law_k"] 63 234=Aa:=by decide+kernel
theorem eY:C73 Ae 2 ["_law_p", "_law_points", "_law_pairs_here", "_law_every", "_law_i", "_law_j", "_law_line", "_law_point_here", "#8"] 64 235=Aa:=by decide+kernel
theorem eW:C73 Ae 3 ["_law_p", "_law_script", "_law_at", "_law_rows", "_law_k", "_law_number", "_law_i", "_law_j", "_law_many", "#9", "#10", "#11"] 65 250=Aa:=by decide+kernel
theorem eV:C73 Ae 3 ["_law_p", "_law_rows", "_law_point_here", "#3"] 66 289=Aa:=by decide+kernel
theorem eU:C73 Ae 2 ["_law_p", "_law_rows", "_law_points", "_law_t"] 67 290=Aa:=by decide+kernel
theorem eS:C73 Ae 3 ["_law_script", "_law_at", "_law_things", "_law_told", "_law_k", "_law_spot"] 68 251=Aa:=by decide+kernel
theorem eQ:C73 Ae 3 ["_law_p", "_law_found", "_law_many", "#3"] 69 236=Aa:=by decide+kernel
theorem eP:C73 Ae 3 ["_law_p", "_law_found", "_law_many", "#3"] 70 237=Aa:=by decide+kernel
theorem eO:C73 Ae 2 ["_law_p", "_law_script", "_law_way", "_law_many", "_law_points", "_law_k", "_law_point_here"] 71 252=Aa:=by decide+kernel
theorem RY:C73 Ae 1 ["_law_script", "_law_p", "_law_points", "_law_pairs_here", "_law_due", "_law_rows", "_law_number", "_law_point_here", "_law_handed", "_law_turn", "_law_found", "#11"] 72 253=Aa:=by decide+kernel
set_option maxHeartbeats 0 in
theorem all73{w:Ay}{K:Fg}{h:AJ}{mg:Ak->Ao Aj}{fa f0 f1 f2 f3 f4 f5 f6 f7 f8 f9 f10 f11 f12 f13 f14 f15 f16 f17 f18 f19 f20 f21 f22 f23 f24 f25 f26 f27 f28 f29 f30 f31 f32:Ah}(X:K.In h)(G:h.Ns A5 mg)(hfa:mg "law" = Ab (.ref fa))(a0:FnI K f0 "rest" (tp73 10))(a1:FnI K f1 "turned_over" (tp73 11))(a2:FnI K f2 "one_form" (tp73 13))(a3:FnI K f3 "crossed" (tp73 14))(a4:FnI K f4 "lies" (tp73 15))(a5:FnI K f5 "on" (tp73 17))(a6:FnI K f6 "join" (tp73 18))(a7:FnI K f7 "measure" (tp73 19))(a8:FnI K f8 "first_three" (tp73 20))(a9:FnI K f9 "ask_unlike" (tp73 21))(a10:FnI K f10 "triples" (tp73 23))(a11:FnI K f11 "on_any" (tp73 49))(a12:FnI K f12 "still_fitting" (tp73 50))(a13:FnI K f13 "fitting" (tp73 51))(a14:FnI K f14 "first_two" (tp73 53))(a15:FnI K f15 "end_rows" (tp73 54))(a16:FnI K f16 "look" (tp73 55))(a17:FnI K f17 "_law_mixed" (tp73 57))(a18:FnI K f18 "_law_prime" (tp73 58))(a19:FnI K f19 "_law_form" (tp73 59))(a20:FnI K f20 "_law_point" (tp73 60))(a21:FnI K f21 "_law_cross" (tp73 61))(a22:FnI K f22 "_law_sum" (tp73 62))(a23:FnI K f23 "_law_three" (tp73 63))(a24:FnI K f24 "_law_pairs" (tp73 64))(a25:FnI K f25 "_law_table" (tp73 65))(a26:FnI K f26 "_law_led" (tp73 66))(a27:FnI K f27 "_law_oval" (tp73 67))(a28:FnI K f28 "_law_order" (tp73 68))(a29:FnI K f29 "_law_rests" (tp73 69))(a30:FnI K f30 "_law_formed" (tp73 70))(a31:FnI K f31 "_law_free_set" (tp73 71))(a32:FnI K f32 "law" (tp73 72))(z0:BO K A5 "all" = Ab Af)(z1:BO K A5 "bool" = Ab Af)(z2:BO K A5 "enumerate" = Ab Af)(z3:BO K A5 "int" = Ab Af)(z4:BO K A5 "isinstance" = Ab Af)(z5:BO K A5 "len" = Ab Af)(z6:BO K A5 "list" = Ab Af)(z7:BO K A5 "range" = Ab Af)(z8:BO K A5 "sum" = Ab Af)(z9:BO K A5 "tuple" = Ab Af)(z10:BO K A5 "zip" = Ab Af):
    ∃ fd:BW,(∀(s:Aq)(v:Aj),GO s fd ⟨[v],[]⟩ [("_law_script",v)])/\∀ base:AJ,K.In base->base.Ns A5 mg->FnOk l.prog w K mg base (CXR l.prog w) 10 fa fd ["_law_script"] (Mw K):=by
  obtain⟨_,F,e⟩:=a32;obtain⟨_,_,_,_,_,_,_,_,_,rfl,_,_⟩:=F.ex;cases hfa.symm.trans (Gv X G e);have T:Tab K mg (λ_=>Af) T9 UE Tu Ub Tx Q73 80:=⟨bK λ_ _=>rfl,all_cons (BQ X G z0) (all_cons (BQ X G z1) (all_cons (BQ X G z2) (all_cons (BQ X G z3) (all_cons (BQ X G z4) (all_cons (BQ X G z5) (all_cons (BQ X G z6) (all_cons (BQ X G z7) (all_cons (BQ X G z8) (all_cons (BQ X G z9) (all_cons (BQ X G z10) (Os))))))))))),Os,all_cons (FE 2 1 X G a0 rfl mY λ_ _ _ _ _ _ _ _=>rfl) (all_cons (FE 2 9 X G a1 rfl mX λ_ _ _ _ _ _ _ _=>rfl) (all_cons (FE 2 17 X G a2 rfl mW λ_ _ _ _ _ _ _ _=>rfl) (all_cons (FE 2 23 X G a3 rfl mV λ_ _ _ _ _ _ _ _=>rfl) (all_cons (GE 3 24 X G a4 rfl mU λ_ _ _ _ _ _ _ _ _=>rfl) (all_cons (GE 3 56 X G a5 rfl mT λ_ _ _ _ _ _ _ _ _=>rfl) (all_cons (GE 3 57 X G a6 rfl mS λ_ _ _ _ _ _ _ _ _=>rfl) (all_cons (Uj 4 61 X G a7 rfl mR λ_ _ _ _ _ _ _ _ _ _=>rfl) (all_cons (FE 2 65 X G a8 rfl mQ λ_ _ _ _ _ _ _ _=>rfl) (all_cons (MH 1 194 X G a9 rfl mP λ_ _ _ _ _ _ _=>rfl) (all_cons (MH 1 69 X G a10 rfl iM λ_ _ _ _ _ _ _=>rfl) (all_cons (GE 3 221 X G a11 rfl iL λ_ _ _ _ _ _ _ _ _=>rfl) (all_cons (Uj 4 222 X G a12 rfl iK λ_ _ _ _ _ _ _ _ _ _=>rfl) (all_cons (FE 2 223 X G a13 rfl iJ λ_ _ _ _ _ _ _ _=>rfl) (all_cons (GE 3 225 X G a14 rfl iI λ_ _ _ _ _ _ _ _ _=>rfl) (all_cons (FE 2 226 X G a15 rfl iH λ_ _ _ _ _ _ _ _=>rfl) (all_cons (FE 2 227 X G a16 rfl iG λ_ _ _ _ _ _ _ _=>rfl) (all_cons (FE 2 228 X G a17 rfl iF λ_ _ _ _ _ _ _ _=>rfl) (all_cons (MH 1 229 X G a18 rfl iE λ_ _ _ _ _ _ _=>rfl) (all_cons (FE 2 288 X G a19 rfl iD λ_ _ _ _ _ _ _ _=>rfl) (all_cons (FE 2 231 X G a20 rfl iC λ_ _ _ _ _ _ _ _=>rfl) (all_cons (GE 3 232 X G a21 rfl iB λ_ _ _ _ _ _ _ _ _=>rfl) (all_cons (GE 3 233 X G a22 rfl fA λ_ _ _ _ _ _ _ _ _=>rfl) (all_cons (FE 2 234 X G a23 rfl eZ λ_ _ _ _ _ _ _ _=>rfl) (all_cons (FE 2 235 X G a24 rfl eY λ_ _ _ _ _ _ _ _=>rfl) (all_cons (GE 3 250 X G a25 rfl eW λ_ _ _ _ _ _ _ _ _=>rfl) (all_cons (GE 3 289 X G a26 rfl eV λ_ _ _ _ _ _ _ _ _=>rfl) (all_cons (FE 2 290 X G a27 rfl eU λ_ _ _ _ _ _ _ _=>rfl) (all_cons (GE 3 251 X G a28 rfl eS λ_ _ _ _ _ _ _ _ _=>rfl) (all_cons (GE 3 236 X G a29 rfl eQ λ_ _ _ _ _ _ _ _ _=>rfl) (all_cons (GE 3 237 X G a30 rfl eP λ_ _ _ _ _ _ _ _ _=>rfl) (all_cons (FE 2 252 X G a31 rfl eO λ_ _ _ _ _ _ _ _=>rfl) (all_cons (MH 1 253 X G ⟨_,F,e⟩ rfl RY λ_ _ _ _ _ _ _=>rfl) (Os)))))))))))))))))))))))))))))))))⟩
  exact⟨_,λs v=>.of_eq rfl,λbase _ _=>law_fn (Sj T (OE T 9) (Tz F) rfl RY) qM⟩
theorem walk73{q:AM}{loose:Ac Ak}{XP:(Ak->Ao Aj)->AJ->Prop}{YP:Ay->AJ->Prop}{d:DefRec}{K:KM->Fg}(hn:l.most=Ab 63)(hdf:d.params.defaults=[])(hY:∀(w:Ay)(h:AJ),YP w h->(K w.params).In h)(F:∀(w:Ay)(mg:Ak->Ao Aj)(fa:Ah)(h:AJ),(K w.params).In h->h.Ns A5 mg->mg d.name=Ab (.ref fa) ->
   ∃ fd:BW,(∀(s:Aq)(u:Aj),GO s fd ⟨[u],[]⟩ [("_law_script",u)])/\∀ base:AJ,(K w.params).In base->base.Ns A5 mg->FnOk l.prog w (K w.params) mg base (CXR l.prog w) 10 fa fd ["_law_script"] (Mw (K w.params))):WY q loose XP YP l.row.toRowW d [] (λf vs=>JJ f vs):=
 L2.walk_of (n:=63) (k:=10) (x := "_law_script") (CX:=λw=>CXR l.prog w) (sp:=λw=>Mw (K w.params)) hn (by decide) hdf ⟨rfl,by decide,by decide,rfl⟩ hY F (λ_ H a ns hl _ hS=>⟨a,ns,rfl,hl,hS,λ_ _ z=>z⟩) λ_ _ _ _ _ z=>nX z
end OvC
open PySem PySem.W PyProof.Rows
set_option hygiene false
set_option maxRecDepth 100000 in
set_option maxHeartbeats 0 in
theorem PySem.Challenge.cw_ovalfield_k73_more_or_ends_holds : PySem.Challenge.rw_ovalfield_k73_more_or_ends.Holds := by
 refine OvC.hold73.go OvC.reck73_1 OvC.reck73_2 OvC.reck73_3 OvC.reck73_4 OvC.reck73_5 OvC.reck73_6 OvC.reck73_7 OvC.reck73_8 OvC.reck73_9 OvC.reck73_10 OvC.reck73_11 ?_;intro said;refine OvC.walk73 (l:=PySem.Challenge.rw_ovalfield_k73_more_or_ends) rfl rfl (λw h Y_=>W1 Y_) ?F
 case F=>
  intro w mg fa h KX G hmg
  refine' OvC.all73 KX G hmg ?a0 ?a1 ?a2 ?a3 ?a4 ?a5 ?a6 ?a7 ?a8 ?a9 ?a10 ?a11 ?a12 ?a13 ?a14 ?a15 ?a16 ?a17 ?a18 ?a19 ?a20 ?a21 ?a22 ?a23 ?a24 ?a25 ?a26 ?a27 ?a28 ?a29 ?a30 ?a31 ?a32 ?z0 ?z1 ?z2 ?z3 ?z4 ?z5 ?z6 ?z7 ?z8 ?z9 ?z10
  case a0|a1|a2|a3|a4|a5|a6|a7|a8|a9|a10|a11|a12|a13|a14|a15|a16|a17|a18|a19|a20|a21|a22|a23|a24|a25|a26|a27|a28|a29|a30|a31|a32=>(refine' Ov.fni ?a ?l ?c ?k;(case a=>k_is);(case l=>k_is);(case c=>k_is);(case k=>k_is))
  case z0|z1|z2|z3|z4|z5|z6|z7|z8|z9|z10=>k_is
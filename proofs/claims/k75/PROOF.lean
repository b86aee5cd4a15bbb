import PyProof.Rows.All
import Wide.All
import OpenK.AllK
import Wide.FinOn
import PyProof.EqAt
import KE.KSortTup
import PyProof.EqKinds
import PyProof.TupleCall
import Lean
import PySem.Challenge.RW_ovalfield_k75_whole_grown
set_option Elab.async false
set_option linter.all false
set_option maxRecDepth 100000
set_option maxHeartbeats 4000000
open Bool renaming true→Aa,false→Ae,and_eq_true→Ap,false_ne_true→AM,not_eq_true'→BU,eq_iff_iff→CS,or_eq_true→C7,toNat_true→C8,and_false→FX,or_false→Gm,and_comm→XQ,and_true→XS
open Option renaming some→Ab,none→Af,bind_eq_some_iff→Cd,map_some→EY,map→GK,getD_none→YB,isNone_iff_eq_none→YC,isSome_iff_exists→YD,isSome_map→YE
open _root_ renaming List→Ac,Int→Ad,Nat→Ag,Bool→Al,Option→Aq,if_pos→AF,if_neg→AN,decide_eq_true→AU,Array→A6,decide_eq_true_eq→Bj,False→Bu,of_decide_eq_true→BA,beq_iff_eq→BK,or_false→BM,decide_eq_false→Cb,dif_neg→Cz,not_or→Dh,String→Dp,beq_eq_false_iff_ne→D6,beq_self_eq_true→D9,not_false_eq_true→Et,decide_eq_false_iff_not→ES,Decidable→GC,True→G9,and_true→Hi,if_true→IU,Unit→Jc,if_false→KR,bne_iff_ne→K3,beq_false_of_ne→qe
open PySem renaming wpAny_bind→Ah,Value→Ai,Addr→Ak,Str→An,Expr→Ao,Shared→As,wpAny_pure→Ax,wpAny→Az,starEach→AB,World→AD,Heap→AJ,Program→AT,Pos→AX,Around→Bc,mainGlobals→Bh,wpAny_field→Bi,Stmt→Bp,cLine→BV,wpAny_callSpecial?_slot→BW,wpAny_seqItems→B4,wpAny_setField_rec→B9,rawInt→Co,backTo→Ct,Scope→Cu,FuncData→Cv,binaryOp→Cw,compareOp→CO,wpAny_newObj_type→CP,wpAny_call_entry→CV,wpAny_mono→CW,wpAny_truthy_bool→C1,mem_of_lookup→C2,Env→C9,wpAny_holding→Dj,Obj→Dk,foldedSetIterable→Dr,Keyword→Dy,bootBuiltins→DE,assignEach→DJ,cellsFrom→DP,swapsWith→DQ,CmpOp→DR,Tok→DV,wpAny_onRaise→DY,tupleKind_room_in1→Ed,wpAny_passesOwn→Ej,sysModules→Ez,NameKind→EF,pyNext→EG,attributeBase→EU,sizeLine_eq→E1,wpAny_pyIter_list→E6,IsPair→Fa,PassesOwn→Fj,GenState→Fo,wpAny_rule→Fp,wpAny_attempt→FB,keywordEach→FE,sliceBounds→FG,wpAny_letGo→FH,codeAny_builtin→FP,wpAny_updateSeq→FQ,wpAny_pyIter_tuple→FU,codeAny→F1,wpAny_setField→F2,Operator→Gu,IsZip→GN,letOwnedTupleGo→GQ,wpAny_updateSeq_pair→GR,backToKw→G8,atKey→Hk,pushCells→Hn,wpAny_Call_Name_kw→Ho,Sem→Hr,behindInMarks→Hs,plainId_quiet→Ht,swapsWithSole→Hu,BindsTo→HJ,callerA→HK,IsPart→HR,Paired→HS,pushCells_keeps→Ip,wpAny_execs_nil→Iq,OsState→IL,dictSetDefault→IN,isTrue→IP,newFunctionEnv→IQ,notedBy→IR,standAt→IS,wpAny_newTuple→IT,Drawn→IW,bindC→IX,bindL→IY,builtinsNs→IZ,entryOfKey→Ja,numAt→Jb,Comprehension→Ju,swappedStores→Jw,wpAny_standAt→Jx,Result→JD,callSpecial?→JF,callType_new→JG,call_meetsIn→JH,codeAny_mono→JI,concat_meets→JJ,lastMarks→JK,noteFrame→JL,preSum→JM,seqIndex_neg→JN,updateSeq→JO,Model→J6,UnaryOp→J7,getItem→J8,setItem→J9,seqIndex_of→Kb,call→KY,call_meets→KZ,pyIter→K0,typeLookup→K1,wpAny_Name→K2,IntMulOk→L9,Params→Ma,bindArgs→Mb,intItems→Mc,builtinLookup_eq_fast→Z_5,call_sum_walkG→Z_6,checkBuiltinCall→Z_7,firstArgMember→Z_8,isSubtype_stop→Z_9,noFill_tuple_add→aA,recursionLimit→aC,slot_list_getitem→aD,typeLookup_type→aE,wpAny_Call_method_late→aF,wpAny_assign_Name→aG,wpAny_comprehension_free→aH,wpAny_dictEntries→aI,wpAny_isInstance→aJ,wpAny_pyIter_enum→aK,wpAny_pyIter_zip→aL,wpAny_specialOf→aM
open PySem.Heap renaming get?_push_of_some→Ar,get?_push_size→Ay,lt_size→AE,size_push→Bz,get?_update_self→Ca,get?_update_other→Ci,SameBut→EE,get?_none_of_le→GM,ExtBut→ZB,get?_push_cases→ZC
open List renaming mem_cons→Au,mem_cons_of_mem→Av,mem_cons_self→Aw,size_toArray→AG,not_mem_nil→AO,mem_singleton→AR,length_map→AV,range→AZ,length_append→A4,mem_range→A5,getElem?_eq_some_iff→Bf,length_cons→Bl,map_cons→Bm,mem_map→Bo,length_singleton→Bq,mem_append_right→Bw,length_set→BH,nodup_cons→BJ,lookup_cons→BZ,getElem?_eq_getElem→Cm,mem_filter→CC,findSome?_eq_none_iff→CY,getElem?_map→C0,getElem_mem→Dc,append_nil→Du,mem_append→Dv,getElem?_set_self→DB,filter_cons→DK,nodup_nil→DM,mem_of_getElem?→DT,getElem_of_mem→D4,forIn_nil→D7,map_map→Ea,find?_cons→Eg,forIn_cons→Eh,getD_eq_getElem?_getD→Ek,isEmpty_eq_false_iff→Ev,exists_of_findSome?_eq_some→EB,map_congr_left→EI,getElem?_cons_succ→EJ,getElem?_cons_zero→EK,map_append→EX,range_succ_eq_map→EZ,any_eq_true→Fk,mem_append_left→Fl,getElem?_append_left→FN,length_erase_of_mem→FS,getElem?_set_self'→F3,nodup_append→F6,take_of_length_le→Gg,any_cons→Go,all_eq_true→Gq,length_take→Gr,zipIdx_cons→Gs,take_append_drop→GD,foldl_cons→GE,getElem?_set_ne→GF,toArray→GH,zipIdx_nil→GI,filterMap_cons→G4,findSome?_cons→G5,replicate→G7,zip_cons_cons→Hl,all_cons→Hq,getElem?_set→HG,take_sublist→HH,isEmpty_iff→HN,map_nil→HP,of_mem_zip→Io,map→Kc,any_eq_false→X9,any_map→Yb,append_assoc→Yc,contains_eq_mem→Ye,drop_eq_getElem_cons→Yg,drop_eq_nil_of_le→Yh,ext_getElem?→Yi,find?_append→Yj,getElem?_append_right→Yk,getElem?_of_mem→Yl,getElem?_replicate→Ym,getElem?_toArray→Yn,getElem_inj→Yo,length→Yp,length_drop→Yq,length_pos_of_mem→Yr,length_range→Ys,length_replicate→Yt,lookup→Yu,lookup_cons_self→Yv,reverse_cons→Yw,set_set→Yx
open Nat renaming lt_of_lt_of_le→AI,le_refl→A1,ne_of_lt→Bb,lt_irrefl→Bx,le_trans→Cn,ble_eq_true_of_le→CQ,ne_of_gt→DD,lt_succ_of_lt→DX,lt_of_le_of_lt→Eb,le_add_right→EC,ble→ET,le_of_lt→E8,lt_succ_self→Fm,pow_le_pow_right→Fn,zero_add→FT,not_lt→FY,zero_le→Gh,not_lt_zero→GJ,add_le_add_left→G6,lt_or_gt_of_ne→Hm,le_of_eq→JA,lt_trans→JB,le_of_ble_eq_true→Yy,min_eq_left→Yz,min_self→YA
open Int renaming emod_eq_of_lt→AK,emod_lt_of_pos→AQ,emod_nonneg→AS,zero_emod→Be,emod_emod_of_dvd→BD,mul_comm→BS,mul_emod→BX,dvd_refl→CA,mul_zero→CB,zero_add→Db,one_mul→Dz,zero_mul→DA,toNat_natCast→Ep,mul_one→EA,sub_zero→E7,mul_assoc→Gn,le_refl→Hj,mul_nonneg→IJ,le_trans→Jz,mul_pos→Ka,add_emod→XV,add_zero→XX,dvd_neg→XY,dvd_of_emod_eq_zero→XZ,ediv_nonneg→X0,emod_eq_zero_of_dvd→X1,mul_le_mul→X2,mul_sub→X3,ne_of_gt→X4,sub_add_cancel→X5,sub_emod→X6,toNat_of_nonneg→X7,zero_sub→X8
open PySem.Builtin.SmallTypes renaming nextOf→A2,ownedTupleIsFree→A3,ownedTupleHandOut→Dd
open PySem.W.Fast renaming te10274390034422433532→A7,te14082659384304107361→A8,te14289696077712309145→A9,te14364793385576792824→Ba,te1435165496053646825→Bg
open PySem.Str renaming ofString→By
open Classical renaming byContradiction→BL,choose_spec→Ef,choose→XU
open Option.some renaming inj→BN,injEq→Ce
open Prod renaming ext→BO
open PySem.W renaming mg_none_of→BQ,nsIn→B8,findIn→CZ,fencedOpening→Di,emptyDict→Dq,keepIn→DO,fnOf→Ec,instObj→Ei,openEnds→E0,topFrom→FC,codeIn→F0,OpenLaw→Gk,methodObj→HI,lookIn→IM,mg_of→Jv,WalkO→ZX,cellsFrom_some→ZY,kIn_of→ZZ,kitOne→Z_0,plainGet→Z_1,subIn→Z_2
open Array renaming getElem?_eq_getElem→BY,length_toList→D0,getElem?_eq_some_iff→Fx,getElem?_push→G3,toList→Jy,forIn_toList→XI,getElem?_toList→XJ,mem_toList_iff→XM,size_push→XN,toArray_toList→XO
open PySem.NameKind renaming cell→Cc,free→Em
open PyProof.Rows renaming callWith_type1→Cs,envOfC→FA,AllBare→FZ,boot_tuple→F4,subscriptTail_builtinR→Gi,IntsAre→IK,IsTup→J5,Call_→KS,boot_list→YF,boot_zip→YG,slicePart_none→YH,slot_tuple_getitem→YI
open PySem.F renaming slot_zip_next→CD,slot_tuple_iterator_next→El,args_zip_next_1→Er,entry_zip_next→ED,slot_list_extend→E9,plain_extend_loop→FI,plainAttrs_list→F5,args_list_extend_2→Zl,args_object_init_2→Zm,args_tuple_add_2→Zn,args_tuple_iterator_next_1→Zo,called_zip→Zp,entry_extend_loop→Zq,entry_list_extend→Zr,entry_tuple_add→Zs,entry_tuple_iterator_next→Zt,entry_zip_new→Zu,plain_list_iadd→Zv,plain_tuple_new→Zw,slot_dict_len→Zx,slot_tuple_add→Zy,slot_zip_iter→Zz,type_list_extend→ZA
open Ne renaming symm→CK
open PySem.Obj renaming mapSeq→CU,data_mapFields→DN,isFreed_of_fields→Fd,mapFields→Gp,cls_mapFields→ZD,data_mapDictKeys→ZE
open PySem.Builtin.Tuple renaming tupleExact→De
open PySem.Value renaming ref→Dx,none→DI,type→GP,bool→ZS,int→ZT,str→ZU
open PySem.Builtin.List renaming listTooLong→DU,listExtendWith→YL,listSameRef→YM
open PySem.Heap.SameBut renaming update→D5
open False renaming elim→Eu
open PySem.Around renaming under_plainId→Ew
open PySem.Builtin.Slice renaming slicePlaces→Ey,sliceAdjust→FO,sliceApplied→YN
open ForInStep renaming yield→EW
open List.Nodup renaming mem_erase_iff→FR
open PySem.Shared renaming heap→Gj
open PySem.SeqAt renaming EqAt→GO,RcNeAt→JE,RcAt→KU
open Function renaming comp_def→HF
open Sum renaming inl→HL,inr→HM
open Nat.succ renaming inj→HQ
open Eq renaming trans→IV,symm→MY
open Prod.mk renaming injEq→Jt
open PyProof.Rows.IsTup renaming new→JC
open PySem.Walks renaming list→KW,tuple→Z_4
open NeZero renaming ne→L6
open PySem.Data renaming cell→L7,seq→L8
open List.cons renaming injEq→Yd
open PySem.AutoSeq1 renaming wpAny_loadPart'→YJ
open PySem.Builtin.Int renaming intBits→YK
open PySem.Calls renaming Name_function_global→YO,callWith_builtin→YQ,evalArgs_plain→YR,spliced_cons→YS,spliced_nil→YT
open PySem.EntryCells renaming newEntry→YU
open PySem.Expr renaming Attribute→YV,BinOp→YX,BoolOp→YZ,Call→Y_1,Compare→Y_3,Constant→Y_5,List→Y_7,ListComp→Y_9,Name→Zb,Slice→Zd,Subscript→Zf,Tuple→Zh,UnaryOp→Zj
open PySem.Expr.Attribute renaming elim→YW
open PySem.Expr.BinOp renaming elim→YY
open PySem.Expr.BoolOp renaming elim→Y_0
open PySem.Expr.Call renaming elim→Y_2
open PySem.Expr.Compare renaming elim→Y_4
open PySem.Expr.Constant renaming elim→Y_6
open PySem.Expr.List renaming elim→Y_8
open PySem.Expr.ListComp renaming elim→Za
open PySem.Expr.Name renaming elim→Zc
open PySem.Expr.Slice renaming elim→Ze
open PySem.Expr.Subscript renaming elim→Zg
open PySem.Expr.Tuple renaming elim→Zi
open PySem.Expr.UnaryOp renaming elim→Zk
open PySem.Paired renaming length→ZF
open PySem.SeqAt.EqAt renaming of_refs→ZG,same→ZH
open PySem.Stmt renaming Assign→ZI,Expr→ZK,Return→ZO,While→ZQ
open PySem.Stmt.Assign renaming elim→ZJ
open PySem.Stmt.Expr renaming elim→ZL
open PySem.Stmt.For renaming elim→ZM
open PySem.Stmt.If renaming elim→ZN
open PySem.Stmt.Return renaming elim→ZP
open PySem.Stmt.While renaming elim→ZR
open PySem.W.WData renaming int→ZV
open PySem.W.WShape renaming has→ZW
abbrev Fg:=PySem.W.Frag
abbrev Pn:=Ac (PySem.Addr×PySem.Obj)
abbrev Vq:=PySem.Value->PySem.Shared->Prop
set_option genSizeOfSpec false
section
open PySem PySem.W PyProof.Rows
namespace OvC
set_option genInjectivity false in
structure Eleven (P:Prop) where
 (α1 α2 α3 α4 α5 α6 α7 α8 α9 α10 α11:Type)
 (l1 r1:AD->α1)
 (l2 r2:AD->α2)
 (l3 r3:AD->α3)
 (l4 r4:AD->α4)
 (l5 r5:AD->α5)
 (l6 r6:AD->α6)
 (l7 r7:AD->α7)
 (l8 r8:AD->α8)
 (l9 r9:AD->α9)
 (l10 r10:AD->α10)
 (l11 r11:AD->α11)
 X:Prop
 go:(∀ w,l1 w=r1 w)->(∀ w,l2 w=r2 w)->(∀ w,l3 w=r3 w)->(∀ w,l4 w=r4 w)->(∀ w,l5 w=r5 w)->(∀ w,l6 w=r6 w)->(∀ w,l7 w=r7 w)->(∀ w,l8 w=r8 w)->(∀ w,l9 w=r9 w)->(∀ w,l10 w=r10 w)->(∀ w,l11 w=r11 w)->X->P
theorem map_pair{U α β:Type}{A:U->α}{B:U->β}{r:Aq U}{a:α}{b:β}(h1:GK A r=Ab a)(h2:GK B r=Ab b):GK (λs=>(A s,B s)) r=Ab (a,b):=by
 cases r with
 |none=>cases h1
 |some s=>cases h1;cases h2;rfl
theorem map_take{U α:Type}{B:U->Ac α}{r:Aq U}{v:Ac α}(n:Ag)(h1:GK (λs=>(B s).take n) r=Ab (v.take n))(h2:GK (λs=>(B s).drop n) r=Ab (v.drop n)):GK B r=Ab v:=by
 cases r with
 |none=>cases h1
 |some s=>
  have e1:(B s).take n=v.take n:=by injection h1
  have e2:(B s).drop n=v.drop n:=by injection h2
  show Ab (B s)=Ab v;rw[<-GD n (B s),<-GD n v,e1,e2]
end OvC
namespace OvC
noncomputable def tp75(i:Ag):Bp:=PySem.Challenge.pw_ovalfield_k75_whole_grown.main.body.getD i (.Pass ⟨0,0,0,0⟩)
end OvC
noncomputable def OvC.view75:PySem.Program:={ PySem.Challenge.pw_ovalfield_k75_whole_grown with main:={PySem.Challenge.pw_ovalfield_k75_whole_grown.main with body:=[OvC.tp75 1,OvC.tp75 2,OvC.tp75 3,OvC.tp75 4,OvC.tp75 5,OvC.tp75 6,OvC.tp75 7,OvC.tp75 8,OvC.tp75 10,OvC.tp75 11,OvC.tp75 13,OvC.tp75 14,OvC.tp75 15,OvC.tp75 17,OvC.tp75 18,OvC.tp75 19,OvC.tp75 20,OvC.tp75 21,OvC.tp75 22,OvC.tp75 23,OvC.tp75 25,OvC.tp75 26,OvC.tp75 27,OvC.tp75 28,OvC.tp75 29,OvC.tp75 30,OvC.tp75 32,OvC.tp75 33,OvC.tp75 34,OvC.tp75 35,OvC.tp75 36,OvC.tp75 37,OvC.tp75 38,OvC.tp75 40,OvC.tp75 41,OvC.tp75 42,OvC.tp75 44,OvC.tp75 45,OvC.tp75 46,OvC.tp75 47,OvC.tp75 49,OvC.tp75 50,OvC.tp75 51,OvC.tp75 52,OvC.tp75 53,OvC.tp75 54,OvC.tp75 55,OvC.tp75 56,OvC.tp75 57,OvC.tp75 59,OvC.tp75 60,OvC.tp75 61,OvC.tp75 62,OvC.tp75 63,OvC.tp75 64,OvC.tp75 65,OvC.tp75 66,OvC.tp75 67,OvC.tp75 68,OvC.tp75 69,OvC.tp75 70,OvC.tp75 71,OvC.tp75 72,OvC.tp75 73,OvC.tp75 74,OvC.tp75 75]} }
set_option hygiene false
local macro_rules | `(tactic| o_head $H)=>`(tactic| refine holds_open (q:=OvC.view75) (loose:=[]) (Xt:=fun s=>xlAt OvC.view75 [] s&&recOk (RowW.records (OpenRow.toRowW (PySem.Challenge.rw_ovalfield_k75_whole_grown.row))) s) (XP:=XL OvC.view75 []) (Yf:=Hook.obs $H) (Ya:=Hook.val $H) (YP:=Hook.says $H) (N:=7244) ?hl (Hook.of $H) (Hook.keeps $H) (fun s e=>xl_of s (Bool.and_eq_true_iff.mp e).1) XL.keeps (by rfl) (by rfl) (by rfl) (fun s e=>recFacts_of (Bool.and_eq_true_iff.mp e).2) (by rfl) (by first|assumption|decide +kernel) (by decide +kernel) ⟨rfl,rfl,rfl,rfl,rfl,by decide +kernel⟩ ?hw ?hc)
set_option maxRecDepth 100000 in
set_option maxHeartbeats 0 in
noncomputable def OvC.hold75:OvC.Eleven PySem.Challenge.rw_ovalfield_k75_whole_grown.Holds:=by
 refine' ⟨_,_,_,_,_,_,_,_,_,_,_,_,_,_,_,_,_,_,_,_,_,_,_,_,_,_,_,_,_,_,_,_,_,_,λg1 g2 g3 g4 g5 g6 g7 g8 g9 g10 g11 x=>_⟩
 rotate_right
 w_on;refine holds_law (by decide+kernel) λsaid=>?_;k_head
 (case hl=>intro w;refine OvC.map_pair ?p1 (OvC.map_take 100 ?p2 ?p3);(case p1=>rw[PySem.W.Fast.te4187177175401517315];unfold PySem.W.Fast.tw4187177175401517315 openGood;refine OvC.map_pair ?q1 (OvC.map_pair ?q2 (OvC.map_pair ?q3 (OvC.map_pair ?q4 (OvC.map_pair ?q5 (OvC.map_pair ?q6 (OvC.map_pair ?q7 (OvC.map_pair ?q8 ?q9)))))));(case q1=>unfold E0 Di FC;rw[A7,Ba,Bg,A9,A8];exact g1 w);(case q2=>unfold E0 Di FC;rw[A7,Ba,Bg,A9,A8];exact g2 w);(case q3=>unfold E0 Di FC;rw[A7,Ba,Bg,A9,A8];exact g3 w);(case q4=>unfold E0 Di FC;rw[A7,Ba,Bg,A9,A8];exact g4 w);(case q5=>unfold E0 Di FC;rw[A7,Ba,Bg,A9,A8];exact g5 w);(case q6=>unfold E0 Di FC;rw[A7,Ba,Bg,A9,A8];exact g6 w);(case q7=>unfold E0 Di FC;rw[A7,Ba,Bg,A9,A8];exact g7 w);(case q8=>unfold E0 Di FC;rw[A7,Ba,Bg,A9,A8];exact g8 w);(case q9=>unfold E0 Di FC;rw[A7,Ba,Bg,A9,A8];exact g9 w);skip);(case p2=>unfold E0 Di FC;rw[A7,Ba,Bg,A9,A8];exact g10 w);(case p3=>unfold E0 Di FC;rw[A7,Ba,Bg,A9,A8];exact g11 w))
 (case hw=>w_witness2)
 k_fill
 revert said
 exact x
theorem OvC.reck75_1(w:AD):OvC.hold75.l1 w=OvC.hold75.r1 w:=by kernel_rfl
theorem OvC.reck75_2(w:AD):OvC.hold75.l2 w=OvC.hold75.r2 w:=by kernel_rfl
theorem OvC.reck75_3(w:AD):OvC.hold75.l3 w=OvC.hold75.r3 w:=by kernel_rfl
theorem OvC.reck75_4(w:AD):OvC.hold75.l4 w=OvC.hold75.r4 w:=by kernel_rfl
theorem OvC.reck75_5(w:AD):OvC.hold75.l5 w=OvC.hold75.r5 w:=by kernel_rfl
theorem OvC.reck75_6(w:AD):OvC.hold75.l6 w=OvC.hold75.r6 w:=by kernel_rfl
theorem OvC.reck75_7(w:AD):OvC.hold75.l7 w=OvC.hold75.r7 w:=by kernel_rfl
theorem OvC.reck75_8(w:AD):OvC.hold75.l8 w=OvC.hold75.r8 w:=by kernel_rfl
theorem OvC.reck75_9(w:AD):OvC.hold75.l9 w=OvC.hold75.r9 w:=by kernel_rfl
theorem OvC.reck75_10(w:AD):OvC.hold75.l10 w=OvC.hold75.r10 w:=by kernel_rfl
theorem OvC.reck75_11(w:AD):OvC.hold75.l11 w=OvC.hold75.r11 w:=by kernel_rfl
end
-- CHANGE: your row's module here,as the last of these rows
namespace L2
open PySem PySem.Spec PyProof.Rows
abbrev Key:=Sum Ad An
noncomputable def Xv:Key->Ai->Al
 |.inl k,v=>Value.isInt k v
 |.inr x,v=>Value.isStrOf x v
noncomputable def eW(w:AD):Key->Ad
 |.inl k=>hashInt k
 |.inr x=>hashStr w x
theorem Jd:∀{k:Key}{v:Ai},Xv k v=Aa->(∃ i t,k=HL i/\v=ZT i t)\/(∃ x t,k=HM x/\v=ZU x t)
 |.inl i,v,h=>by
  obtain⟨t,e⟩:=Value.isInt_shape (k:=i) (v:=v) h;exact .inl ⟨i,t,rfl,e⟩
 |.inr x,v,h=>by
  obtain⟨t,e⟩:=Value.isStrOf_shape (x:=x) (v:=v) h;exact .inr ⟨x,t,rfl,e⟩
theorem ig(a b:Ad):decide ((HL a:Key)=HL b)=(a==b):=by
 by_cases e:a=b
 .subst e;simp
 .have h:¬ (HL a:Key)=HL b:=λq=>e (Sum.inl.inj q)
  rw[Cb h];exact(D6.mpr e).symm
theorem i8(a b:An):decide ((HM a:Key)=HM b)=decide (a=b):=by
 by_cases e:a=b
 .subst e;simp
 .have h:¬ (HM a:Key)=HM b:=λq=>e (Sum.inr.inj q)
  rw[Cb h,Cb e]
theorem ie(a:Ad)(b:An):decide ((HL a:Key)=HM b)=Ae:=Cb (λq=>nomatch q)
theorem i9(a:An)(b:Ad):decide ((HM a:Key)=HL b)=Ae:=Cb (λq=>nomatch q)
noncomputable def QZ(prog:AT)(w:AD):PySem.KeyKind prog w Key where
 is:=Xv
 hash:=eW w
 inj:=λv a b ha hb=>by
  rcases Jd ha with ⟨i,t,rfl,rfl⟩|⟨x,t,rfl,rfl⟩
  .rcases Jd hb with ⟨j,u,rfl,e⟩|⟨y,u,rfl,e⟩
   .injection e with e1 _;rw[e1]
   .exact nomatch e
  .rcases Jd hb with ⟨j,u,rfl,e⟩|⟨y,u,rfl,e⟩
   .exact nomatch e
   .injection e with e1 _;rw[e1]
 byValue:=λk v h=>by
  rcases Jd h with ⟨i,t,rfl,rfl⟩|⟨x,t,rfl,rfl⟩<;>rfl
 pyHash:=λhv h=>by
  rcases Jd hv with ⟨i,t,rfl,rfl⟩|⟨x,t,rfl,rfl⟩
  .exact wpAny_pyHash_int h
  .exact wpAny_pyHash_str h
 eqBool:=λhu hv h=>by
  rcases Jd hu with ⟨i,t,rfl,rfl⟩|⟨x,t,rfl,rfl⟩
  .rcases Jd hv with ⟨j,u,rfl,rfl⟩|⟨y,u,rfl,rfl⟩
   .rw[ig]at h;exact wpAny_eqBool_int h
   .rw[ie]at h;exact SeqAt.EqAt.int_str i t y u _ _ _ _ h
  .rcases Jd hv with ⟨j,u,rfl,rfl⟩|⟨y,u,rfl,rfl⟩
   .rw[i9]at h;exact SeqAt.EqAt.str_int x t j u _ _ _ _ h
   .rw[i8]at h;exact wpAny_eqBool_str h
 «strs»:=λk x t v h=>by
  rcases Jd h with ⟨i,u,rfl,e⟩|⟨y,u,rfl,e⟩
  .exact nomatch e
  .injection e with e1 _
   subst e1;cases v<;>rfl
end L2
namespace L2
open PySem PySem.Spec PyProof.Rows
variable{us:Ac Ai}{a b it dx:Ak}{P:AT}{h:AJ}{o:Dk}{g':A6 Fo}{t' i k n:Ag}{d':IW}{ch fp:Ac Ak}{x qual:An}{M:J6}{u:Ai}{Q:Jc->As->Prop}{e c tg:Ao}{s:As}{pos p:AX}{pI:Pn}{es:Ac Ao}{body:Ac Bp}{f:Ai->Ai->Hr Ai}{g:Ad->Ad->Ad}{op:DR}{mA:An->Aq Ai}{fd:Cv}{ps:Ac An}{scope:Cu}
inductive V where
 |non|bl (b:Al)|int (i:Ad)|str (x:An)|byt (b:A6 UInt8)|flt (b:UInt64)|ref (a:Ak)|ty (n:Dp)
 deriving DecidableEq
variable{xs vs:Ac V}{v:V}
def BP:V->Ai->Prop
 |.non,u=>u=DI
 |.bl b,u=>u=ZS b
 |.int i,u=>∃ t,u=ZT i t
 |.str x,u=>∃ t,u=ZU x t
 |.byt b,u=>∃ t,u=Value.bytes b t
 |.flt b,u=>∃ t,u=Value.float b t
 |.ref a,u=>u=Dx a
 |.ty n,u=>u=GP n
noncomputable abbrev Bk:Ac V->Ac Ai->Prop:=HS BP
theorem Bk.length(r:Bk xs us):xs.length=us.length:=ZF r
theorem Bk.get:∀{xs:Ac V}{us:Ac Ai}{i:Ag}{x:V},Bk xs us->xs[i]?=Ab x->∃ u,us[i]?=Ab u/\BP x u
 |_,_,_,_,.nil,e=>by simp at e
 |_,_,0,_,.cons r _,e=>by simp at e;subst e;exact⟨_,rfl,r⟩
 |_,_,i+1,x,.cons _ t,e=>by
  obtain⟨u,h1,h2⟩:=Bk.get (i:=i) (x:=x) t (by simpa using e)
  exact⟨u,by simpa using h1,h2⟩
theorem Bk.set{x:V}{u:Ai}(r:BP x u):∀{xs:Ac V}{us:Ac Ai}(i:Ag),Bk xs us->Bk (xs.set i x) (us.set i u)
 |_,_,_,.nil=>.nil
 |_,_,0,.cons _ t=>.cons r t
 |_,_,i+1,.cons q t=>.cons q (Bk.set r i t)
theorem Bk.append:∀{xs ys:Ac V}{us ws:Ac Ai},Bk xs us->Bk ys ws->Bk (xs++ys) (us++ws)
 |_,_,_,_,.nil,s=>s
 |_,_,_,_,.cons r t,s=>.cons r (Bk.append t s)
theorem Bk.take:∀{xs:Ac V}{us:Ac Ai}(n:Ag),Bk xs us->Bk (xs.take n) (us.take n)
 |_,_,0,_=>.nil
 |_,_,_+1,.nil=>.nil
 |_,_,n+1,.cons r t=>.cons r (Bk.take n t)
theorem Bk.drop:∀{xs:Ac V}{us:Ac Ai}(n:Ag),Bk xs us->Bk (xs.drop n) (us.drop n)
 |_,_,0,r=>r
 |_,_,_+1,.nil=>.nil
 |_,_,n+1,.cons _ t=>Bk.drop n t
def S0:Aq V->Aq Ai->Prop
 |some v,Ab u=>BP v u
 |none,Af=>G9
 |_,_=>Bu
def KV{κ:Type}:Ac (κ×V)->Ac (κ×Ai)->Prop:=HS fun(p:κ×V)(q:κ×Ai)=>p.1=q.1/\BP p.2 q.2
noncomputable def kV:Key->V
 |.inl i=>.int i
 |.inr x=>.str x
inductive HO where
 /-- a list -/
 |lst (xs:Ac V)
 /-- a tuple (never changes) -/
 |tup (xs:Ac V)
 /-- a dict whose keys are ints and texts;one whose keys are tuples of ints and texts (the empty one is both) -/
 |dK (kvs:Ac (Key×V))|dT (kvs:Ac (Ac Key×V))
 /-- a set of ints: its members,its size -/
 |set (S:Ad->Al) (n:Ag)
 /-- an instance of the class at C,its dict at dx,its attributes -/
 |ins (C dx:Ak) (fs:Ac (An×V))
 /-- the dict of the instance at x -/
 |own (x:Ak)
 /-- the dict of an exception -/
 |xd (fs:Ac (An×V))
 /-- a bound method,f of x -/
 |met (f x:Ak)
 /-- a range object lo,lo+1,.. below hi -/
 |rng (lo hi:Ad)
 /-- a thing that is known to the object (the script;a dict while a loop walks it): read,never written while it is so -/
 |frz (o:Dk) (u:HO)
 /-- a code object's table -/
 |tbl (ps:A6 Ai)
 /-- any other thing,by what is Aa of its one object (a def of one's own: SetO a S n:=HO.ext fun h=>..) -/
 |ext (φ:AJ->Prop)
abbrev Hp:=Ak->Aq HO
variable{H:Hp}
noncomputable def upd(H:Hp)(a:Ak)(o:HO):Hp:=λb=>if b=a then Ab o else H b
theorem Iw{o:HO}:upd H a o a=Ab o:=by unfold upd;rw[AF rfl]
theorem DF{o:HO}(h:b≠a):upd H a o b=H b:=by unfold upd;rw[AN h]
theorem Gw{o:HO}(h:H a=Ab o)(h':H b=Af):a≠b:=by
 intro e;subst e;rw[h]at h';cases h'
section
variable(P:AT)(w:AD)
def ObjOk(H:Hp)(h:AJ)(a:Ak):HO->Prop
  |.lst xs=>xs.length<=sizeLine/\∃(its:Ac Ai)(n:Ag),Bk xs its/\h.get? a=Ab { cls:=.type "list",data:=.seq its.toArray n }
  |.tup xs=>xs.length<=sizeLine/\∃ its:Ac Ai,Bk xs its/\J5 h a its.toArray
  |.dK kvs=>kvs.length<=sizeLine/\(a==Ez)=Ae/\∃ vs,KV kvs vs/\h.DictOf (QZ P w) a vs
  |.dT kvs=>kvs.length<=sizeLine/\(a==Ez)=Ae/\∃ xs:Ac (Ac Key×Ak×Ai),
      HS (fun(p:Ac Key×V)(q:Ac Key×Ak×Ai)=>p.1=q.1/\H q.2.1=Ab (.tup (p.1.map kV))/\BP p.2 q.2.2) kvs xs /\
      ∃ o es ep,h.get? a=Ab o/\o.ExactDict/\o.data=.dict es ep/\es.toList=xs.map (Ja (tupleKind (QZ P w)))/\(xs.map (·.1)).Nodup
  |.set S n=>h.SetOf (intKind P w) a S n
  |.ins C dx fs=>H dx=Ab (.own a)/\fs.length<=1000/\dx≠a/\h.get? a=Ab (Ei C dx) /\
      ∃ mA,h.Ns1 dx mA/\(∀ f,S0 (fs.lookup f) (mA f))/\PySem.Within mA (fs.map (·.1))
  |.own _=>∃ o,h.get? a=Ab o
  |.xd fs=>∃ mA,h.Ns1 a mA/\∀ f,S0 (fs.lookup f) (mA f)
  |.rng lo hi=>∃ t u v,h.get? a=Ab { cls:=.type "range",data:=.fields #[.int lo t,.int hi u,.int 1 v] }
  |.frz o u=>h.get? a=Ab o/\ObjOk H h a u
  |.tbl ps=>h.get? a=Ab {cls:=.none,data:=.fields ps}
  |.met f x=>h.get? a=Ab (HI (.ref f) (.ref x))
  |.ext φ=>φ h/\(∃ o,h.get? a=Ab o)/\∀ h1 h2:AJ,φ h1->(∀ o,h1.get? a=Ab o->h2.get? a=Ab o)->φ h2
def HOk(H:Hp)(h:AJ):Prop:=∀ a o,H a=Ab o->ObjOk P w H h a o
end
section
variable{P:AT}{w:AD}{H H':Hp}{h h':AJ}{a:Ak}{o:HO}
theorem ObjOk.lt(x:ObjOk P w H h a o):a<h.objs.size:=by
 cases o with
 |lst xs=>obtain⟨_,_,_,_,e⟩:=x;exact AE e
 |tup xs=>obtain⟨_,_,_,p⟩:=x;exact p.lt
 |dK kvs=>obtain⟨_,_,_,_,o,_,_,e,_⟩:=x;exact AE e
 |dT kvs=>obtain⟨_,_,_,_,o,_,_,e,_⟩:=x;exact AE e
 |set S n=>obtain⟨o,_,_,_,e,_⟩:=x;exact AE e
 |ins C dx fs=>obtain⟨_,_,_,e,_⟩:=x;exact AE e
 |own y=>obtain⟨_,e⟩:=x;exact AE e
 |xd fs=>obtain⟨_,⟨_,_,_,e,_⟩,_⟩:=x;exact AE e
 |rng lo hi=>obtain⟨_,_,_,e⟩:=x;exact AE e
 |frz ob u=>obtain⟨e,_⟩:=x;exact AE e
 |tbl ps=>exact AE (show h.get? a=Ab _ from x)
 |met f y=>exact AE (show h.get? a=Ab _ from x)
 |ext φ=>obtain⟨_,⟨_,e⟩,_⟩:=x;exact AE e
theorem HS.mapP{α β:Type}{F G:α->β->Prop}:∀{l₁:Ac α}{l₂:Ac β},HS F l₁ l₂->(∀ a b,F a b->G a b)->HS G l₁ l₂
 |_,_,.nil,_=>.nil
 |_,_,.cons r t,f=>.cons (f _ _ r) (HS.mapP t f)
theorem ObjOk.stay(x:ObjOk P w H h a o)(k:∀ b u,(b=a\/H b=Ab (.own a))->h.get? b=Ab u->h'.get? b=Ab u)(ho:∀ b,H b=Ab (.own a)->H' b=Ab (.own a))(ht:∀ b xs,H b=Ab (.tup xs)->H' b=Ab (.tup xs)):ObjOk P w H' h' a o:=by
 induction o with
 |lst xs=>obtain⟨z,its,n,r,e⟩:=x;exact⟨z,its,n,r,k _ _ (.inl rfl) e⟩
 |tup xs=>obtain⟨z,its,r,ob,e,c⟩:=x;exact⟨z,its,r,ob,k _ _ (.inl rfl) e,c⟩
 |dK kvs=>obtain⟨z,y,vs,r,ob,es,ep,e,c⟩:=x;exact⟨z,y,vs,r,ob,es,ep,k _ _ (.inl rfl) e,c⟩
 |dT kvs=>
  obtain⟨z,y,xs,r,ob,es,ep,e,c⟩:=x;exact⟨z,y,xs,HS.mapP r λp q z=>⟨z.1,ht _ _ z.2.1,z.2.2⟩,ob,es,ep,k _ _ (.inl rfl) e,c⟩
 |set S n=>obtain⟨ob,es,ep,t,e,c⟩:=x;exact⟨ob,es,ep,t,k _ _ (.inl rfl) e,c⟩
 |ins C dx fs=>
  obtain⟨d,z,ne,e,mA,⟨od,es,ep,e2,c⟩,r⟩:=x;exact⟨ho _ d,z,ne,k _ _ (.inl rfl) e,mA,⟨od,es,ep,k _ _ (.inr d) e2,c⟩,r⟩
 |own y=>obtain⟨ob,e⟩:=x;exact⟨ob,k _ _ (.inl rfl) e⟩
 |xd fs=>obtain⟨mA,⟨od,es,ep,e,c⟩,r⟩:=x;exact⟨mA,⟨od,es,ep,k _ _ (.inl rfl) e,c⟩,r⟩
 |rng lo hi=>obtain⟨t,u,v,e⟩:=x;exact⟨t,u,v,k _ _ (.inl rfl) e⟩
 |frz ob u ih=>obtain⟨e,q⟩:=x;exact⟨k _ _ (.inl rfl) e,ih q⟩
 |tbl ps=>
  have e:h.get? a=Ab {cls:=.none,data:=.fields ps}:=x;show h'.get? a=Ab {cls:=.none,data:=.fields ps};exact k a _ (.inl rfl) e
 |met f y=>
  have e:h.get? a=Ab (HI (.ref f) (.ref y)):=x;show h'.get? a=Ab (HI (.ref f) (.ref y));exact k a _ (.inl rfl) e
 |ext φ=>obtain⟨p,⟨o,e⟩,st⟩:=x;exact⟨st _ _ p λo q=>k _ _ (.inl rfl) q,⟨o,k _ _ (.inl rfl) e⟩,st⟩
theorem HOk.lt(x:HOk P w H h)(e:H a=Ab o):a<h.objs.size:=(x a o e).lt
theorem HOk.fresh(x:HOk P w H h)(e:h.objs.size<=a):H a=Af:=by
 cases q:H a with
 |none=>rfl
 |some u=>exact absurd (AI (x.lt q) e) (Bx _)
theorem HOk.kept(x:HOk P w H h)(k:∀ b u,h.get? b=Ab u->h'.get? b=Ab u):HOk P w H h':=λa o e=>
 (x a o e).stay (λb u _ q=>k b u q) (λ_ q=>q) λ_ _ q=>q
theorem HOk.laid(x:HOk P w H h)(k:∀ b u,h.get? b=Ab u->h'.get? b=Ab u)(hp:h.objs.size<=a)(new:ObjOk P w (upd H a o) h' a o):HOk P w (upd H a o) h':=λb u e=>by
 have hn:=x.fresh hp;by_cases hb:b=a
 .subst hb;rw[Iw]at e;cases e;exact new
 .rw[DF hb]at e;exact(x b u e).stay (λc v _ q=>k c v q) (λc q=>by rw[DF (Gw q hn)];exact q) λc xs q=>by rw[DF (Gw q hn)];exact q
end
def Rd(H:Hp)(a:Ak)(u:HO):Prop:=H a=Ab u\/∃ o,H a=Ab (.frz o u)
theorem Rd.ok{w:AD}{u:HO}(r:Rd H a u)(x:HOk P w H h):ObjOk P w H h a u:=by
 rcases r with r|⟨o,r⟩
 .exact x a u r
 .obtain⟨_,q⟩:=x a _ r;exact q
def Mut:Aq HO->Prop
 |some (.lst _)=>G9
 |some (.dK _)=>G9
 |some (.dT _)=>G9
 |some (.set _ _)=>G9
 |some (.ins _ _ _)=>G9
 |some (.ext _)=>G9
 |_=>Bu
section
variable{P:AT}{w:AD}{H:Hp}{h h':AJ}{x e:Ak}{o':HO}
theorem HOk.write(ok:HOk P w H h)(mu:Mut (H x))(he:e=x\/H e=Ab (.own x))(k:∀ b u,b≠e->h.get? b=Ab u->h'.get? b=Ab u)(heo:∃ u,h'.get? e=Ab u)(new:ObjOk P w (upd H x o') h' x o'):HOk P w (upd H x o') h':=λb u q=>by
 have nown:∀ c y,H c=Ab (.own y)->c≠x:=λc y r z=>by subst z;rw[r]at mu;exact mu
 have ntup:∀ c xs,H c=Ab (.tup xs)->c≠x:=λc xs r z=>by subst z;rw[r]at mu;exact mu
 by_cases hb:b=x
 .subst hb;rw[Iw]at q;cases q;exact new
 .rw[DF hb]at q;by_cases hbe:b=e
  .have q':H b=Ab (.own x):=by
    rcases he with z|z
    .exact absurd (hbe.trans z) hb
    .rw[hbe];exact z
   rw[q]at q';cases q';obtain⟨v,hv⟩:=heo;exact⟨v,by rw[hbe];exact hv⟩
  .refine(ok b u q).stay (λc v hc r=>k c v ?_ r) (λc r=>by rw[DF (nown c b r)];exact r) λc xs r=>by rw[DF (ntup c xs r)];exact r
   rcases hc with rfl|hc
   .exact hbe
   .rintro rfl;rcases he with z|z
    .exact nown c b hc z
    .rw[hc]at z;cases z;exact hb rfl
end
structure Un (fs ex:Ac Ak) (H H':Hp) (h h':AJ):Prop where
 keep:∀ b o,h.get? b=Ab o->H b=Af->b∉fs->b∉ex->h'.get? b=Ab o
 slot:∀ b o,h.get? b=Ab o->H b=Af->b∈fs->b∉ex->∃ sl,h'.get? b=Ab {o with slots:=sl}
 free:∀ b o,h.get? b=Ab o->H b=Af->b∉ex->H' b=Af
 there:∀ b o,h.get? b=Ab o->b∉ex->∃ o',h'.get? b=Ab o'
 tups:∀ b xs,H b=Ab (.tup xs)->H' b=Ab (.tup xs)
 frzs:∀ b o u,H b=Ab (.frz o u)->H' b=Ab (.frz o u)
 tbls:∀ b ps,H b=Ab (.tbl ps)->∃ more,H' b=Ab (.tbl (ps++more))
section
variable{fs fs' ex ex':Ac Ak}{H H1 H2:Hp}{h h1 h2 h':AJ}{a x e:Ak}{o:HO}
theorem Un.any(u:Un fs ex H H1 h h1){ob:Dk}(q:h.get? b=Ab ob)(n:H b=Af)(hx:b∉ex):∃ sl,h1.get? b=Ab {ob with slots:=sl}:=by
 by_cases hb:b∈fs
 .exact u.slot b ob q n hb hx
 .exact⟨ob.slots,u.keep b ob q n hb hx⟩
theorem Un.kept(k:∀ b u,h.get? b=Ab u->h'.get? b=Ab u):Un fs ex H H h h':=
 ⟨λb ob q _ _ _=>k b ob q,λb ob q _ _ _=>⟨ob.slots,k b ob q⟩,λ_ _ _ n _=>n,λb ob q _=>⟨ob,k b ob q⟩,λ_ _ q=>q,λ_ _ _ q=>q,λ_ ps q=>⟨#[],by rw[q];simp⟩⟩
theorem Un.refl:Un fs ex H H h h:=Un.kept λ_ _ q=>q
theorem Un.laid(k:∀ b u,h.get? b=Ab u->h'.get? b=Ab u)(hp:h.objs.size<=a)(hn:H a=Af):Un fs ex H (upd H a o) h h' where
 keep:=λb u q _ _ _=>k b u q
 slot:=λb u q _ _ _=>⟨u.slots,k b u q⟩
 free:=λb u q n _=>by rw[DF (Bb (AI (AE q) hp))];exact n
 there:=λb u q _=>⟨u,k b u q⟩
 tups:=λb xs q=>by rw[DF (Gw q hn)];exact q
 frzs:=λb u xs q=>by rw[DF (Gw q hn)];exact q
 tbls:=λb ps q=>⟨#[],by rw[DF (Gw q hn),q];simp⟩
theorem Un.write(mu:Mut (H x))(he:e=x\/H e=Ab (.own x))(k:∀ b u,b≠e->h.get? b=Ab u->h'.get? b=Ab u)(heo:∃ u,h'.get? e=Ab u):Un fs ex H (upd H x o) h h':=by
 have hx:∀ b,H b=Af->b≠x:=λb n z=>by subst z;rw[n]at mu;exact mu
 have hb:∀ b,H b=Af->b≠e:=λb n z=>by
  subst z;rcases he with r|r
  .exact hx b n r
  .rw[n]at r;cases r
 have hm:∀ b u,H b=Ab u->¬ Mut (Ab u)->b≠x:=λb u q nm z=>by subst z;rw[q]at mu;exact nm mu
 refine⟨λb u q n _ _=>k b u (hb b n) q,λb u q n _ _=>⟨u.slots,k b u (hb b n) q⟩,λb u q n _=>by rw[DF (hx b n)];exact n,λb u q _=>?_,
  λb xs q=>by rw[DF (hm b _ q λz=>z)];exact q,λb u xs q=>by rw[DF (hm b _ q λz=>z)];exact q,λb ps q=>⟨#[],by rw[DF (hm b _ q λz=>z),q];simp⟩⟩
 by_cases hbe:b=e
 .subst hbe;exact heo
 .exact⟨u,k b u hbe q⟩
end
noncomputable def trk(h:AJ)(H:Hp):Ac Ak:=(AZ h.objs.size).filter λa=>(H a).isSome
noncomputable def Jq(h:AJ)(H:Hp):AJ:=PySem.W.hideAll h (trk h H)
theorem jF(h:AJ)(H:Hp):(Jq h H).objs.size=h.objs.size:=PySem.W.hideAll_size _ _
theorem kS(e:h.get? b=Ab o)(n:H b=Af):(Jq h H).get? b=Ab o:=
 PySem.W.hideAll_get _ e λhm=>by
  have q:(H b).isSome=Aa:=(CC.mp hm).2;rw[n]at q;simp at q
theorem sH(e:(Jq h H).get? b=Ab o):h.get? b=Ab o/\H b=Af:=by
 have e':h.get? b=Ab o:=PySem.W.of_hideAll (trk h H) e;refine⟨e',?_⟩;cases q:H b with
 |none=>rfl
 |some x=>
  have hm:b∈trk h H:=CC.mpr ⟨A5.mpr (AE e'),by simp[q]⟩
  have z:(Jq h H).get? b=Af:=PySem.W.hideAll_none (trk h H) hm;rw[z]at e;cases e
noncomputable def wG(g h:AJ)(L:Ak):Pn:=(AZ h.objs.size).filterMap λa=>if a=L\/(g.get? a).isSome=Aa then Af else (h.get? a).map λo=>(a,o)
noncomputable def rest(g h:AJ)(L d:Ak):Pn:=(wG g h L).filter λp=>decide (p.1≠d)
structure Mod (K:Fg) (mg:An->Aq Ai) (base:AJ):Prop where
 kin:K.In base
 glob:base.Ns Bh mg
 blt:∃ mb,base.Ns IZ mb/\∀ x:An,x≠"__name__"->mb x=DE x
 nolimit:base.NoLimit
structure Cx where
 prog:AT
 w:AD
 K:Fg
 mg:An->Aq Ai
 base:AJ
 A:Bc
 N:Ac An
 s₀:As
 H₀:Hp
 env:C9
 outer:Ac C9
 stack:Ac C9
 ex:Ac Ak
 fn:An->Al
 calm:Al
 pn:Pn
 xe:Ai->As->Prop
variable{X:Cx}
noncomputable def frs(l:Ac C9):Ac Ak:=l.filterMap (·.frame)
noncomputable abbrev Cx.fs(X:Cx):Ac Ak:=frs X.outer
def Vis(sc:Cu)(x:An):Prop:=sc.names.lookup x=Ab .local\/sc.names.lookup x=Ab .cell\/sc.names.lookup x=Ab .free
def Loc(sc:Cu)(x:An):Prop:=sc.names.lookup x=Ab .local\/sc.names.lookup x=Ab .cell
noncomputable def eS(env:C9)(h:AJ)(m:An->Aq Ai)(x:An)(u:Ai):Prop:=
 (env.kindOf x=Ab .local/\m x=Ab u)\/((env.kindOf x=Ab .cell\/env.kindOf x=Ab .free)/\∃ c,env.cells.lookup x=Ab c/\h.IsCell c (Ab u))
structure Cx.Ok (X:Cx):Prop where
 mod:Mod X.K X.mg X.base
 kind:X.env.scope.kind=.function
 glob:X.env.globals=Bh
 blt:X.env.builtins=IZ
 above:X.s₀.heap.objs.size<=X.env.locals
 inj:∀ x y c,X.env.cells.lookup x=Ab c->X.env.cells.lookup y=Ab c->x=y
 has:∀ x,(X.env.kindOf x=Ab .cell\/X.env.kindOf x=Ab .free)->∃ c,X.env.cells.lookup x=Ab c
 cab:∀ x c,X.fn x=Aa->X.env.cells.lookup x=Ab c->X.s₀.heap.objs.size<=c
 hd:X.calm=Aa->X.A.handled=Af
 frames:X.A.frames=Ab X.stack
 stk:X.stack=X.outer\/(X.stack=X.env::X.outer/\X.env.frame=Ab X.env.locals)
 exf:∀ b∈X.ex,b≠X.env.locals/\∀ x c,X.env.cells.lookup x=Ab c->c≠b
 bs:∀ b o,X.base.get? b=Ab o->X.s₀.heap.get? b=Ab o/\X.H₀ b=Af
 bsz:X.base.objs.size<=X.s₀.heap.objs.size
 noex:∀ b o,X.base.get? b=Ab o->b∉X.ex
 exfs:∀ b∈X.ex,b∉X.fs
 funs:X.s₀.heap.FunFrames X.base X.outer
 frf:∀ b∈X.fs,X.H₀ b=Af
structure Inv (X:Cx) (pI:Pn) (U:Ac (Aq V)) (H:Hp) (s:As):Prop where
 ok:X.Ok
 os:s.os=X.s₀.os
 bare:FZ s.gens
 base:Un X.fs X.ex X.H₀ H X.s₀.heap s.heap
 loc:∃ m,s.heap.Ns X.env.locals m/\∀(i:Ag)(x:An)(v:V),X.N[i]?=Ab x->U[i]?=Ab (Ab v)->Vis X.env.scope x->∃ u,BP v u/\eS X.env s.heap m x u
 cell:∀ x c,X.env.cells.lookup x=Ab c->∃ v,s.heap.IsCell c v
 free:H X.env.locals=Af
 freeC:∀ x c,X.env.cells.lookup x=Ab c->H c=Af
 pin:∀ p∈X.pn++pI,s.heap.get? p.1=Ab p.2/\H p.1=Af/\p.1≠X.env.locals/\p.1∉X.fs/\∀ v,p.2.data≠.cell v
 hok:HOk X.prog X.w H s.heap
 len:U.length=X.N.length
section
variable{X:Cx}{pI:Pn}{U:Ac (Aq V)}{H H':Hp}{s:As}{h':AJ}
theorem Cx.Ok.nofr(ok:X.Ok)(e:X.base.get? b=Ab o):b∉X.fs:=λhb=>by
 have:=(ok.funs.mem hb).1;rw[e]at this;cases this
theorem Inv.bs(I:Inv X pI U H s):∀ b o,X.base.get? b=Ab o->s.heap.get? b=Ab o/\H b=Af:=λb o e=>
 ⟨I.base.keep b o (I.ok.bs b o e).1 (I.ok.bs b o e).2 (I.ok.nofr e) (I.ok.noex b o e),I.base.free b o (I.ok.bs b o e).1 (I.ok.bs b o e).2 (I.ok.noex b o e)⟩
theorem Inv.bk(I:Inv X pI U H s):∀ b o,X.base.get? b=Ab o->s.heap.get? b=Ab o:=λb o e=>(I.bs b o e).1
theorem Inv.mod(I:Inv X pI U H s):Mod X.K X.mg X.base:=I.ok.mod
theorem Inv.kIn(I:Inv X pI U H s):X.K.In s.heap:=I.ok.mod.kin.keeps I.bk
theorem Inv.lt(I:Inv X pI U H s):X.env.locals<s.heap.objs.size:=let ⟨_,hn,_⟩:=I.loc;hn.lt
theorem Inv.sz(I:Inv X pI U H s):X.s₀.heap.objs.size<=s.heap.objs.size:=Cn I.ok.above (E8 I.lt)
theorem Inv.nofs(I:Inv X pI U H s)(h:s.heap.objs.size<=a):a∉X.fs:=λhb=>by
 obtain⟨_,o,ho,_⟩:=I.ok.funs.mem hb;exact absurd (AI (AE ho) (Cn I.sz h)) (Bx _)
theorem Inv.cne(I:Inv X pI U H s):∀ x c,X.env.cells.lookup x=Ab c->c≠X.env.locals:=λx c e z=>by
 obtain⟨v,o,ho,hd⟩:=I.cell x c e;obtain⟨m,⟨o',es,ep,ho',hd',_⟩,_⟩:=I.loc;rw[z,ho']at ho;cases ho;rw[hd']at hd;cases hd
theorem Inv.funs(I:Inv X pI U H s):s.heap.FunFrames X.base X.outer:=by
 have all:∀(l:Ac C9),(∀ b∈frs l,b∈X.fs)->X.s₀.heap.FunFrames X.base l->s.heap.FunFrames X.base l:=by
  intro l
  induction l with
  |nil=>intro _ _;trivial
  |cons env r ih=>
   intro hs hl;obtain⟨hk,⟨L,o,hf,hn,ho,hd⟩,hr⟩:=hl;have hL:L∈X.fs:=hs L (by unfold frs;rw[G4,hf];exact Aw)
   obtain⟨sl,e⟩:=I.base.slot L o ho (I.ok.frf L hL) hL λz=>I.ok.exfs L z hL
   exact⟨hk,⟨L,_,hf,hn,e,hd⟩,ih (λb hb=>hs b (by unfold frs;rw[G4,hf];exact Av _ hb)) hr⟩
 exact all X.outer (λ_ hb=>hb) I.ok.funs
theorem Inv.stack(I:Inv X pI U H s):s.heap.FunFrames X.base X.stack:=by
 rcases I.ok.stk with e|⟨e,hf⟩
 .rw[e];exact I.funs
 .rw[e];obtain⟨m,hn,_⟩:=I.loc;refine .cons (by rw[I.ok.kind];decide) hf hn ?_ I.funs
  exact GM (Cn I.ok.bsz I.ok.above)
theorem Inv.stkSub(I:Inv X pI U H s):∀ b∈frs X.stack,b∈X.env.locals::X.fs:=λb hb=>by
 rcases I.ok.stk with e|⟨e,hf⟩
 .rw[e]at hb;exact Av _ hb
 .rw[e]at hb;unfold frs at hb;rw[G4,hf]at hb;exact hb
theorem Inv.stkFree(I:Inv X pI U H s):∀ b∈frs X.stack,H b=Af:=λb hb=>by
 rcases Au.mp (I.stkSub b hb) with e|hb
 .rw[e];exact I.free
 .obtain⟨_,o,ho,_⟩:=I.ok.funs.mem hb;exact I.base.free b o ho (I.ok.frf b hb) λz=>I.ok.exfs b z hb
theorem Inv.step(I:Inv X pI U H s)(hch:∀ b∈ch,(b∈X.ex\/X.s₀.heap.objs.size<=b)/\b≠X.env.locals/\(∀ x c,X.env.cells.lookup x=Ab c->c≠b)/\∀ p∈X.pn++pI,p.1≠b)(keep:∀ b o,b≠X.env.locals->b∉X.fs->b∉ch->s.heap.get? b=Ab o->H b=Af->h'.get? b=Ab o)(slot:∀ b o,b≠X.env.locals->b∈X.fs->b∉ch->s.heap.get? b=Ab o->H b=Af->∃ sl,h'.get? b=Ab {o with slots:=sl})(free:∀ b o,b∉ch->s.heap.get? b=Ab o->H b=Af->H' b=Af)(there:∀ b o,b∉ch->s.heap.get? b=Ab o->∃ o',h'.get? b=Ab o')(tups:∀ b xs,H b=Ab (.tup xs)->H' b=Ab (.tup xs))(frzs:∀ b o u,H b=Ab (.frz o u)->H' b=Ab (.frz o u))(tbls:∀ b ps,H b=Ab (.tbl ps)->∃ more,H' b=Ab (.tbl (ps++more)))(ns:∀ m,s.heap.Ns X.env.locals m->h'.Ns X.env.locals m)(hok:HOk X.prog X.w H' h')(hg:FZ g'):Inv X pI U H' {s with heap:=h',gens:=g',drawn:=d',toks:=t'}:=by
 have neL:∀ b o,X.s₀.heap.get? b=Ab o->b≠X.env.locals:=λb o e=>Bb (AI (AE e) I.ok.above)
 have neC:∀ b o,X.s₀.heap.get? b=Ab o->b∉X.ex->b∉ch:=λb o e hx hb=>by
  rcases (hch b hb).1 with z|z
  .exact hx z
  .exact absurd (AI (AE e) z) (Bx _)
 have cellK:∀ x c,X.env.cells.lookup x=Ab c->∀ v,s.heap.IsCell c v->h'.IsCell c v:=λx c e v ⟨o,ho,hd⟩=>by
  have nch:c∉ch:=λz=>(hch c z).2.2.1 x c e rfl
  by_cases hc:c∈X.fs
  .obtain⟨sl,q⟩:=slot c o (I.cne x c e) hc nch ho (I.freeC x c e);exact⟨_,q,hd⟩
  .exact⟨o,keep c o (I.cne x c e) hc nch ho (I.freeC x c e),hd⟩
 refine⟨I.ok,I.os,hg,⟨λb o e n hb hx=>?_,λb o e n hb hx=>?_,λb o e n hx=>?_,λb o e hx=>?_,λb xs e=>tups b xs (I.base.tups b xs e),λb o xs e=>frzs b o xs (I.base.frzs b o xs e),λb ps e=>?_⟩,?_,λx c e=>?_,?_,λx c e=>?_,λp hp=>?_,hok,I.len⟩
 .exact keep b o (neL b o e) hb (neC b o e hx) (I.base.keep b o e n hb hx) (I.base.free b o e n hx)
 .obtain⟨sl,e1⟩:=I.base.slot b o e n hb hx;obtain⟨sl',e2⟩:=slot b _ (neL b o e) hb (neC b o e hx) e1 (I.base.free b o e n hx);exact⟨sl',e2⟩
 .obtain⟨o',e1⟩:=I.base.there b o e hx;exact free b o' (neC b o e hx) e1 (I.base.free b o e n hx)
 .obtain⟨o',e1⟩:=I.base.there b o e hx;exact there b o' (neC b o e hx) e1
 .obtain⟨m1,e1⟩:=I.base.tbls b ps e;obtain⟨m2,e2⟩:=tbls b _ e1;exact⟨m1++m2,by rw[e2,Array.append_assoc]⟩
 .obtain⟨m,hn,hl⟩:=I.loc;refine⟨m,ns m hn,λi x v e1 e2 e3=>?_⟩
  obtain⟨u,r,l⟩:=hl i x v e1 e2 e3;refine⟨u,r,?_⟩;rcases l with l|⟨k,c,e,z⟩
  .exact .inl l
  .exact .inr ⟨k,c,e,cellK x c e _ z⟩
 .obtain⟨v,z⟩:=I.cell x c e;exact⟨v,cellK x c e v z⟩
 .obtain⟨m,⟨o,_,_,ho,_⟩,_⟩:=I.loc;exact free _ o (λz=>(hch _ z).2.1 rfl) ho I.free
 .obtain⟨v,o,ho,hd⟩:=I.cell x c e;exact free c o (λz=>(hch c z).2.2.1 x c e rfl) ho (I.freeC x c e)
 .obtain⟨e,n,ne,nf,d⟩:=I.pin p hp;have nch:p.1∉ch:=λz=>(hch p.1 z).2.2.2 p hp rfl
  exact⟨keep p.1 p.2 ne nf nch e n,free p.1 p.2 nch e n,ne,nf,d⟩
theorem Inv.un(I:Inv X pI U H s)(u:Un X.fs [] H H' s.heap h')(hok:HOk X.prog X.w H' h'):Inv X pI U H' {s with heap:=h',toks:=t'}:=by
 obtain⟨m,⟨o,es,ep,ho,r⟩,_⟩:=id I.loc;obtain⟨sl,hL⟩:=u.any ho I.free (by simp)
 exact I.step (g':=s.gens) (d':=s.drawn) (ch:=[]) (λ_ z=>nomatch z) (λb o _ hb _ e n=>u.keep b o e n hb (by simp)) (λb o _ hb _ e n=>u.slot b o e n hb (by simp)) (λb o _ e n=>u.free b o e n (by simp)) (λb o _ e=>u.there b o e (by simp)) u.tups u.frzs u.tbls (λm' hm=>by
  obtain⟨o',es',ep',ho',r'⟩:=hm;rw[ho]at ho';cases ho';exact⟨_,es',ep',hL,r'⟩) hok I.bare
theorem Inv.call(I:Inv X pI U H s)(u:Un (frs X.stack) ch H H' s.heap h')(hok:HOk X.prog X.w H' h')(hg:FZ g')(hch:∀ b∈ch,(b∈X.ex\/X.s₀.heap.objs.size<=b)/\b≠X.env.locals/\(∀ x c,X.env.cells.lookup x=Ab c->c≠b)/\∀ p∈X.pn++pI,p.1≠b):Inv X pI U H' {s with heap:=h',gens:=g',drawn:=d',toks:=t'}:=by
 obtain⟨m,⟨o,es,ep,ho,r⟩,_⟩:=id I.loc;obtain⟨sl,hL⟩:=u.any ho I.free λz=>(hch _ z).2.1 rfl
 exact I.step (ch:=ch) hch (λb o hL hb hc e n=>u.keep b o e n (λz=>(Au.mp (I.stkSub b z)).elim hL hb) hc) (λb o _ _ hc e n=>u.any e n hc) (λb o hc e n=>u.free b o e n hc) (λb o hc e=>u.there b o e hc) u.tups u.frzs u.tbls (λm' hm=>by
  obtain⟨o',es',ep',ho',r'⟩:=hm;rw[ho]at ho';cases ho';exact⟨_,es',ep',hL,r'⟩) hok hg
theorem Inv.turned(I:Inv X pI U H s)(k:∀ b o,b≠it->s.heap.get? b=Ab o->h'.get? b=Ab o)(hn:H it=Af)(hL:it≠X.env.locals)(h1:it∈X.ex\/X.s₀.heap.objs.size<=it)(h2:∀ x c,X.env.cells.lookup x=Ab c->c≠it)(h3:∀ p∈X.pn++pI,p.1≠it):Inv X pI U H {s with heap:=h',toks:=t'}:=by
 have nit:∀ b u,H b=Ab u->b≠it:=λb u e z=>by rw[z,hn]at e;cases e
 refine I.step (g':=s.gens) (d':=s.drawn) (ch:=[it]) (λb hb=>?_) (λb o _ _ hc e _=>k b o (λz=>hc (by simp[z])) e) (λb o _ _ hc e _=>⟨o.slots,k b o (λz=>hc (by simp[z])) e⟩) (λ_ _ _ _ n=>n)
  (λb o hc e=>⟨o,k b o (λz=>hc (by simp[z])) e⟩) (λ_ _ e=>e) (λ_ _ _ e=>e) (λb ps e=>⟨#[],by rw[e];simp⟩) (λm hm=>?_) (λb u e=>?_) I.bare
 .have e:b=it:=by simpa using hb
  subst e;exact⟨h1,hL,h2,h3⟩
 .obtain⟨o,es,ep,ho,r⟩:=hm;exact⟨o,es,ep,k _ o (CK hL) ho,r⟩
 .refine(I.hok b u e).stay (λc v hc q=>k c v ?_ q) (λ_ q=>q) λ_ _ q=>q
  rcases hc with z|z
  .rw[z];exact nit b u e
  .exact nit c _ z
theorem Inv.tok(I:Inv X pI U H s)(t:Ag):Inv X pI U H {s with toks:=t}:=I.un (h':=s.heap) (t':=t) Un.refl I.hok
theorem Inv.kept{t':Ag}(I:Inv X pI U H s)(k:∀ b u,s.heap.get? b=Ab u->h'.get? b=Ab u):Inv X pI U H {s with heap:=h',toks:=t'}:=I.un (Un.kept k) (I.hok.kept k)
theorem Inv.laid{a:Ak}{o:HO}{t':Ag}(I:Inv X pI U H s)(k:∀ b u,s.heap.get? b=Ab u->h'.get? b=Ab u)(hp:s.heap.objs.size<=a)(new:ObjOk X.prog X.w (upd H a o) h' a o):Inv X pI U (upd H a o) {s with heap:=h',toks:=t'}:=I.un (Un.laid k hp (I.hok.fresh hp)) (I.hok.laid k hp new)
theorem Inv.write{x e:Ak}{o:HO}{t':Ag}(I:Inv X pI U H s)(mu:Mut (H x))(he:e=x\/H e=Ab (.own x))(k:∀ b u,b≠e->s.heap.get? b=Ab u->h'.get? b=Ab u)(heo:∃ u,h'.get? e=Ab u)(new:ObjOk X.prog X.w (upd H x o) h' x o):Inv X pI U (upd H x o) {s with heap:=h',toks:=t'}:=I.un (Un.write mu he k heo) (I.hok.write mu he k heo new)
theorem Inv.pins_of{pins':Pn}(I:Inv X pI U H s)(h:∀ p∈pins',s.heap.get? p.1=Ab p.2/\H p.1=Af/\p.1≠X.env.locals/\p.1∉X.fs/\∀ v,p.2.data≠.cell v):Inv X pins' U H s:=
 ⟨I.ok,I.os,I.bare,I.base,I.loc,I.cell,I.free,I.freeC,λp hp=>(Dv.mp hp).elim (λz=>I.pin p (Fl _ z)) (h p),I.hok,I.len⟩
theorem U_2{N:Ac An}(hN:N.Nodup){j:Ag}(a:N[i]?=Ab x)(b:N[j]?=Ab x):i=j:=by
 obtain⟨h1,e1⟩:=Bf.mp a;obtain⟨h2,e2⟩:=Bf.mp b;exact(Yo hN).mp (e1.trans e2.symm)
theorem TJ{A:Bc}{E:Vq}(I:Inv X pI U H s)(hN:X.N.Nodup)(hi:X.N[i]?=Ab x)(hx:Loc X.env.scope x)(r:BP v u)(h:∀ s',Inv X pI (U.set i (Ab v)) H s'->(∃ a,EE a s.heap s'.heap/\(a=X.env.locals\/X.env.cells.lookup x=Ab a))->Q () s')(hf:X.fn x=Aa\/X.env.scope.names.lookup x=Ab .local:=by first|exact .inl rfl|exact .inr rfl|assumption):Az M A (storeName X.env x u) Q E s:=by
 obtain⟨m,hn,hl⟩:=id I.loc;have hcls:(X.env.scope.kind==.class||(X.env.scope.kind==.module&&X.env.locals != X.env.globals))=Ae:=by rw[I.ok.kind];rfl
 have hiσ:i<U.length:=by rw[I.len];exact(Bf.mp hi).1
 have cne:=I.cne;have tracked:∀{a:Ak}{h':AJ},(∃ o,s.heap.get? a=Ab o/\H a=Af)->EE a s.heap h'->HOk X.prog X.w H h':=λ{a h'} ha hs b ob e=>by
  obtain⟨_,_,hfree⟩:=ha;refine(I.hok b ob e).stay (λc w' hc q=>(hs.2 c ?_).trans q) (λ_ q=>q) λ_ _ q=>q
  rintro rfl;rcases hc with rfl|hc
  .rw[hfree]at e;cases e
  .rw[hfree]at hc;cases hc
 rcases hx with hk|hk
 .refine wpAny_storeName_local hk hn (λh' hn' hs=>?_) hcls
  obtain⟨oL,_,_,hoL,_⟩:=id hn;refine h _ ⟨I.ok,I.os,I.bare,⟨λb o e n hb hx=>?_,λb o e n hb hx=>?_,I.base.free,λb o e hx=>?_,I.base.tups,I.base.frzs,I.base.tbls⟩,⟨_,hn',λj y v' e1 e2 e3=>?_⟩,λy c e=>?_,I.free,I.freeC,λp hp=>?_,tracked ⟨oL,hoL,I.free⟩ hs,by simpa using I.len⟩ ⟨_,hs,.inl rfl⟩
  .exact(hs.2 b (Bb (AI (AE e) I.ok.above))).trans (I.base.keep b o e n hb hx)
  .obtain⟨sl,e1⟩:=I.base.slot b o e n hb hx;exact⟨sl,(hs.2 b (Bb (AI (AE e) I.ok.above))).trans e1⟩
  .obtain⟨o',e1⟩:=I.base.there b o e hx;exact⟨o',(hs.2 b (Bb (AI (AE e) I.ok.above))).trans e1⟩
  .by_cases hj:j=i
   .subst hj;rw[hi]at e1;cases e1;rw[DB hiσ]at e2;cases e2;exact⟨u,r,.inl ⟨hk,by simp⟩⟩
   .rw[GF (CK hj)]at e2;obtain⟨u',r',q⟩:=hl j y v' e1 e2 e3;refine⟨u',r',?_⟩;rcases q with ⟨k,e⟩|⟨k,c,e,z⟩
    .refine .inl ⟨k,?_⟩;have:y≠x:=λe=>hj (U_2 hN e1 (e ▸ hi))
     simp[this,e]
    .exact .inr ⟨k,c,e,z.sameBut hs (cne y c e)⟩
  .obtain⟨w',z⟩:=I.cell y c e;exact⟨w',z.sameBut hs (cne y c e)⟩
  .obtain⟨e,n,ne,nf,d⟩:=I.pin p hp;exact⟨(hs.2 p.1 ne).trans e,n,ne,nf,d⟩
 .have hfn:X.fn x=Aa:=by
   rcases hf with z|z
   .exact z
   .rw[z]at hk;cases hk
  obtain⟨c,hc⟩:=I.ok.has x (.inl hk);obtain⟨w',z⟩:=I.cell x c hc;refine wpAny_storeName_cell I.ok.kind hk hc z (λh' hc' hs=>?_)
  obtain⟨oc,hoc,hocd⟩:=id z;refine h {s with heap:=h'} ⟨I.ok,I.os,I.bare,⟨λb o e n hb hx=>?_,λb o e n hb hx=>?_,I.base.free,λb o e hx=>?_,I.base.tups,I.base.frzs,I.base.tbls⟩,⟨m,hn.sameBut hs (CK (cne x c hc)),λj y v' e1 e2 e3=>?_⟩,λy c' e=>?_,I.free,I.freeC,λp hp=>?_,tracked ⟨oc,hoc,I.freeC x c hc⟩ hs,by simpa using I.len⟩ ⟨c,hs,.inr hc⟩
  .exact(hs.2 b (Bb (AI (AE e) (I.ok.cab x c hfn hc)))).trans (I.base.keep b o e n hb hx)
  .obtain⟨sl,e1⟩:=I.base.slot b o e n hb hx;exact⟨sl,(hs.2 b (Bb (AI (AE e) (I.ok.cab x c hfn hc)))).trans e1⟩
  .obtain⟨o',e1⟩:=I.base.there b o e hx;exact⟨o',(hs.2 b (Bb (AI (AE e) (I.ok.cab x c hfn hc)))).trans e1⟩
  .by_cases hj:j=i
   .subst hj;rw[hi]at e1;cases e1;rw[DB hiσ]at e2;cases e2;exact⟨u,r,.inr ⟨.inl hk,c,hc,hc'⟩⟩
   .rw[GF (CK hj)]at e2;obtain⟨u',r',q⟩:=hl j y v' e1 e2 e3;refine⟨u',r',?_⟩;rcases q with q|⟨k,c',e,z'⟩
    .exact .inl q
    .refine .inr ⟨k,c',e,z'.sameBut hs ?_⟩;rintro rfl;exact hj (U_2 hN e1 (I.ok.inj _ _ _ e hc ▸ hi))
  .by_cases hcc:c'=c
   .subst hcc;exact⟨_,hc'⟩
   .obtain⟨w2,z2⟩:=I.cell y c' e;exact⟨w2,z2.sameBut hs hcc⟩
  .obtain⟨e,n,ne,nf,d⟩:=I.pin p hp;refine⟨(hs.2 p.1 ?_).trans e,n,ne,nf,d⟩;intro q;rw[q,hoc]at e;have q':oc=p.2:=BN e;exact d w' (by rw[<-q'];exact hocd)
theorem Uo{A:Bc}{E:Vq}(I:Inv X pI U H s)(hN:X.N.Nodup)(hi:X.N[i]?=Ab x)(hx:Loc X.env.scope x)(r:BP v u)(h:∀ s',Inv X pI (U.set i (Ab v)) H s'->Q () s')(hf:X.fn x=Aa\/X.env.scope.names.lookup x=Ab .local:=by first|exact .inl rfl|exact .inr rfl|assumption):Az M A (storeName X.env x u) Q E s:=
 TJ I hN hi hx r (λs' I' _=>h s' I') hf
theorem Inv.call'{s':As}(I:Inv X pI U H s)(ho:s'.os=s.os)(u:Un (frs X.stack) ch H H' s.heap s'.heap)(hok:HOk X.prog X.w H' s'.heap)(hg:FZ s'.gens)(hch:∀ b∈ch,(b∈X.ex\/X.s₀.heap.objs.size<=b)/\b≠X.env.locals/\(∀ x c,X.env.cells.lookup x=Ab c->c≠b)/\∀ p∈X.pn++pI,p.1≠b):Inv X pI U H' s':=by
 obtain⟨h',g',d',t',o'⟩:=s';have e:o'=s.os:=ho;subst e;exact I.call (g':=g') (t':=t') (d':=d') u hok hg hch
end
abbrev XK:=Ai->Aq Ak->Hp->Prop
abbrev St:=Ac (Aq V)
variable{U:St}
abbrev VK:=V->Hp->Prop
abbrev TE:=St->Hp->VK->Prop
variable{te:TE}
abbrev TT:=St->Hp->(Al->Hp->Prop)->Prop
variable{tc:TT}
abbrev TA:=St->Hp->(Ac V->Hp->Prop)->Prop
variable{ta:TA}
structure Ends where
 nx:St->Hp->Prop
 rt:VK
 bk:St->Hp->Prop:=λ_ _=>Bu
 ct:St->Hp->Prop:=λ_ _=>Bu
abbrev TS:=Ends->St->Hp->Prop
variable{tb:TS}
def EP(X:Cx)(pI:Pn)(U:St)(Q:VK)(u:Ai)(s':As):Prop:=∃ v H',Inv X pI U H' s'/\BP v u/\Q v H'
def TP(X:Cx)(pI:Pn)(U:St)(Q:Al->Hp->Prop)(b:Al)(s':As):Prop:=∃ H',Inv X pI U H' s'/\Q b H'
def AP(X:Cx)(pI:Pn)(U:St)(Q:Ac V->Hp->Prop)(us:Ac Ai)(s':As):Prop:=∃ vs H',Inv X pI U H' s'/\Bk vs us/\Q vs H'
noncomputable def SP(X:Cx)(pI:Pn)(D:Ends)(f:Flow)(s':As):Prop:=
  match f with
  |.next=>∃ U' H',Inv X pI U' H' s'/\D.nx U' H'
  |.brk=>∃ U' H',Inv X pI U' H' s'/\D.bk U' H'
  |.cont=>∃ U' H',Inv X pI U' H' s'/\D.ct U' H'
  |.ret u=>∃ v U' H',Inv X pI U' H' s'/\BP v u/\D.rt v H'
noncomputable def PE(X:Cx)(e:Ao)(t:TE):Prop:=
 ∀(pI:Pn)(s:As)(U:St)(H:Hp)(Q:VK),Inv X pI U H s->t U H Q->Az (model X.prog X.w) X.A (eval e X.env) (EP X pI U Q) X.xe s
noncomputable def PT(X:Cx)(e:Ao)(t:TT):Prop:=
 ∀(pI:Pn)(s:As)(U:St)(H:Hp)(Q:Al->Hp->Prop),Inv X pI U H s->t U H Q->Az (model X.prog X.w) X.A (IP e X.env (eval e X.env)) (TP X pI U Q) X.xe s
noncomputable def PW(X:Cx)(e:Ao)(t:TT):Prop:=
 ∀(whole:Hr Ai)(pI:Pn)(s:As)(U:St)(H:Hp)(Q:Al->Hp->Prop),Inv X pI U H s->t U H Q->Az (model X.prog X.w) X.A (IP e X.env whole) (TP X pI U Q) X.xe s
theorem PW.pt{t:TT}(h:PW X e t):PT X e t:=h _
noncomputable def PA(X:Cx)(es:Ac Ao)(t:TA):Prop:=
 ∀(pos:AX)(pI:Pn)(s:As)(U:St)(H:Hp)(Q:Ac V->Hp->Prop),Inv X pI U H s->t U H Q->Az (model X.prog X.w) X.A (spliced (Ct pos (AB es X.env))) (AP X pI U Q) X.xe s
noncomputable def PS(X:Cx)(st:Bp)(t:TS):Prop:=
 ∀(pI:Pn)(s:As)(U:St)(H:Hp)(D:Ends),Inv X pI U H s->t D U H->Az (model X.prog X.w) X.A (exec st X.env) (SP X pI D) X.xe s
noncomputable def PSs(X:Cx)(st:Ac Bp)(t:TS):Prop:=
 ∀(pI:Pn)(s:As)(U:St)(H:Hp)(D:Ends),Inv X pI U H s->t D U H->Az (model X.prog X.w) X.A (execs st X.env) (SP X pI D) X.xe s
theorem thn{α:Type}{t:Hr α}{Q Q':α->As->Prop}{A:Bc}{E:Vq}(h:Az M A t Q E s)(hQ:∀ a s,Q a s->Q' a s):Az M A t Q' E s:=CW h hQ λ_ _ x=>x
section
variable{X:Cx}
def HE(i:Ag):TE:=λU H Q=>∃ v,U[i]?=Ab (Ab v)/\Q v H
def tC(v:V):TE:=λ_ H Q=>Q v H
theorem ao(hN:X.N[i]?=Ab x)(hv:Vis X.env.scope x)(hd:(x==("__debug__" : An))=Ae:=by decide)(hcd:(x==("__classdict__" : An))=Ae:=by decide):PE X (.Name x pos) (HE i):=by
 intro pI s U H Q I h;obtain⟨v,e,h⟩:=h;obtain⟨m,hn,hl⟩:=I.loc;obtain⟨u,r,l⟩:=hl i x v hN e hv;have fin:EP X pI U Q u s:=⟨v,H,I,r,h⟩;rcases l with ⟨hk,hm⟩|⟨hk,c,hc,hcell⟩
 .exact K2 (wpAny_loadName_local I.ok.kind hk hn hm fin) hd
 .rcases hk with hk|hk
  .exact K2 (wpAny_loadName_cell I.ok.kind hk hc hcell fin) hd
  .exact K2 (wpAny_loadName_free I.ok.kind hk hc hcell fin hcd) hd
theorem b9{i j pos}:PE X (.Constant (.int i) j pos) (tC (.int i)):=λ_ _ _ H _ I h=>wpAny_Constant_int ⟨.int i,H,I.tok _,⟨_,rfl⟩,h⟩
theorem bG{b j pos}:PE X (.Constant (.bool b) j pos) (tC (.bl b)):=λ_ _ _ H _ I h=>Constant_bool ⟨.bl b,H,I,rfl,h⟩
theorem b7{j pos}:PE X (.Constant .none j pos) (tC .non):=λ_ _ _ H _ I h=>Constant_none ⟨.non,H,I,rfl,h⟩
theorem ar{x j pos}:PE X (.Constant (.str x) j pos) (tC (.str x)):=λ_ _ _ H _ I h=>Calls.Constant_str ⟨.str x,H,I.tok _,⟨_,rfl⟩,h⟩
def Gl(X:Cx)(x:An):Prop:=X.env.kindOf x=Ab .globalImplicit
theorem sT{E:Vq}{Q:Vq}(I:Inv X pI U H s)(hg:Gl X x)(hm:X.mg x=Ab u)(h:Q u s)(hd:(x==("__debug__" : An))=Ae:=by decide):Az (model X.prog X.w) X.A (eval (.Name x pos) X.env) Q E s:=
 YO I.ok.kind hg (Calls.loadGlobal_global (by rw[I.ok.glob];exact I.mod.glob.keeps I.bk) hm h) hd
theorem Jh{E:Vq}{Q:Vq}(I:Inv X pI U H s)(hg:Gl X x)(hm:X.mg x=Af)(hv:DE x=Ab u)(h:Q u s)(hn:x≠"__name__" := by decide)(hd:(x==("__debug__" : An))=Ae:=by decide):Az (model X.prog X.w) X.A (eval (.Name x pos) X.env) Q E s:=by
 obtain⟨mb,h1,h2⟩:=I.mod.blt;exact YO I.ok.kind hg (Calls.loadGlobal_builtin (by rw[I.ok.glob];exact I.mod.glob.keeps I.bk) hm (by rw[I.ok.blt];exact h1.keeps I.bk) ((h2 x hn).trans hv) h) hd
theorem sW(hg:Gl X x)(hm:X.mg x=Af)(hv:DE x=Ab u)(r:BP v u)(hn:x≠"__name__" := by decide)(hd:(x==("__debug__" : An))=Ae:=by decide):PE X (.Name x pos) (tC v):=
 λ_ _ _ H _ I h=>Jh I hg hm hv ⟨v,H,I,r,h⟩ hn hd
variable{a b:Ao}{ta tb:TE}{pos:AX}
variable{tA tB':TT}{rest:Ac Ao}
def dX(t u:TT):TT:=λU H Q=>t U H λc H1=>if c=Aa then u U H1 Q else Q Ae H1
def tOr(t u:TT):TT:=λU H Q=>t U H λc H1=>if c=Aa then Q Aa H1 else u U H1 Q
def dP(t:TT):TT:=λU H Q=>t U H λc H1=>Q (!c) H1
theorem pQ(ha:PT X a tA):PW X (.BoolOp .And [a] pos) tA:=by
 intro wh pI s U H Q I h;refine isTrue_and (thn (ha pI s U H Q I h) λc s1 e=>?_)
 cases c with
 |true=>exact isTrue_and_nil e
 |false=>exact e
theorem zW(ha:PT X a tA):PW X (.BoolOp .Or [a] pos) tA:=by
 intro wh pI s U H Q I h;refine isTrue_or (thn (ha pI s U H Q I h) λc s1 e=>?_)
 cases c with
 |false=>exact isTrue_or_nil e
 |true=>exact e
theorem zX(ha:PT X a tA)(hb:PW X (.BoolOp .And (b::rest) pos) tB'):PW X (.BoolOp .And (a::b::rest) pos) (dX tA tB'):=by
 intro wh pI s U H Q I h;refine isTrue_and (thn (ha pI s U H _ I h) λc s1 ⟨H1,I1,q1⟩=>?_)
 cases c with
 |true=>exact hb wh pI s1 U H1 Q I1 q1
 |false=>exact⟨H1,I1,q1⟩
theorem mf(ha:PT X a tA)(hb:PW X (.BoolOp .Or (b::rest) pos) tB'):PW X (.BoolOp .Or (a::b::rest) pos) (tOr tA tB'):=by
 intro wh pI s U H Q I h;refine isTrue_or (thn (ha pI s U H _ I h) λc s1 ⟨H1,I1,q1⟩=>?_)
 cases c with
 |true=>exact⟨H1,I1,q1⟩
 |false=>exact hb wh pI s1 U H1 Q I1 q1
theorem zY(ha:PT X a tA):PT X (.UnaryOp .Not a pos) (dP tA):=by
 intro pI s U H Q I h;exact isTrue_not (ha pI s U H (λc H1=>Q (!c) H1) I h)
def kj(ta tb:TE):TE:=λU H Q=>ta U H λx H1=>∃ c,x=.bl c/\if c=Aa then tb U H1 Q else Q (.bl Ae) H1
def dN(ta tb:TE):TE:=λU H Q=>ta U H λx H1=>∃ c,x=.bl c/\if c=Aa then Q (.bl Aa) H1 else tb U H1 Q
def ke(ta:TE):TE:=λU H Q=>ta U H λx H1=>∃ c,x=.bl c/\Q (.bl (!c)) H1
theorem av{op}{t:TE}(h:PE X a t):PE X (.BoolOp op [a] pos) t:=λpI s U H Q I hw=>BoolOp_one (h pI s U H Q I hw)
theorem bg(ha:PE X a ta)(hb:PE X (.BoolOp .And (b::rest) pos) tb):PE X (.BoolOp .And (a::b::rest) pos) (kj ta tb):=by
 intro pI s U H Q I h;refine BoolOp_and (thn (ha pI s U H _ I h) λv s1 ⟨x,H1,I1,r1,q1⟩=>?_)
 obtain⟨c,rfl,q1⟩:=q1;cases r1;refine C1 ?_;cases c with
 |true=>exact hb pI s1 U H1 Q I1 q1
 |false=>exact⟨.bl Ae,H1,I1,rfl,q1⟩
theorem mn(ha:PE X a ta)(hb:PE X (.BoolOp .Or (b::rest) pos) tb):PE X (.BoolOp .Or (a::b::rest) pos) (dN ta tb):=by
 intro pI s U H Q I h;refine BoolOp_or (thn (ha pI s U H _ I h) λv s1 ⟨x,H1,I1,r1,q1⟩=>?_)
 obtain⟨c,rfl,q1⟩:=q1;cases r1;refine C1 ?_;cases c with
 |false=>exact hb pI s1 U H1 Q I1 q1
 |true=>exact⟨.bl Aa,H1,I1,rfl,q1⟩
theorem b6(ha:PE X a ta):PE X (.UnaryOp .Not a pos) (ke ta):=by
 intro pI s U H Q I h;refine UnaryOp_ (thn (ha pI s U H _ I h) λv s1 ⟨x,H1,I1,r1,q1⟩=>?_)
 obtain⟨c,rfl,q1⟩:=q1;cases r1;exact not_of (C1 ⟨.bl (!c),H1,I1,rfl,q1⟩)
end
noncomputable def SqL(K:Fg)(H:Hp)(a:Ak)(xs:Ac V):Prop:=
 Rd H a (.lst xs) \/
  ∃(o:Dk)(its:A6 Ai)(n:Ag),K.lookup a=Ab o/\o.cls=.type "list"/\o.dict=Af/\o.data=.seq its n/\its.size<=sizeLine/\Bk xs its.toList
noncomputable def SqT(K:Fg)(H:Hp)(a:Ak)(xs:Ac V):Prop:=
 Rd H a (.tup xs) \/
  ∃(o:Dk)(its:A6 Ai)(n:Ag),K.lookup a=Ab o/\o.cls=.type "tuple"/\o.data=.seq its n/\its.size<=sizeLine/\Bk xs its.toList
noncomputable def eJ:Ai->Aq V
 |.none=>Ab .non
 |.bool b=>Ab (.bl b)
 |.int i _=>Ab (.int i)
 |.str x _=>Ab (.str x)
 |.bytes b _=>Ab (.byt b)
 |.float b _=>Ab (.flt b)
 |.ref a=>Ab (.ref a)
 |.type n=>Ab (.ty n)
 |_=>Af
theorem BP.abs{x:V}(r:BP x u):eJ u=Ab x:=by
 cases x with
 |non=>cases r;rfl
 |bl _=>cases r;rfl
 |int _=>obtain⟨t,rfl⟩:=r;rfl
 |str _=>obtain⟨t,rfl⟩:=r;rfl
 |byt _=>obtain⟨t,rfl⟩:=r;rfl
 |flt _=>obtain⟨t,rfl⟩:=r;rfl
 |ref _=>cases r;rfl
 |ty _=>cases r;rfl
theorem BP.inj{x y:V}(r:BP x u)(q:BP y u):x=y:=BN (r.abs.symm.trans q.abs)
theorem Bk.inj:∀{xs ys:Ac V}{us:Ac Ai},Bk xs us->Bk ys us->xs=ys
 |_,_,_,.nil,.nil=>rfl
 |_,_,_,.cons r t,.cons r' t'=>by rw[r.inj r',Bk.inj t t']
section
variable{X:Cx}{pI:Pn}{U:St}{H:Hp}{s:As}{a:Ak}{xs ys:Ac V}
theorem SqL.of{K:Fg}(h:H a=Ab (.lst xs)):SqL K H a xs:=.inl (.inl h)
theorem SqT.of{K:Fg}(h:H a=Ab (.tup xs)):SqT K H a xs:=.inl (.inl h)
theorem Inv.list(I:Inv X pI U H s)(h:SqL X.K H a xs):∃ its:Ac Ai,Bk xs its/\PlainL s.heap a its.toArray/\xs.length<=sizeLine:=by
 rcases h with h|⟨o,its,n,hk,hc,hd,hs,hz,r⟩
 .obtain⟨z,its,n,r,e⟩:=h.ok I.hok;exact⟨its,r,⟨_,n,e,rfl,rfl,rfl⟩,z⟩
 .refine⟨its.toList,r,⟨o,n,I.kIn a o hk,hc,hd,by simpa using hs⟩,?_⟩
  have e:=r.length;simp only[D0]at e;omega
theorem Inv.tuple(I:Inv X pI U H s)(h:SqT X.K H a xs):∃ its:Ac Ai,Bk xs its/\J5 s.heap a its.toArray/\xs.length<=sizeLine:=by
 rcases h with h|⟨o,its,n,hk,hc,hs,hz,r⟩
 .obtain⟨z,its,r,p⟩:=h.ok I.hok;exact⟨its,r,p,z⟩
 .refine⟨its.toList,r,⟨o,I.kIn a o hk,hc,n,by simpa using hs⟩,?_⟩
  have e:=r.length;simp only[D0]at e;omega
theorem Inv.list_inj(I:Inv X pI U H s)(h:SqL X.K H a xs)(h':SqL X.K H a ys):xs=ys:=by
 obtain⟨its,r,⟨o,n,e,_,_,d⟩,_⟩:=I.list h;obtain⟨its',r',⟨o',n',e',_,_,d'⟩,_⟩:=I.list h';rw[e]at e';cases e';rw[d]at d'
 injection d' with d1 _
 have:its=its':=by simpa using congrArg Jy d1
 subst this;exact r.inj r'
theorem Inv.tuple_inj(I:Inv X pI U H s)(h:SqT X.K H a xs)(h':SqT X.K H a ys):xs=ys:=by
 obtain⟨its,r,⟨o,e,_,n,d⟩,_⟩:=I.tuple h;obtain⟨its',r',⟨o',e',_,n',d'⟩,_⟩:=I.tuple h';rw[e]at e';cases e';rw[d]at d'
 injection d' with d1 _
 have:its=its':=by simpa using congrArg Jy d1
 subst this;exact r.inj r'
end
noncomputable abbrev Cx.wish(X:Cx)(E:Vq):Cx:={X with xe:=E}
noncomputable abbrev Cx.nox(X:Cx):Cx:=X.wish λ_ _=>Bu
theorem Cx.Ok.wish(ok:X.Ok)(E:Vq):(X.wish E).Ok:=
 ⟨ok.mod,ok.kind,ok.glob,ok.blt,ok.above,ok.inj,ok.has,ok.cab,ok.hd,ok.frames,ok.stk,ok.exf,ok.bs,ok.bsz,ok.noex,ok.exfs,ok.funs,ok.frf⟩
theorem Cx.Ok.unwish{E:Vq}(ok:(X.wish E).Ok):X.Ok:=
 ⟨ok.mod,ok.kind,ok.glob,ok.blt,ok.above,ok.inj,ok.has,ok.cab,ok.hd,ok.frames,ok.stk,ok.exf,ok.bs,ok.bsz,ok.noex,ok.exfs,ok.funs,ok.frf⟩
section
variable{X:Cx}{pI:Pn}{U:St}{H:Hp}{s:As}{E:Vq}
theorem Inv.wish(I:Inv X pI U H s)(E:Vq):Inv (X.wish E) pI U H s:=⟨I.ok.wish E,I.os,I.bare,I.base,I.loc,I.cell,I.free,I.freeC,I.pin,I.hok,I.len⟩
theorem Inv.unwish(I:Inv (X.wish E) pI U H s):Inv X pI U H s:=⟨I.ok.unwish,I.os,I.bare,I.base,I.loc,I.cell,I.free,I.freeC,I.pin,I.hok,I.len⟩
theorem SP.unwish{D:Ends}{f:Flow}{s':As}(h:SP (X.wish E) pI D f s'):SP X pI D f s':=by
 cases f with
 |next=>obtain⟨U',H',I,q⟩:=h;exact⟨U',H',I.unwish,q⟩
 |brk=>obtain⟨U',H',I,q⟩:=h;exact⟨U',H',I.unwish,q⟩
 |cont=>obtain⟨U',H',I,q⟩:=h;exact⟨U',H',I.unwish,q⟩
 |ret u=>obtain⟨v,U',H',I,r,q⟩:=h;exact⟨v,U',H',I.unwish,r,q⟩
theorem PSs.nox{st:Ac Bp}{t:TS}(h:PSs X.nox st t):PSs X st t:=λpI s U H D I hw=>
 CW (h pI s U H D (I.wish _) hw) (λ_ _ q=>q.unwish) λ_ _ z=>Eu z
end
section
variable{X:Cx}{st:Bp}{rest:Ac Bp}{t u:TS}{e:Ao}{te:TE}{pos:AX}
def kf:TS:=λD U H=>D.nx U H
def dL(t u:TS):TS:=λD U H=>t {D with nx:=u D} U H
theorem pU:PSs X [] kf:=λ_ _ U H _ I h=>Iq ⟨U,H,I,h⟩
theorem mP(h1:PS X st t)(h2:PSs X rest u):PSs X (st::rest) (dL t u):=by
 intro pI s U H D I h;refine wpAny_execs_cons (thn (h1 pI s U H {D with nx:=u D} I h) λf s1 q=>?_)
 cases f with
 |next=>
  obtain⟨U',H',I',q⟩:=q;exact h2 pI s1 U' H' D I' q
 |ret v=>exact q
 |brk=>exact q
 |cont=>exact q
theorem Inv.quiet(I:Inv X pI U H s):interactive X.env=Ae:=by simp[interactive,I.ok.kind]
def kg(te:TE):TS:=λD U H=>te U H λ_ H1=>D.nx U H1
theorem Mw(he:PE X e te)(hs:DQ e Af pos.line X.env=pure Ae:=by rfl):PS X (.Expr e pos) (kg te):=by
 intro pI s U H D I h;exact wpAny_Expr_any (thn (he pI s U H _ I h) λv s1 ⟨x,H1,I1,r1,q1⟩=>⟨U,H1,I1,q1⟩) I.quiet hs
def dM(te:TE):TS:=λD U H=>te U H D.rt
theorem Rg(he:PE X e te):PS X (.Return (Ab e) pos) (dM te):=by
 intro pI s U H D I h;exact wpAny_Return_some (thn (he pI s U H _ I h) λv s1 ⟨x,H1,I1,r1,q1⟩=>⟨x,U,H1,I1,r1,q1⟩)
def dS(c:TT)(t u:TS):TS:=λD U H=>c U H λb H1=>if b=Aa then t D U H1 else u D U H1
theorem mj{a b:Ac Bp}(hc:PT X c tc)(ha:PSs X a t)(hb:PSs X b u):PS X (.If c a b pos) (dS tc t u):=by
 intro pI s U H D I h;refine wpAny_If (thn (hc pI s U H _ I h) λd s1 ⟨H1,I1,q1⟩=>?_)
 cases d with
 |true=>exact ha pI s1 U H1 D I1 q1
 |false=>exact hb pI s1 U H1 D I1 q1
end
abbrev TG:=V->St->Hp->(St->Hp->Prop)->Prop
abbrev TGs:=Ac V->St->Hp->(St->Hp->Prop)->Prop
noncomputable def PG(X:Cx)(target:Ao)(t:TG):Prop:=
 ∀(pI:Pn)(s:As)(U:St)(H:Hp)(v:V)(u:Ai)(Q:St->Hp->Prop),Inv X pI U H s->BP v u->t v U H Q ->
  Az (model X.prog X.w) X.A (assign target X.env u) (λ_ s'=>∃ U' H',Inv X pI U' H' s'/\Q U' H') X.xe s
noncomputable def PGs(X:Cx)(ts:Ac Ao)(t:TGs):Prop:=
 ∀(pI:Pn)(s:As)(U:St)(H:Hp)(vs:Ac V)(us:Ac Ai)(Q:St->Hp->Prop),Inv X pI U H s->Bk vs us->t vs U H Q ->
  Az (model X.prog X.w) X.A (assignInOrder ((DJ ts X.env).map (·.2)) us) (λ_ s'=>∃ U' H',Inv X pI U' H' s'/\Q U' H') X.xe s
abbrev OE:=V->V->V->Hp->(Hp->Prop)->Prop
noncomputable def OW(X:Cx)(t:OE):Prop:=
 ∀(pI:Pn)(s:As)(U:St)(H:Hp)(o i v:V)(ov iv u:Ai)(Q:Hp->Prop),Inv X pI U H s->BP o ov->BP i iv->BP v u->t o i v H Q ->
  Az (model X.prog X.w) X.A (J9 ov iv u) (λ_ s'=>∃ H',Inv X pI U H' s'/\Q H') X.xe s
section
variable{X:Cx}{pos:AX}
def F8(i:Ag):TG:=λv U H Q=>Q (U.set i (Ab v)) H
theorem Mx(hN:X.N.Nodup)(hi:X.N[i]?=Ab x)(hx:Loc X.env.scope x)(hf:X.fn x=Aa\/X.env.scope.names.lookup x=Ab .local:=by first|exact .inl rfl|exact .inr rfl|assumption):PG X (.Name x pos) (F8 i):=by
 intro pI s U H v u Q I r h;exact aG (Uo I hN hi hx r (λs' I'=>⟨_,H,I',h⟩) hf)
def Jr:TGs:=λvs U H Q=>vs=[]/\Q U H
def Jn(t:TG)(u:TGs):TGs:=λvs U H Q=>∃ v r,vs=v::r/\t v U H λU' H'=>u r U' H' Q
theorem VF:PGs X [] Jr:=by
 intro pI s U H vs us Q I r h;obtain⟨e,h⟩:=h;subst e;cases r;exact assignInOrder_nil ⟨U,H,I,h⟩
theorem US{t:TG}{u:TGs}(h1:PG X e t)(h2:PGs X es u)(hs:(DJ (e::es) X.env).map (·.2)=assign e X.env::(DJ es X.env).map (·.2):=by rfl):PGs X (e::es) (Jn t u):=by
 intro pI s U H vs us Q I r h;obtain⟨v,vr,e1,h⟩:=h;subst e1;cases r with
 |cons r rr=>
  rw[hs];refine assignInOrder_cons (thn (h1 pI s U H _ _ _ I r h) λ_ s1 ⟨U1,H1,I1,q1⟩=>?_)
  exact h2 pI s1 U1 H1 _ _ Q I1 rr q1
def MU(K:Fg)(n:Ag)(t:TGs):TG:=λv U H Q=>∃ a xs,v=.ref a/\SqT K H a xs/\xs.length=n/\t xs U H Q
theorem Wx{t:TGs}(hc:X.calm=Aa)(h:PGs X es t)(hn:(DJ es X.env).length=n:=by rfl)(hst:(DJ es X.env).findIdx? (·.1)=Af:=by rfl):PG X (.Tuple es k pos) (MU X.K n t):=by
 intro pI s U H v u Q I r hw;obtain⟨a,xs,e1,hq,hl,hw⟩:=hw;subst e1;cases r;obtain⟨its,rv,ht,hz⟩:=I.tuple hq;refine assign_Tuple_tuple (I.ok.hd hc) ht (by simp[hn,<-hl,rv.length]) hst λh' hx=>?_
 have I1:Inv X pI U H {s with heap:=h'}:=I.kept (t':=s.toks) λb o e=>hx b o (Bb (AE e)) e
 exact h pI _ U H xs _ Q I1 (by simpa using rv) hw
def fC(to ti:TE)(t:OE):TG:=λv U H Q=>to U H λo H1=>ti U H1 λi H2=>t o i v H2 λH3=>Q U H3
theorem Wy{o i:Ao}{to ti:TE}{t:OE}(ho:PE X o to)(hi:PE X i ti)(hs:OW X t)(ha:∀ v,assign (.Subscript o i pos) X.env v=(do
   let ov <-holding [v] (eval o X.env)
   let iv <-holding [v,ov] (eval i X.env)
   IS pos
   holding [v,ov,iv] (J9 ov iv v)
   release [v,ov,iv] []):=by intro _;rfl):PG X (.Subscript o i pos) (fC to ti t):=by
 intro pI s U H v u Q I r h;rw[ha];refine Ah (Dj (thn (ho pI s U H _ I h) λov s1 ⟨x,H1,I1,r1,q1⟩=>?_))
 refine Ah (Dj (thn (hi pI s1 U H1 _ I1 q1) λiv s2 ⟨y,H2,I2,r2,q2⟩=>?_))
 refine Ah (Jx (Ah (Dj (thn (hs pI s2 U H2 x y v ov iv u _ I2 r1 r2 r q2) λ_ s3 ⟨H3,I3,q3⟩=>?_))))
 exact wpAny_release ⟨U,H3,I3,q3⟩
def Ou(te:TE)(g:TG):TS:=λD U H=>te U H λx H1=>g x U H1 D.nx
theorem Wv{g:TG}(he:PE X e te)(hg:PG X tg g)(hs:Hu [tg] e pos.line X.env=pure Ae:=by rfl)(hw:Jw [tg] e X.env=pure Af:=by rfl)(h1:(DJ [tg] X.env).map (·.2)=[assign tg X.env]:=by rfl):PS X (.Assign [tg] e pos) (Ou te g):=by
 intro pI s U H D I h;refine wpAny_Assign_stores (thn (he pI s U H _ I h) λv s1 ⟨x,H1,I1,r1,q1⟩=>?_) hs hw
 rw[h1];exact thn (hg pI s1 U H1 x v _ I1 r1 q1) λ_ s2 q=>q
theorem Wu{pos':AX}(hN:X.N.Nodup)(hi:X.N[i]?=Ab x)(hx:Loc X.env.scope x)(he:PE X e te)(hs:DQ e (Ab (.Name x pos')) pos.line X.env=pure Ae:=by rfl)(hf:X.fn x=Aa\/X.env.scope.names.lookup x=Ab .local:=by first|exact .inl rfl|exact .inr rfl|assumption):PS X (.Assign [.Name x pos'] e pos) (Ou te (F8 i)):=by
 intro pI s U H D I h;refine wpAny_Assign_Name (thn (he pI s U H _ I h) λv s1 ⟨y,H1,I1,r1,q1⟩=>?_) hs
 exact Uo I1 hN hi hx r1 (λs2 I2=>⟨_,H1,I2,q1⟩) hf
end
section
variable{X:Cx}{pos:AX}
def yU(c:TT)(tb:TS):TS:=λD U H=>∃ W:Ag->St->Hp->Prop,(∃ m,W m U H)/\∀ m U H,W m U H ->
 c U H λb H1=>if b=Aa then ∃ N:St->Hp->Prop,(∀ U' H',N U' H'->∃ m',m'<m/\W m' U' H')/\tb {D with nx:=N,ct:=N,bk:=D.nx} U H1 else D.nx U H1
theorem mQ(hp:Fj (model X.prog X.w) X.A X.env X.xe)(hc:PT X c tc)(hb:PSs X body tb):PS X (.While c body [] pos) (yU tc tb):=by
 intro pI s U H D I h;obtain⟨W,⟨m0,w0⟩,turn⟩:=h;refine wpAny_While (codeAny_whileLoop (λn s'=>∃ U' H',Inv X pI U' H' s'/\W n U' H') ?_ m0 ⟨U,H,I,w0⟩)
 rintro n s1 ⟨U1,H1,I1,w1⟩;refine Ej hp (thn (hc pI s1 U1 H1 _ I1 (turn n U1 H1 w1)) λb s2 ⟨H2,I2,q2⟩=>?_)
 cases b with
 |true=>
  obtain⟨N,hN,q2⟩:=q2;rw[AF rfl];refine Ej hp (thn (hb pI s2 U1 H2 _ I2 q2) λf s3 q3=>?_)
  cases f with
  |next=>
   obtain⟨U3,H3,I3,n3⟩:=q3;obtain⟨m',hm,w3⟩:=hN U3 H3 n3;exact⟨m',hm,U3,H3,I3,w3⟩
  |cont=>
   obtain⟨U3,H3,I3,n3⟩:=q3;obtain⟨m',hm,w3⟩:=hN U3 H3 n3;exact⟨m',hm,U3,H3,I3,w3⟩
  |brk=>exact q3
  |ret v=>exact q3
 |false=>
  rw[AN AM];exact Iq ⟨U1,H2,I2,q2⟩
end
structure It where
 go:Ag->Hp->Prop
 yld:Ag->Hp->V->Hp->Prop
 stop:Ag->Hp->Prop
noncomputable def Hh(X:Cx)(pI:Pn)(H:Hp)(b:Ak):Prop:=
 H b=Af/\b≠X.env.locals/\b∉X.fs/\(b∈X.ex\/X.s₀.heap.objs.size<=b)/\(∀ x c,X.env.cells.lookup x=Ab c->c≠b)/\∀ p∈X.pn++pI,p.1≠b
theorem Inv.fpOk{H':Hp}(I:Inv X pI U H s)(hb:s.heap.objs.size<=b)(hn:H' b=Af):Hh X pI H' b:=by
 refine⟨hn,DD (AI I.lt hb),I.nofs hb,.inr (Cn I.sz hb),λx c e z=>?_,λp hp z=>?_⟩
 .obtain⟨v,q⟩:=I.cell x c e;exact absurd (AI q.lt (by rw[z];exact hb)) (Bx _)
 .exact absurd (AI (AE (I.pin p hp).1) (by rw[z];exact hb)) (Bx _)
structure Turn (P:AT) (w:AD) (K:Fg) (tg:Ao) (J:It) (fp:Ac Ak) (it:Ak) (tn:Ag->AJ->Prop):Prop where
 mem:it∈fp
 obj:∀ i h,tn i h->∀ b∈fp,∃ o,h.get? b=Ab o/\∀ v,o.data≠.cell v
 keep:∀ i h h',tn i h->(∀ b∈fp,∀ o,h.get? b=Ab o->h'.get? b=Ab o)->tn i h'
 item:∀(X:Cx),X.prog=P->X.w=w->X.K=K->X.calm=Aa->∀(i:Ag)(pI:Pn)(s:As)(U:St)(H:Hp)(E:Vq),Inv X pI U H s->(∀ b∈fp,Hh X pI H b)->tn i s.heap->J.go i H ->
  Az (model P w) X.A (EG (.ref it)) (λr s1=>∃ u,r=Ab u /\
   Az (model P w) X.A (GQ tg (.ref it) u) (λ_ s2=>∃ x H',Inv X pI U H' s2/\BP x u/\J.yld i H x H'/\tn (i+1) s2.heap/\∀ b∈fp,H' b=Af) E s1) E s
 done:∀(X:Cx),X.prog=P->X.w=w->X.K=K->X.calm=Aa->∀(i:Ag)(pI:Pn)(s:As)(U:St)(H:Hp)(E:Vq),Inv X pI U H s->(∀ b∈fp,Hh X pI H b)->tn i s.heap->J.stop i H ->
  Az (model P w) X.A (EG (.ref it)) (λr s1=>r=Af/\Inv X pI U H s1) E s
 self:∀(A:Bc)(i:Ag)(s:As)(Q:Vq)(E:Vq),tn i s.heap->Q (.ref it) s->Az (model P w) A (K0 (.ref it)) Q E s
abbrev TI:=St->Hp->(It->Hp->Prop)->Prop
noncomputable def PIE(X:Cx)(pI:Pn)(U:St)(tg:Ao)(R:It->Hp->Prop)(itv:Ai)(s2:As):Prop:=
 ∃(it:Ak)(fp:Ac Ak)(tn:Ag->AJ->Prop)(J:It)(H':Hp),itv=.ref it/\Inv X pI U H' s2/\Turn X.prog X.w X.K tg J fp it tn/\tn 0 s2.heap/\(∀ b∈fp,Hh X pI H' b)/\R J H'
noncomputable def PI(X:Cx)(tg iter:Ao)(wi:TI):Prop:=
 ∀(pI:Pn)(s:As)(U:St)(H:Hp)(R:It->Hp->Prop),Inv X pI U H s->wi U H R ->
  Az (model X.prog X.w) X.A (eval iter X.env) (λv s1=>Az (model X.prog X.w) X.A (K0 v) (PIE X pI U tg R) X.xe s1) X.xe s
theorem RW{A:Bc}{E:Vq}{n:Dp}{vs:A6 Ai}(ho:s.heap.get? it=Ab o)(hc:o.cls=.type n)(hd:o.data=.fields vs)(hn:["enumerate", "zip", "dict_itemiterator", "dict_reverseitemiterator", "odict_iterator", "itertools.zip_longest", "itertools.pairwise"].contains n=Ae)(hQ:Q () s):Az M A (GQ tg (.ref it) u) Q E s:=by
  unfold GQ;cases tg<;>first
    |exact Ax hQ
    | (cases u<;>first
        |exact Ax hQ
        | (refine Ah (wpAny_load ho ?_)
           rw[hc,hd];show Az M A (if (["enumerate", "zip", "dict_itemiterator", "dict_reverseitemiterator", "odict_iterator", "itertools.zip_longest", "itertools.pairwise"].contains n&&vs[0]? == Ab (Co _))=Aa then _ else _) Q E s
           rw[AN (by intro h;rw[hn,Bool.false_and]at h;cases h)]
           exact Ax hQ))
noncomputable def Itl(K:Fg)(a:Ak):It:=
 ⟨λi H=>∃ xs x,SqL K H a xs/\xs[i]?=Ab x,λi H x H'=>H'=H/\∀ xs,SqL K H a xs->xs[i]?=Ab x,λi H=>∃ xs,SqL K H a xs/\xs.length<=i⟩
noncomputable def Itt(K:Fg)(a:Ak):It:=
 ⟨λi H=>∃ xs x,SqT K H a xs/\xs[i]?=Ab x,λi H x H'=>H'=H/\∀ xs,SqT K H a xs->xs[i]?=Ab x,λi H=>∃ xs,SqT K H a xs/\xs.length<=i⟩
noncomputable def Itr(lo:Ad)(n:Ag):It:=⟨λi _=>i<n,λi H x H'=>H'=H/\x=.int (lo+i),λi _=>n<=i⟩
theorem gX{w:AD}{K:Fg}(a it:Ak):Turn P w K tg (Itl K a) [it] it (λi h=>h.IsListIter it a i) where
  mem:=by simp
  obj:=λi h st b hb=>by
    have e:b=it:=by simpa using hb
    subst e;obtain⟨o,e,c,d⟩:=st;exact⟨o,e,λv z=>by rw[d]at z;cases z⟩
  keep:=λi h h' st k=>st.at λo e=>k it (by simp) o e
  item:=by
    intro X hP hw hK hc i pI s U H E I hf st hg;subst hP hw hK;obtain⟨xs,x,hq,hx⟩:=hg;obtain⟨its,rv,p,hz⟩:=I.list hq;obtain⟨u,hu,ru⟩:=rv.get hx;obtain⟨f0,f1,f2,f3,f4,f5⟩:=hf it (by simp)
    refine wpAny_pyNext_list_item st p.isList (x:=u) (by simpa using hu) λh' st' sb=>?_
    have I1:Inv X pI U H {s with heap:=h'}:=I.turned (t':=s.toks) (λb o hb e=>(sb.2 b hb).trans e) f0 f1 f3 f4 f5
    obtain⟨o,e,c,d⟩:=id st';exact⟨u,rfl,RW (s:={s with heap:=h'}) e c d (by decide) ⟨x,H,I1,ru,⟨rfl,λys hy=>by rw[I.list_inj hy hq];exact hx⟩,st',λb hb=>(hf b hb).1⟩⟩
  done:=by
    intro X hP hw hK hc i pI s U H E I hf st hg;subst hP hw hK;obtain⟨xs,hq,hx⟩:=hg;obtain⟨its,rv,p,hz⟩:=I.list hq;obtain⟨f0,f1,f2,f3,f4,f5⟩:=hf it (by simp)
    have hl:=rv.length;exact wpAny_pyNext_list_end (I.ok.hd hc) st p.isList (by simp;omega) λh' eb=>⟨rfl,I.turned (t':=s.toks) (λb o hb e=>eb b o hb e) f0 f1 f3 f4 f5⟩
  self:=λ_ _ _ _ _ st h=>wpAny_pyIter_listiter st h
theorem gM{w:AD}{K:Fg}(a it:Ak):Turn P w K tg (Itt K a) [it] it (λi h=>h.IsTupleIter it a i) where
  mem:=by simp
  obj:=λi h st b hb=>by
    have e:b=it:=by simpa using hb
    subst e;obtain⟨o,e,c,d⟩:=st;exact⟨o,e,λv z=>by rw[d]at z;cases z⟩
  keep:=λi h h' st k=>st.at λo e=>k it (by simp) o e
  item:=by
    intro X hP hw hK hc i pI s U H E I hf st hg;subst hP hw hK;obtain⟨xs,x,hq,hx⟩:=hg;obtain⟨its,rv,p,hz⟩:=I.tuple hq;obtain⟨u,hu,ru⟩:=rv.get hx;obtain⟨f0,f1,f2,f3,f4,f5⟩:=hf it (by simp)
    refine wpAny_pyNext_tuple_item st (show s.heap.IsTuple a its.toArray from p) (x:=u) (by simpa using hu) λh' st' sb=>?_
    have I1:Inv X pI U H {s with heap:=h'}:=I.turned (t':=s.toks) (λb o hb e=>(sb.2 b hb).trans e) f0 f1 f3 f4 f5
    obtain⟨o,e,c,d⟩:=id st';exact⟨u,rfl,RW (s:={s with heap:=h'}) e c d (by decide) ⟨x,H,I1,ru,⟨rfl,λys hy=>by rw[I.tuple_inj hy hq];exact hx⟩,st',λb hb=>(hf b hb).1⟩⟩
  done:=by
    intro X hP hw hK hc i pI s U H E I hf st hg;subst hP hw hK;obtain⟨xs,hq,hx⟩:=hg;obtain⟨its,rv,p,hz⟩:=I.tuple hq;obtain⟨f0,f1,f2,f3,f4,f5⟩:=hf it (by simp)
    have hl:=rv.length;exact wpAny_pyNext_tuple_end (I.ok.hd hc) st (show s.heap.IsTuple a its.toArray from p) (by simp;omega) λh' eb=>⟨rfl,I.turned (t':=s.toks) (λb o hb e=>eb b o hb e) f0 f1 f3 f4 f5⟩
  self:=λ_ _ _ _ _ st h=>wpAny_pyIter_tupleiter st h
theorem hV{w:AD}{K:Fg}(it:Ak)(lo:Ad)(n:Ag):Turn P w K tg (Itr lo n) [it] it (λi h=>IsRangeIter h it (lo+(i:Ag)*1) ((n:Ad)-(i:Ag)) 1) where
  mem:=by simp
  obj:=λi h st b hb=>by
    have e:b=it:=by simpa using hb
    subst e;exact⟨_,st,λv z=>by
      have z':Data.fields _=L7 v:=z;cases z'⟩
  keep:=λi h h' st k=>k it (by simp) _ st
  item:=by
    intro X hP hw hK hc i pI s U H E I hf st hg;subst hP hw hK;obtain⟨f0,f1,f2,f3,f4,f5⟩:=hf it (by simp)
    have W:=Walks.range (prog:=X.prog) (w:=X.w) (I.ok.hd hc) it lo 1 n;refine W.item i s _ _ hg st λv h' tk hv st' kk=>?_
    obtain⟨t,rfl⟩:=hv;have I1:Inv X pI U H {s with heap:=h',toks:=tk}:=I.turned (λb o hb e=>kk b o (by simpa using hb) e) f0 f1 f3 f4 f5
    refine⟨_,rfl,RW (s:={s with heap:=h',toks:=tk}) (n := "range_iterator") st' rfl rfl (by decide) ⟨.int (lo+i),H,I1,⟨t,?_⟩,⟨rfl,rfl⟩,st',λb hb=>(hf b hb).1⟩⟩
    rw[EA]
  done:=by
    intro X hP hw hK hc i pI s U H E I hf st hg;subst hP hw hK;obtain⟨f0,f1,f2,f3,f4,f5⟩:=hf it (by simp)
    exact wpAny_pyNext_range_end (I.ok.hd hc) st (by have:n<=i:=hg;omega) λh' eb=>⟨rfl,I.turned (t':=s.toks) (λb o hb e=>eb b o hb e) f0 f1 f3 f4 f5⟩
  self:=λ_ _ _ _ _ st h=>wpAny_pyIter_rangeiter st h
section
variable{X:Cx}{tg:Ao}
theorem Ue{R:It->Hp->Prop}{E:Vq}{lo hi:Ad}{t u v:DV}{tk:Ag}(I:Inv X pI U H s)(h1:-(2 ^ 62)<=lo)(h2:lo<2 ^ 62)(h3:-(2 ^ 62)<=hi)(h4:hi<2 ^ 62)(q:R (Itr lo (hi-lo).toNat) H):Az (model X.prog X.w) X.A (K0 (.ref s.heap.objs.size)) (PIE X pI U tg R) E { s with heap:=s.heap.push { cls:=.type "range",data:=.fields #[.int lo t,.int hi u,.int 1 v] },toks:=tk }:=by
 refine wpAny_pyIter_range (IsRange.new ..) (small_one h1 h2 h3 h4) ?_;have I1:Inv X pI U H { s with heap:=s.heap.push { cls:=.type "range",data:=.fields #[.int lo t,.int hi u,.int 1 v] },toks:=tk }:=I.kept λb o e=>Ar _ e
 refine⟨(s.heap.push { cls:=.type "range",data:=.fields #[.int lo t,.int hi u,.int 1 v] }).objs.size,[(s.heap.push { cls:=.type "range",data:=.fields #[.int lo t,.int hi u,.int 1 v] }).objs.size],_,_,H,rfl,
  I1.kept (t':=tk) λb o e=>Ar _ e,hV _ lo (hi-lo).toNat,?_,λb hb=>?_,q⟩
 .have e1:lo+((0:Ag):Ad)*1=lo:=by simp
  have e2:(((hi-lo).toNat:Ag):Ad)-((0:Ag):Ad)=Builtin.Range.rangeSize lo hi 1:=by rw[rangeSize_one];split<;>omega
  show IsRangeIter _ _ (lo+((0:Ag):Ad)*1) ((((hi-lo).toNat:Ag):Ad)-((0:Ag):Ad)) 1;rw[e1,e2];exact Ay _ rfl
 .have e:b=(s.heap.push { cls:=.type "range",data:=.fields #[.int lo t,.int hi u,.int 1 v] }).objs.size:=by simpa using hb
  subst e;exact I1.fpOk (A1 _) (I1.hok.fresh (A1 _))
def aN(ta:TA):TI:=λU H R=>ta U H λvs H1=>∃ j:Ad,vs=[.int j]/\-(2 ^ 62)<=j/\j<2 ^ 62/\R (Itr 0 j.toNat) H1
def bE(ta:TA):TI:=λU H R=>ta U H λvs H1=>∃ i j:Ad,vs=[.int i,.int j]/\(-(2 ^ 62)<=i/\i<2 ^ 62/\-(2 ^ 62)<=j/\j<2 ^ 62)/\R (Itr i (j-i).toNat) H1
theorem jN{a:Ao}(hg:Gl X "range")(hm:X.mg "range" = Af)(ha:PA X [a] ta)(hs:AB [a] X.env=[(Ae,eval a X.env)]:=by rfl):PI X tg (.Call (.Name "range" p) [a] [] pos) (aN ta):=by
 intro pI s U H R I h;refine KS (Jh I hg hm boot_range (Cs (thn (ha pos pI s U H _ I h) λus s1 ⟨vs,H1,I1,r1,q1⟩=>?_) hs rfl))
 obtain⟨j,e,q1,q2,q⟩:=q1;subst e;cases r1 with
 |cons r rr=>
  cases rr;obtain⟨t,rfl⟩:=r;exact call_range_1 (Ue I1 (by omega) (by omega) q1 q2 (by simpa using q))
theorem jM{a b:Ao}(hg:Gl X "range")(hm:X.mg "range" = Af)(ha:PA X [a,b] ta)(hs:AB [a,b] X.env=[(Ae,eval a X.env),(Ae,eval b X.env)]:=by rfl)(hs2:AB [b] X.env=[(Ae,eval b X.env)]:=by rfl):
  PI X tg (.Call (.Name "range" p) [a,b] [] pos) (bE ta):=by
 intro pI s U H R I h;refine KS (Jh I hg hm boot_range (Cs (thn (ha pos pI s U H _ I h) λus s1 ⟨vs,H1,I1,r1,q1⟩=>?_) (by rw[hs,hs2]) (by rw[hs2];rfl)))
 obtain⟨i,j,e,⟨q1,q2,q3,q4⟩,q⟩:=q1;subst e;cases r1 with
 |cons r rr=>
  cases rr with
  |cons r' rr=>
   cases rr;obtain⟨t,rfl⟩:=r;obtain⟨t',rfl⟩:=r';exact call_range_2 (Ue I1 q1 q2 q3 q4 q)
def dU(wi:TI)(g:TG)(tb:TS):TS:=λD U H=>wi U H λJ H1=>∃ W:Ag->Ag->St->Hp->Prop,(∃ m,W 0 m U H1)/\∀ i m U H,W i m U H ->
 (J.stop i H/\D.nx U H)\/(J.go i H/\∃ N:St->Hp->Prop,(∀ U' H',N U' H'->∃ m',m'<m/\W (i+1) m' U' H')/\∀ x H',J.yld i H x H'->g x U H' λU2 H2=>tb {D with nx:=N,ct:=N,bk:=D.nx} U2 H2)
noncomputable def KA(fp:Ac Ak)(h:AJ):Pn:=fp.filterMap λb=>(h.get? b).map λo=>(b,o)
theorem Nq(hb:b∈fp)(e:h.get? b=Ab o):(b,o)∈KA fp h:=List.mem_filterMap.mpr ⟨b,hb,by rw[e];rfl⟩
theorem TZ{p:Ak×Dk}(hp:p∈KA fp h):p.1∈fp/\h.get? p.1=Ab p.2:=by
 obtain⟨b,hb,e⟩:=List.mem_filterMap.mp hp;cases q:h.get? b with
 |none=>rw[q]at e;cases e
 |some o=>
  rw[q]at e;have e':(b,o)=p:=BN e;subst e';exact⟨hb,q⟩
theorem Inv.pinned(I:Inv X pI U H s)(hf:∀ b∈fp,Hh X pI H b)(ho:∀ b∈fp,∃ o,s.heap.get? b=Ab o/\∀ v,o.data≠.cell v):Inv X (pI++KA fp s.heap) U H s:=
 I.pins_of λp hp=>(Dv.mp hp).elim (λz=>I.pin p (Bw _ z)) λz=>by
  obtain⟨hb,e⟩:=TZ z;obtain⟨f0,f1,f2,_⟩:=hf p.1 hb;obtain⟨o,e',d⟩:=ho p.1 hb;rw[e]at e';cases e';exact⟨e,f0,f1,f2,d⟩
theorem Inv.unpinned{pI pl:Pn}(I:Inv X (pI++pl) U H s):Inv X pI U H s:=I.pins_of λp hp=>I.pin p (Bw _ (Fl _ hp))
theorem aa{iter:Ao}{wi:TI}{g:TG}(hp:Fj (model X.prog X.w) X.A X.env X.xe)(hc:X.calm=Aa)(hi:PI X tg iter wi)(hg:PG X tg g)(hb:PSs X body tb)(hs:∀ x,Dr iter X.env x=pure x:=by intro _;rfl):PS X (.For tg iter body [] pos) (dU wi g tb):=by
 intro pI s U H D I h;refine wpAny_For (thn (hi pI s U H _ I h) λv s1 h1=>thn h1 λitv s2 h2=>?_) hs
 obtain⟨it,fp,tn,J,H2,e,I2,T,st2,f2,W,⟨m0,w0⟩,turn⟩:=h2;subst e
 -- what stays Aa of the iterator's objects through the loop
 have stat:∀{H':Hp},(∀ b∈fp,H' b=Af)->∀ b∈fp,Hh X pI H' b:=λhn b hb=>⟨hn b hb,(f2 b hb).2⟩
 refine codeAny_forLoop_any (λn s'=>∃ i U' H',Inv X pI U' H' s'/\tn i s'.heap/\(∀ b∈fp,H' b=Af)/\W i n U' H') ?_ m0 ⟨0,U,H2,I2,st2,λb hb=>(f2 b hb).1,w0⟩
 rintro n s3 ⟨i,U3,H3,I3,st3,fr3,w3⟩;rcases turn i n U3 H3 w3 with ⟨stop,qn⟩|⟨go,N,hN,step⟩
 .refine Ej hp (thn (T.done X rfl rfl rfl hc i pI s3 U3 H3 X.xe I3 (stat fr3) st3 stop) λr s4 ⟨hr,I4⟩=>?_)
  subst hr;exact Iq ⟨U3,H3,I4,qn⟩
 .refine Ej hp (thn (T.item X rfl rfl rfl hc i pI s3 U3 H3 X.xe I3 (stat fr3) st3 go) λr s4 ⟨u,hr,h4⟩=>?_)
  subst hr;refine Ej hp (thn h4 λ_ s5 ⟨x,H5,I5,r5,y5,st5,fr5⟩=>?_)
  have I5':=I5.pinned (stat fr5) (T.obj _ _ st5);refine Ej hp (thn (hg _ s5 U3 H5 x u _ I5' r5 (step x H5 y5)) λ_ s6 ⟨U6,H6,I6,q6⟩=>?_)
  refine Ej hp (thn (hb _ s6 U6 H6 _ I6 q6) λf s7 q7=>?_)
  have again:∀{U7:St}{H7:Hp},Inv X (pI++KA fp s5.heap) U7 H7 s7->N U7 H7->∃ m,m<n/\∃ i U' H',Inv X pI U' H' s7/\tn i s7.heap/\(∀ b∈fp,H' b=Af)/\W i m U' H':=λ{U7 H7} I7 n7=>by
   obtain⟨m',hm,w7⟩:=hN U7 H7 n7;refine⟨m',hm,i+1,U7,H7,I7.unpinned,T.keep _ _ _ st5 λb hb o e=>(I7.pin (b,o) (Bw _ (Bw _ (Nq hb e)))).1,λb hb=>?_,w7⟩
   obtain⟨o,e,d⟩:=T.obj _ _ st5 b hb;exact(I7.pin (b,o) (Bw _ (Bw _ (Nq hb e)))).2.1
  cases f with
  |next=>obtain⟨U7,H7,I7,n7⟩:=q7;exact again I7 n7
  |cont=>obtain⟨U7,H7,I7,n7⟩:=q7;exact again I7 n7
  |brk=>obtain⟨U7,H7,I7,q7⟩:=q7;exact⟨U7,H7,I7.unpinned,q7⟩
  |ret v=>obtain⟨x7,U7,H7,I7,r7,q7⟩:=q7;exact⟨x7,U7,H7,I7.unpinned,r7,q7⟩
end
abbrev R2:=V->V->Hp->VK->Prop
variable{r:R2}
noncomputable def OpR(X:Cx)(f:Ai->Ai->Hr Ai)(r:R2):Prop:=
 ∀(pI:Pn)(s:As)(U:St)(H:Hp)(x y:V)(v u:Ai)(Q:VK),Inv X pI U H s->BP x v->BP y u->r x y H Q ->
  Az (model X.prog X.w) X.A (f v u) (EP X pI U Q) X.xe s
noncomputable def UnR(X:Cx)(f:Ai->Hr Ai)(r:V->Hp->VK->Prop):Prop:=
 ∀(pI:Pn)(s:As)(U:St)(H:Hp)(x:V)(v:Ai)(Q:VK),Inv X pI U H s->BP x v->r x H Q ->
  Az (model X.prog X.w) X.A (f v) (EP X pI U Q) X.xe s
noncomputable def Ig(X:Cx)(f:Ai)(r:Ac V->Hp->VK->Prop):Prop:=
 ∀(pI:Pn)(s:As)(U:St)(H:Hp)(xs:Ac V)(us:Ac Ai)(Q:VK),Inv X pI U H s->Bk xs us->r xs H Q ->
  Az (model X.prog X.w) X.A (call f us) (EP X pI U Q) X.xe s
noncomputable def eO(X:Cx)(r:V->Hp->(Al->Hp->Prop)->Prop):Prop:=
 ∀(pI:Pn)(s:As)(U:St)(H:Hp)(x:V)(v:Ai)(Q:Al->Hp->Prop),Inv X pI U H s->BP x v->r x H Q ->
  Az (model X.prog X.w) X.A (truthy v) (TP X pI U Q) X.xe s
def tOp(r:R2)(ta tb:TE):TE:=λU H Q=>ta U H λx H1=>tb U H1 λy H2=>r x y H2 Q
def tUn(r:V->Hp->VK->Prop)(ta:TE):TE:=λU H Q=>ta U H λx H1=>r x H1 Q
def rI(C:Ad->Ad->Prop)(g:Ad->Ad->V):R2:=λx y H Q=>∃ i j,x=.int i/\y=.int j/\C i j/\Q (g i j) H
def rI0(g:Ad->Ad->V):R2:=λx y H Q=>∃ i j,x=.int i/\y=.int j/\Q (g i j) H
def rU(g:Ad->V):V->Hp->VK->Prop:=λx H Q=>∃ i,x=.int i/\Q (g i) H
section
variable{X:Cx}{a b c:Ao}{ta tb tc:TE}{pos:AX}
theorem O0(ha:PE X a ta)(hb:PE X b tb){R:V->V->Hp->Prop}(I:Inv X pI U H s)(h:ta U H λx H1=>tb U H1 λy H2=>R x y H2){Q:Vq}(hf:∀ v u s2 x y H2,Inv X pI U H2 s2->BP x v->BP y u->R x y H2->Az (model X.prog X.w) X.A (f v u) Q X.xe s2):Az (model X.prog X.w) X.A (eval a X.env) (λv s₁=>Az (model X.prog X.w) X.A (eval b X.env) (λu s₂=>Az (model X.prog X.w) X.A (f v u) Q X.xe s₂) X.xe s₁) X.xe s:=by
 refine thn (ha pI s U H _ I h) λv s1 ⟨x,H1,I1,r1,q1⟩=>?_
 refine thn (hb pI s1 U H1 _ I1 q1) λu s2 ⟨y,H2,I2,r2,q2⟩=>?_
 exact hf v u s2 x y H2 I2 r1 r2 q2
theorem Xa{op:Gu}(ho:OpR X (Cw op) r)(ha:PE X a ta)(hb:PE X b tb):PE X (.BinOp a op b pos) (tOp r ta tb):=by
 intro pI s U H Q I h;exact wpAny_BinOp (O0 ha hb I h λv u s2 x y H2 I2 rx ry q=>ho pI s2 U H2 x y v u Q I2 rx ry q)
theorem ml{op:J7}{r:V->Hp->VK->Prop}(ho:UnR X (unaryOp op) r)(ha:PE X a ta):PE X (.UnaryOp op a pos) (tUn r ta):=by
 intro pI s U H Q I h;exact UnaryOp_ (thn (ha pI s U H _ I h) λv s1 ⟨x,H1,I1,r1,q1⟩=>ho pI s1 U H1 x v Q I1 r1 q1)
theorem opI{C:Ad->Ad->Prop}(rule:∀(i j:Ad)(t u:DV)(s:As)(Q:Vq)(E:Vq),C i j->Q (.int (g i j) s.toks) {s with toks:=s.toks+1}->Az (model X.prog X.w) X.A (f (.int i t) (.int j u)) Q E s):OpR X f (rI C λi j=>.int (g i j)):=by
 intro pI s U H x y v u Q I rx ry h;obtain⟨i,j,rfl,rfl,hc,q⟩:=h;obtain⟨t,rfl⟩:=rx;obtain⟨t',rfl⟩:=ry;exact rule i j t t' s _ _ hc ⟨.int (g i j),H,I.tok _,⟨_,rfl⟩,q⟩
theorem Sk(rule:∀(i j:Ad)(t u:DV)(s:As)(Q:Vq)(E:Vq),Q (.int (g i j) s.toks) {s with toks:=s.toks+1}->Az (model X.prog X.w) X.A (f (.int i t) (.int j u)) Q E s):OpR X f (rI0 λi j=>.int (g i j)):=by
 intro pI s U H x y v u Q I rx ry h;obtain⟨i,j,rfl,rfl,q⟩:=h;obtain⟨t,rfl⟩:=rx;obtain⟨t',rfl⟩:=ry;exact rule i j t t' s _ _ ⟨.int (g i j),H,I.tok _,⟨_,rfl⟩,q⟩
theorem Ox{g:Ad->Ad->Al}(rule:∀(i j:Ad)(t u:DV)(s:As)(Q:Vq)(E:Vq),Q (.bool (g i j)) s->Az (model X.prog X.w) X.A (f (.int i t) (.int j u)) Q E s):OpR X f (rI0 λi j=>.bl (g i j)):=by
 intro pI s U H x y v u Q I rx ry h;obtain⟨i,j,rfl,rfl,q⟩:=h;obtain⟨t,rfl⟩:=rx;obtain⟨t',rfl⟩:=ry;exact rule i j t t' s _ _ ⟨.bl (g i j),H,I,rfl,q⟩
def eV(i j:Ad):Prop:=0<j/\j<1073741824
def eU(i j:Ad):Prop:=0<=j/\j<=1000000/\i.natAbs<2 ^ 64
def OH(i j:Ad):Prop:=(-(2 ^ 64)<i/\i<2 ^ 64)\/(-(2 ^ 64)<j/\j<2 ^ 64)
theorem OH.ok{i j:Ad}(h:OH i j):L9 i j:=by
 rcases h with ⟨h1,h2⟩|⟨h1,h2⟩
 .exact .of_left (intBits_le_64 h1 h2)
 .exact .of_right (intBits_le_64 h1 h2)
theorem zS:OpR X (Cw .Add) (rI0 λi j=>.int (i+j)):=Sk λ_ _ _ _ _ _ _ q=>add_int q
theorem zK:OpR X (Cw .Sub) (rI0 λi j=>.int (i-j)):=Sk λ_ _ _ _ _ _ _ q=>sub_int q
theorem tN:OpR X (Cw .FloorDiv) (rI eV λi j=>.int (i/j)):=opI λi j _ _ _ _ _ hc q=>by
 have h1:(0:Ad)<j:=hc.1;have h2:j<1073741824:=hc.2;exact floordiv_int (by omega) (by rw[Int.fdiv_eq_ediv_of_nonneg i (by omega)];exact q) (.inl (PyProof.noPylong_small (by omega)))
theorem zP:OpR X (Cw .Mod) (rI (λ_ j=>0<j) λi j=>.int (i%j)):=opI λi j _ _ _ _ _ hc q=>by
 have h1:(0:Ad)<j:=hc;exact mod_int' (by omega) (by rw[Int.fmod_eq_emod_of_nonneg i (by omega)];exact q)
theorem zL:OpR X (Cw .Pow) (rI eU λi j=>.int (i ^ j.toNat)):=opI λ_ _ _ _ _ _ _ hc q=>pow_int_small hc.1 hc.2.1 hc.2.2 q
theorem unI{f:Ai->Hr Ai}{g:Ad->Ad}(rule:∀(i:Ad)(t:DV)(s:As)(Q:Vq)(E:Vq),Q (.int (g i) s.toks) {s with toks:=s.toks+1}->Az (model X.prog X.w) X.A (f (.int i t)) Q E s):UnR X f (rU λi=>.int (g i)):=by
 intro pI s U H x v Q I rx h;obtain⟨i,rfl,q⟩:=h;obtain⟨t,rfl⟩:=rx;exact rule i t s _ _ ⟨.int (g i),H,I.tok _,⟨_,rfl⟩,q⟩
theorem yO:UnR X (unaryOp .USub) (rU λi=>.int (-i)):=unI λ_ _ _ _ _ q=>neg_int q
end
section
variable{X:Cx}{a b c:Ao}{ta tb tc:TE}{pos:AX}
theorem Wi{Q:VK}{k k':Al}(I:Inv X pI U H s)(q:Q (.bl k) H)(e:k=k'):EP X pI U Q (.bool k') s:=by
 subst e;exact⟨.bl k,H,I,rfl,q⟩
theorem bJ:OpR X (CO .Lt) (rI0 λi j=>.bl (decide (i<j))):=Ox λ_ _ _ _ _ _ _ q=>lt_int q
theorem bK:OpR X (CO .LtE) (rI0 λi j=>.bl (decide (i<=j))):=Ox λ_ _ _ _ _ _ _ q=>le_int q
theorem bN:OpR X (CO .Gt) (rI0 λi j=>.bl (decide (j<i))):=Ox λ_ _ _ _ _ _ _ q=>gt_int q
theorem bO:OpR X (CO .GtE) (rI0 λi j=>.bl (decide (j<=i))):=Ox λ_ _ _ _ _ _ _ q=>ge_int q
theorem zQ:OpR X (CO .Is) (λx y H Q=>y=.non/\Q (.bl (decide (x=.non))) H):=by
 intro pI s U H x y v u Q I rx ry h;obtain⟨rfl,q⟩:=h;cases ry;refine is_none_gen (Wi I q ?_);cases x<;>first
  |(cases rx;rfl)
  |(obtain⟨t,rfl⟩:=rx;rfl)
theorem tL:OpR X (CO .IsNot) (λx y H Q=>y=.non/\Q (.bl (!decide (x=.non))) H):=by
 intro pI s U H x y v u Q I rx ry h;obtain⟨rfl,q⟩:=h;cases ry;refine isnot_none_gen (Wi I q ?_);cases x<;>first
  |(cases rx;rfl)
  |(obtain⟨t,rfl⟩:=rx;rfl)
theorem sV(ho:OpR X (CO op) r)(ha:PE X a ta)(hb:PE X b tb)(hm:Hs op b=Ae):PE X (.Compare a [op] [b] pos) (tOp r ta tb):=by
 intro pI s U H Q I h;exact wpAny_Compare1 (O0 ha hb I h λv u s2 x y H2 I2 rx ry q=>ho pI s2 U H2 x y v u Q I2 rx ry q) hm
def W7(t:TE):TT:=λU H Q=>t U H λx H'=>∃ k,x=.bl k/\Q k H'
theorem pT(ho:OpR X (CO op) r)(ha:PE X a ta)(hb:PE X b tb)(hm:Hs op b=Ae):PT X (.Compare a [op] [b] pos) (W7 (tOp r ta tb)):=by
 intro pI s U H Q I h;refine wpAny_isTrue_Compare1 (thn (ha pI s U H _ I h) λv s1 ⟨x,H1,I1,r1,q1⟩=>thn (hb pI s1 U H1 _ I1 q1) λu s2 ⟨y,H2,I2,r2,q2⟩=>
  thn (ho pI s2 U H2 x y v u _ I2 r1 r2 q2) λc s3 ⟨z,H3,I3,r3,k,e,q3⟩=>?_) hm
 subst e;cases r3;exact C1 ⟨H3,I3,q3⟩
def Wm(r r':R2)(ta tb tc:TE):TE:=λU H Q=>ta U H λx H1=>tb U H1 λy H2=>r x y H2 λz H3=>∃ k,z=.bl k /\
 (if k=Aa then tc U H3 λw' H4=>r' y w' H4 Q else Q (.bl Ae) H3)
theorem mU{op':DR}{r':R2}(ho:OpR X (CO op) r)(ho':OpR X (CO op') r')(ha:PE X a ta)(hb:PE X b tb)(hc:PE X c tc)(hm:JK [op,op'] [b,c]=Ae:=by with_unfolding_all rfl):PE X (.Compare a [op,op'] [b,c] pos) (Wm r r' ta tb tc):=by
 intro pI s U H Q I h;refine Compare_chain (thn (ha pI s U H _ I h) λv s1 ⟨x,H1,I1,r1,q1⟩=>chain_link (thn (hb pI s1 U H1 _ I1 q1) λu s2 ⟨y,H2,I2,r2,q2⟩=>
  thn (ho pI s2 U H2 x y v u _ I2 r1 r2 q2) λd s3 ⟨z,H3,I3,r3,k,e,q3⟩=>?_)) hm
 subst e;cases r3;refine C1 ?_;cases k with
 |false=>exact ite_ff ⟨.bl Ae,H3,I3,rfl,q3⟩
 |true=>exact ite_tt (chain_last (thn (hc pI s3 U H3 _ I3 q3) λw' s4 ⟨z',H4,I4,r4,q4⟩=>ho' pI s4 U H4 y z' u w' Q I4 r2 r4 q4))
theorem mO{op':DR}{r':R2}(ho:OpR X (CO op) r)(ho':OpR X (CO op') r')(ha:PE X a ta)(hb:PE X b tb)(hc:PE X c tc)(hm:JK [op,op'] [b,c]=Ae:=by with_unfolding_all rfl):PT X (.Compare a [op,op'] [b,c] pos) (W7 (Wm r r' ta tb tc)):=by
 intro pI s U H Q I h;refine isTrue_chain (thn (ha pI s U H _ I h) λv s1 ⟨x,H1,I1,r1,q1⟩=>test_link (thn (hb pI s1 U H1 _ I1 q1) λu s2 ⟨y,H2,I2,r2,q2⟩=>
  thn (ho pI s2 U H2 x y v u _ I2 r1 r2 q2) λd s3 ⟨z,H3,I3,r3,k,e,q3⟩=>?_)) hm
 subst e;cases r3;refine C1 ?_;cases k with
 |false=>
  obtain⟨k',e',q'⟩:=q3;cases e';exact ite_ff ⟨H3,I3,q'⟩
 |true=>
  refine ite_tt (test_last (thn (hc pI s3 U H3 _ I3 q3) λw' s4 ⟨z',H4,I4,r4,q4⟩=>thn (ho' pI s4 U H4 y z' u w' _ I4 r2 r4 q4) λd' s5 ⟨z2,H5,I5,r5,k2,e2,q5⟩=>?_))
  subst e2;cases r5;exact C1 ⟨H5,I5,q5⟩
noncomputable def SY(K:Fg)(x:V)(H:Hp)(k:Al):Prop:=
  match x with
  |.non=>k=Ae
  |.bl b=>k=b
  |.int i=>k=(i != 0)
  |.str y=>y.length<=sizeLine/\k=((y.length:Ad) != 0)
  |.byt y=>y.size<=sizeLine/\k=((y.size:Ad) != 0)
  |.ref p=>(∃ xs,SqL K H p xs/\k=!xs.isEmpty)\/(∃ xs,SqT K H p xs/\k=!xs.isEmpty)\/∃ kvs,H p=Ab (.dK kvs)/\k=!kvs.isEmpty
  |_=>Bu
theorem iJ{κ:Type}{kvs:Ac (κ×V)}{vs:Ac (κ×Ai)}(r:KV kvs vs):(!vs.isEmpty)=!kvs.isEmpty:=by
 cases r<;>rfl
theorem Tj{its:Ac Ai}(r:Bk xs its):(!its.toArray.isEmpty)=!xs.isEmpty:=by
 cases r<;>simp
theorem KC:(sizeLine:Ag)<2 ^ 63:=by rw[E1];decide
theorem yR:eO X (λx H Q=>∃ k,SY X.K x H k/\Q k H):=by
 intro pI s U H x v Q I rx h;obtain⟨k,e,q⟩:=h;have hl:=KC;have hs:sizeLine=16777216:=E1;cases x with
 |non=>
  cases rx;have e':k=Ae:=e;subst e';exact truthy_none ⟨H,I,q⟩
 |bl b=>
  cases rx;have e':k=b:=e;subst e';exact C1 ⟨H,I,q⟩
 |int i=>
  obtain⟨t,rfl⟩:=rx;have e':k=(i != 0):=e;subst e';exact PySem.P.truthy_int ⟨H,I,q⟩
 |str y=>
  obtain⟨t,rfl⟩:=rx;obtain⟨hy,e'⟩:y.length<=sizeLine/\k=((y.length:Ad) != 0):=e;subst e';exact PySem.P.truthy_str (by omega) ⟨H,I.tok _,q⟩
 |byt y=>
  obtain⟨t,rfl⟩:=rx;obtain⟨hy,e'⟩:y.size<=sizeLine/\k=((y.size:Ad) != 0):=e;subst e';exact PySem.W.truthy_bytes (by omega) ⟨H,I.tok _,q⟩
 |ref p=>
  cases rx;have e':(∃ xs,SqL X.K H p xs/\k=!xs.isEmpty)\/(∃ xs,SqT X.K H p xs/\k=!xs.isEmpty)\/∃ kvs,H p=Ab (.dK kvs)/\k=!kvs.isEmpty:=e;rcases e' with ⟨xs,hx,e'⟩|⟨xs,hx,e'⟩|⟨kvs,hx,e'⟩
  .subst e';obtain⟨its,r,pl,hz⟩:=I.list hx;have hlen:=r.length;exact wpAny_truthy_list pl.isList (by simp only[AG];omega) ⟨H,I.tok _,by rw[Tj r];exact q⟩
  .subst e';obtain⟨its,r,pl,hz⟩:=I.tuple hx;have hlen:=r.length;exact truthy_tuple pl (by simp only[AG];omega) ⟨H,I.tok _,by rw[Tj r];exact q⟩
  .subst e';obtain⟨hz,hS,vs,r,m⟩:kvs.length<=sizeLine/\(p==Ez)=Ae/\∃ vs,KV kvs vs/\s.heap.DictOf (QZ X.prog X.w) p vs:=I.hok p _ hx;have hlen:kvs.length=vs.length:=ZF r;exact wpAny_truthy_dict hS m (by omega) ⟨H,I.tok _,by rw[iJ r];exact q⟩
 |_=>exact(show Bu from e).elim
theorem mM(ha:PE X a ta)(he:∀ whole,IP a X.env whole=(do let v <-whole;IS a.pos;holding [v] (truthy v))):PT X a (λU H Q=>ta U H λx H'=>∃ k,SY X.K x H' k/\Q k H'):=by
 intro pI s U H Q I h;exact isTrue_plain (thn (ha pI s U H _ I h) λv s1 ⟨x,H1,I1,r1,q1⟩=>yR pI s1 U H1 x v Q I1 r1 q1) (he _)
theorem iF:OpR X (Cw .Add) (λx y H Q=>∃ i j,x=.str i/\y=.str j/\i.length+j.length<=sizeLine/\Q (.str (i++j)) H):=by
 intro pI s U H x y v u Q I rx ry h;obtain⟨i,j,rfl,rfl,hz,q⟩:=h;obtain⟨t,rfl⟩:=rx;obtain⟨t',rfl⟩:=ry;exact add_str (λt' tk=>⟨.str (i++j),H,I.tok _,⟨_,rfl⟩,q⟩) hz
theorem IC{x:V}(r:Bk [x] us):∃ u,us=[u]/\BP x u:=by
 cases r with
 |cons r1 r2=>cases r2;exact⟨_,rfl,r1⟩
theorem Rt{x y:V}(r:Bk [x,y] us):∃ u w',us=[u,w']/\BP x u/\BP y w':=by
 cases r with
 |cons r1 r2=>
  cases r2 with
  |cons r3 r4=>cases r4;exact⟨_,_,rfl,r1,r3⟩
theorem kL(hc:X.calm=Aa):Ig X (.builtin "max") (λxs H Q=>∃ i j,xs=[.int i,.int j]/\Q (.int (if j>i then j else i)) H):=by
 intro pI s U H xs us Q I r h;obtain⟨i,j,rfl,q⟩:=h;obtain⟨u,w',rfl,⟨t,rfl⟩,⟨t',rfl⟩⟩:=Rt r;refine max_two_ints (I.ok.hd hc) λh' tk k=>⟨_,H,I.kept k,?_,q⟩
 by_cases hj:j>i
 .rw[AF hj,AF hj];exact⟨_,rfl⟩
 .rw[AN hj,AN hj];exact⟨_,rfl⟩
theorem kK(hc:X.calm=Aa):Ig X (.builtin "min") (λxs H Q=>∃ i j,xs=[.int i,.int j]/\Q (.int (if j<i then j else i)) H):=by
 intro pI s U H xs us Q I r h;obtain⟨i,j,rfl,q⟩:=h;obtain⟨u,w',rfl,⟨t,rfl⟩,⟨t',rfl⟩⟩:=Rt r;refine min_two_ints (I.ok.hd hc) λh' tk k=>⟨_,H,I.kept k,?_,q⟩
 by_cases hj:j<i
 .rw[AF hj,AF hj];exact⟨_,rfl⟩
 .rw[AN hj,AN hj];exact⟨_,rfl⟩
end
structure ObjM (h:AJ) (x dx C:Ak) (mA:An->Aq Ai):Prop where
 obj:h.get? x=Ab (Ei C dx)
 ns:h.Ns1 dx mA
 ne:dx≠x
theorem jA(n:h.Ns1 dx mA):∃ od,h.get? dx=Ab od/\∀ name,IM name od=Ab (mA name):=by
 obtain⟨o,es,ep,ho,hd,hk,_,hm⟩:=n;refine⟨o,ho,λname=>?_⟩
 have e:=hm name;unfold nsFind findBy at e;rw[<-Array.find?_toList]at e;unfold IM;rw[hd];dsimp only;split
 .rename_i y q;rw[q]at e;exact congrArg Ab e
 .rename_i q;rw[q]at e;have a:es.toList.any (·.refKey)=Ae:=by
   rw[X9];intro y hy;obtain⟨z,t,hkey⟩:=hk y (XM.mp hy);simp[DictEntry.refKey,hkey]
  have a':¬ es.toList.any (·.refKey)=Aa:=by rw[a];exact AM
  rw[AN a'];exact congrArg Ab e
theorem ObjM.look{x C:Ak}(I:ObjM h x dx C mA):∃ od,PySem.W.InstAt h x (Ei C dx) C (Ab od)/\∀ name,IM name od=Ab (mA name):=
 let ⟨od,ho,hl⟩:=jA I.ns
 ⟨od,⟨I.obj,rfl,rfl,ho⟩,hl⟩
section
variable{prog:AT}{w:AD}{A:Bc}{E:Vq}{s:As}{K:Fg}{x dx C f:Ak}{mA:An->Aq Ai}{name:An}{v:Ai}
end
section
variable{P:AT}{w:AD}{H H':Hp}{h h':AJ}{a C dx:Ak}{fs fs':Ac (An×V)}
end
structure Cls (K:Fg) (C:Ak):Prop where
 pg:Z_1 K C Str.empty=Aa
 hd:PySem.W.hasDictIn K C=Aa
 po:PySem.W.plainOver K C=Aa
 sa:CZ K (.ref C) "__setattr__" = Ab (Ab (.builtin "object.__setattr__"))
theorem Cls.get{K:Fg}{C:Ak}(c:Cls K C)(f:An):Z_1 K C f=Aa:=c.pg
section
variable{X:Cx}{pI:Pn}{U:St}{H:Hp}{s:As}{a C dx:Ak}{fs:Ac (An×V)}{f:An}{v:V}{A:Bc}{E:Vq}
theorem Inv.made(I:Inv X pI U H s):Inv X pI U (upd (upd H s.heap.objs.size (.own (s.heap.objs.size+1))) (s.heap.objs.size+1) (.ins C s.heap.objs.size [])) {s with heap:=(s.heap.push Dq).push (Ei C s.heap.objs.size)}:=by
  have e1:(s.heap.push Dq).get? s.heap.objs.size=Ab Dq:=Ay s.heap rfl;have e2:((s.heap.push Dq).push (Ei C s.heap.objs.size)).get? (s.heap.objs.size+1)=Ab (Ei C s.heap.objs.size):=by
    have:=Ay (s.heap.push Dq) (o:=Ei C s.heap.objs.size) rfl
    rwa [Bz]at this
  have e3:(s.heap.push Dq).Ns s.heap.objs.size (λ_=>Af):=⟨Dq,#[],_,e1,rfl,(λe he=>absurd he (by simp)),λ_=>rfl⟩
  have I1:=I.laid (a:=s.heap.objs.size) (o:=.own (s.heap.objs.size+1)) (h':=s.heap.push Dq) (t':=s.toks) (λb u q=>Ar _ q) (A1 _) ⟨_,e1⟩
  refine I1.laid (a:=s.heap.objs.size+1) (o:=.ins C s.heap.objs.size []) (t':=s.toks) (λb u q=>Ar _ q) (JA (Bz _ _)) ?_
  have ne:s.heap.objs.size≠s.heap.objs.size+1:=Bb (Fm _);refine⟨by rw[DF ne,Iw],Gh _,ne,e2,λ_=>Af,(Heap.Ns1.of_empty e3).at λo q=>Ar _ q,λ_=>True.intro,λy hy=>absurd rfl hy⟩
end
section
variable{X:Cx}{o e value:Ao}{f:An}{pos pos' tpos:AX}{ta tv:TE}
end
section
variable{X:Cx}{pI:Pn}{U:St}{H:Hp}{s:As}{A:Bc}{E:Vq}{Q:Vq}{c:Ai}{b:Al}
end
structure Room (k:Ag) (A:Bc):Prop where
 hd:A.handled=Af
 dp:A.depth+3*k+5<aC
 un:A.units+16*k+200<BV
 gd:A.guards=Ab []
theorem Room.mono{j:Ag}{A:Bc}(r:Room k A)(h:j<=k):Room j A:=⟨r.hd,by have:=r.dp;omega,by have:=r.un;omega,r.gd⟩
theorem Room.deeper{A:Bc}(r:Room (k+1) A)(env:C9):Room k (A.deeper env):=
 ⟨r.hd,by have:=r.dp;show A.depth+1+3*k+5<_;omega,by have:=r.un;show A.units+3+16*k+200<_;omega,r.gd⟩
theorem Room.depth{A:Bc}(r:Room k A):A.depth<aC:=by have:=r.dp;omega
theorem Room.units{A:Bc}(r:Room k A):A.units+64<BV:=by have:=r.un;omega
def dQ:TA:=λ_ H Q=>Q [] H
def kh(ta:TE)(tr:TA):TA:=λU H Q=>ta U H λx H1=>tr U H1 λxs H2=>Q (x::xs) H2
section
variable{X:Cx}{e:Ao}{es:Ac Ao}{te:TE}{t:TA}{pos:AX}
theorem Hc:PA X [] dQ:=λ_ _ _ _ H Q I h=>YT ⟨[],H,I,.nil,h⟩
theorem Fe(ha:PE X e te)(hr:PA X es t)(hs:AB (e::es) X.env=(Ae,eval e X.env)::AB es X.env:=by rfl):PA X (e::es) (kh te t):=by
 intro pos pI s U H Q I h;rw[hs];show Az _ _ (spliced ((Ae,eval e X.env)::Ct pos (AB es X.env))) _ _ s;refine YS (thn (ha pI s U H _ I h) λu s1 ⟨x,H1,I1,r1,q1⟩=>?_)
 exact thn (hr pos pI s1 U H1 _ I1 q1) λus s2 ⟨xs,H2,I2,r2,q2⟩=>⟨x::xs,H2,I2,.cons r1 r2,q2⟩
def dJ(t:TA):TE:=λU H Q=>t U H λxs H1=>xs.length<=sizeLine/\∀ p,H1 p=Af->Q (.ref p) (upd H1 p (.tup xs))
def dR(t:TA):TE:=λU H Q=>t U H λxs H1=>xs.length<=sizeLine/\∀ p,H1 p=Af->Q (.ref p) (upd H1 p (.lst xs))
theorem aq{x1}(h:PA X es t):PE X (.Tuple es x1 pos) (dJ t):=by
 intro pI s U H Q I hq;refine wpAny_Tuple_spliced (thn (h pos pI s U H _ I hq) λus s1 ⟨xs,H1,I1,r,z,q⟩=>⟨by rw[<-r.length];exact z,?_⟩)
 have hf:H1 s1.heap.objs.size=Af:=I1.hok.fresh (A1 _);refine⟨.ref s1.heap.objs.size,upd H1 s1.heap.objs.size (.tup xs),I1.laid (t':=s1.toks) (λb u e=>Ar _ e) (A1 _) ?_,rfl,q _ hf⟩
 exact⟨z,us,r,⟨_,Ay _ rfl,rfl,_,rfl⟩⟩
theorem b8(h:PA X es t):PE X (.List es pos) (dR t):=by
 intro pI s U H Q I hq;refine wpAny_List_spliced (thn (h pos pI s U H _ I hq) λus s1 ⟨xs,H1,I1,r,z,q⟩=>⟨by rw[<-r.length];exact z,?_⟩)
 have hf:H1 s1.heap.objs.size=Af:=I1.hok.fresh (A1 _);refine⟨.ref s1.heap.objs.size,upd H1 s1.heap.objs.size (.lst xs),I1.laid (t':=s1.toks) (λb u e=>Ar _ e) (A1 _) ?_,rfl,q _ hf⟩
 exact⟨z,us,0,r,Ay _ rfl⟩
end
abbrev Sp:=Ac V->Hp->VK->XK->Prop
variable{sp:Sp}
abbrev CXT:=Ac C9->Hp->As->XK->Ai->As->Prop
variable{CX:CXT}
structure Env0 (P:AT) (w:AD) (K:Fg) (mg:An->Aq Ai) (base:AJ) (A:Bc) (outer:Ac C9) (s:As) (H:Hp):Prop where
 frames:A.frames=Ab outer
 mod:Mod K mg base
 bs:∀ b o,base.get? b=Ab o->s.heap.get? b=Ab o/\H b=Af
 bsz:base.objs.size<=s.heap.objs.size
 funs:s.heap.FunFrames base outer
 frf:∀ b∈frs outer,H b=Af
 hok:HOk P w H s.heap
 bare:FZ s.gens
noncomputable def CE(outer:Ac C9)(P:AT)(w:AD)(H:Hp)(s:As)(Q:VK)(u:Ai)(s':As):Prop:=
 ∃ v H',s'.os=s.os/\FZ s'.gens/\Un (frs outer) [] H H' s.heap s'.heap/\HOk P w H' s'.heap/\BP v u/\Q v H'
noncomputable def CR(CX:CXT)(outer:Ac C9)(P:AT)(w:AD)(H:Hp)(s:As)(Q:VK)(E:XK)(r:JD)(s':As):Prop:=
  match r with
  |.ok (.ret u)=>CE outer P w H s Q u s'
  |.ok _=>Bu
  |.error e=>CX outer H s E e s'
structure FnOk (P:AT) (w:AD) (K:Fg) (mg:An->Aq Ai) (base:AJ) (CX:CXT) (k:Ag) (f:Ak) (fd:Cv) (ps:Ac An) (sp:Sp):Prop where
 len:∀ vs H Q E,sp vs H Q E->vs.length=ps.length
 run:∀(A:Bc)(outer:Ac C9)(s:As)(H:Hp)(args:Args)(us:Ac Ai)(vs:Ac V)(Q:VK)(E:XK),Room k A->Env0 P w K mg base A outer s H->HJ s fd args (ps.zip us)->Bk vs us->sp vs H Q E ->
  F1 (model P w) A (.call (.ref f) args) (CR CX outer P w H s Q E) s
theorem FnOk.imp{w:AD}{K:Fg}{mg:An->Aq Ai}{base:AJ}{f:Ak}{sp':Sp}(F:FnOk P w K mg base CX k f fd ps sp)(h:∀ vs H Q E,sp' vs H Q E->sp vs H Q E):FnOk P w K mg base CX k f fd ps sp':=
 ⟨λvs H Q E q=>F.len vs H Q E (h _ _ _ _ q),λA outer s H args us vs Q E hr he hb hv hs=>F.run A outer s H args us vs Q E hr he hb hv (h _ _ _ _ hs)⟩
section
variable{X:Cx}{pI:Pn}{U:St}{H:Hp}{s s':As}
theorem Inv.env0(I:Inv X pI U H s):Env0 X.prog X.w X.K X.mg X.base X.A X.stack s H:=
 ⟨I.ok.frames,I.ok.mod,I.bs,Cn I.ok.bsz I.sz,I.stack,I.stkFree,I.hok,I.bare⟩
theorem Inv.after{Q:VK}(I:Inv X pI U H s)(h:CE X.stack X.prog X.w H s Q u s'):EP X pI U Q u s':=by
 obtain⟨v,H',os,bare,un,hok,r,q⟩:=h;obtain⟨hh,g,d,t,os'⟩:=s';obtain rfl:os'=s.os:=os;exact⟨v,H',I.call (h':=hh) (g':=g) (d':=d) (t':=t) (ch:=[]) un hok bare (λb z=>absurd z (by simp)),r,q⟩
end
def ki(sp:Sp)(dvs:Ac V)(E:XK)(t:TA):TE:=λU H Q=>t U H λvs H1=>sp (vs++dvs) H1 Q E
noncomputable def IB(K:Fg)(fd:Cv)(ps:Ac An)(ds:Ac Ai):Prop:=
 ∀(s:As)(us:Ac Ai),K.In s.heap->(us++ds).length=ps.length->HJ s fd ⟨us,[]⟩ (ps.zip (us++ds))
theorem IB.all{K:Fg}(h:∀ us:Ac Ai,us.length=ps.length->Mb fd ⟨us,[]⟩=pure (ps.zip us)):IB K fd ps []:=λs us _ hl=>by
 rw[Du]at hl ⊢;exact .of_eq (h us hl)
def LC(CX:CXT)(X:Cx)(E:XK):Prop:=∀(pI:Pn)(U:St)(H:Hp)(s:As)(e:Ai)(s':As),Inv X pI U H s->CX X.stack H s E e s'->X.xe e s'
section
variable{X:Cx}{CX:CXT}{k:Ag}{f C:Ak}{fd:Cv}{ps:Ac An}{sp:Sp}{dvs:Ac V}{ds:Ac Ai}{E:XK}{x m:An}{p pos apos:AX}{e o:Ao}{es:Ac Ao}{ta:TE}{t:TA}
theorem bj{Q:VK}(F:FnOk X.prog X.w X.K X.mg X.base CX k f fd ps sp)(hr:Room k X.A)(hb:IB X.K fd ps ds)(hd:Bk dvs ds)(hx:LC CX X E)(I:Inv X pI U H s)(r:Bk vs us)(h:sp (vs++dvs) H Q E):Az (model X.prog X.w) X.A (call (.ref f) us) (EP X pI U Q) X.xe s:=by
 have r2:Bk (vs++dvs) (us++ds):=r.append hd;have hl:(us++ds).length=ps.length:=by rw[<-r2.length];exact F.len _ _ _ _ h
 refine wpAny_call (JI (F.run X.A X.stack s H ⟨us,[]⟩ (us++ds) (vs++dvs) Q E hr I.env0 (hb s us I.kIn hl) r2 h) λr s' hq=>?_)
 cases r with
 |error e=>exact hx pI U H s e s' I hq
 |ok fl=>
  cases fl with
  |ret u=>exact I.after hq
  |next=>exact Eu hq
  |brk=>exact Eu hq
  |cont=>exact Eu hq
theorem VG(F:FnOk X.prog X.w X.K X.mg X.base CX k f fd ps sp)(hr:Room k X.A)(hg:Gl X x)(hm:X.mg x=Ab (.ref f))(hk:DO X.K (.ref f)=Aa)(hb:IB X.K fd ps ds)(hd:Bk dvs ds)(hx:LC CX X E)(ha:PA X (e::es) t)(hdb:(x==("__debug__" : An))=Ae:=by decide)(he:AB (e::es) X.env=(Ae,eval e X.env)::AB es X.env:=by rfl)(hpl:(Ct pos (AB es X.env)).any (·.1)=Ae:=by rfl):PE X (.Call (.Name x p) (e::es) [] pos) (ki sp dvs E t):=by
 intro pI s U H Q I h;refine Ho (sT I hg hm ?_ hdb);refine PySem.W.callWith_K (h₀:=X.base) I.ok.mod.kin hk (thn (ha pos pI s U H _ I h) λus s1 ⟨vs,H1,I1,r,q⟩=>⟨I1.kIn,?_⟩) he hpl
 exact bj F hr hb hd hx I1 r q
end
section
variable{X:Cx}{CX:CXT}{k:Ag}{f C:Ak}{fd:Cv}{ps ks:Ac An}{sp:Sp}{E:XK}{x m:An}{p pos apos kpos:AX}{e o:Ao}{es:Ac Ao}{kws:Ac Dy}{te ta:TE}{t tk:TA}{nm:Aq An}
variable{g:Ac Ai->Ac Ai->Ac Ai}{gV:Ac V->Ac V->Ac V}
end
structure FnScope (N P:Ac An) (sc:Cu):Prop where
 kind:sc.kind=.function
 co:sc.isCoroutine=Ae
 gen:sc.isGenerator=Ae
 nd:N.Nodup
 pre:N.take P.length=P
 par:∀ x∈P,sc.names.lookup x=Ab .local\/sc.names.lookup x=Ab .cell
 nofree:∀ y∈sc.names,y.2≠.free
theorem Ur{kindOf:An->Aq EF}{x:An}:∀{binds:Ac (An×Ai)}{m:An->Aq Ai},(∀ v,(x,v)∉binds)->IY kindOf binds m x=m x
 |[],_,_=>rfl
 |(n,v)::r,m,h=>by
  unfold IY;rw[Ur λw hw=>h w (Av _ hw)]
  split
  .have:x≠n:=by rintro rfl;exact h v Aw
   simp[this]
  .rfl
theorem Ut{kindOf:An->Aq EF}{x:An}:∀{binds:Ac (An×Ai)}{m:An->Aq Ai},(∀ v,(x,v)∉binds)->IX kindOf binds m x=m x
 |[],_,_=>rfl
 |(n,v)::r,m,h=>by
  unfold IX;rw[Ut λw hw=>h w (Av _ hw)]
  split
  .rfl
  .have:x≠n:=by rintro rfl;exact h v Aw
   simp[this]
theorem Us{kindOf:An->Aq EF}{x:An}{v:Ai}:∀{P:Ac An}{vs:Ac Ai}{i:Ag}{m:An->Aq Ai},P.Nodup->P[i]?=Ab x->vs[i]?=Ab v->kindOf x=Ab .local->IY kindOf (P.zip vs) m x=Ab v
 |[],_,_,_,_,h,_,_=>by simp at h
 |_::_,[],_,_,_,_,h,_=>by simp at h
 |p::P,w::vs,0,m,nd,h1,h2,hk=>by
  simp at h1 h2;subst h1;subst h2;show IY kindOf ((p,w)::P.zip vs) m p=_;unfold IY;rw[Ur λv hv=>(BJ.mp nd).1 (Io hv).1,AF hk]
  simp
 |p::P,w::vs,i+1,m,nd,h1,h2,hk=>by
  show IY kindOf ((p,w)::P.zip vs) m x=_;unfold IY;exact Us (i:=i) (BJ.mp nd).2 (by simpa using h1) (by simpa using h2) hk
theorem Uu{kindOf:An->Aq EF}{x:An}{v:Ai}:∀{P:Ac An}{vs:Ac Ai}{i:Ag}{m:An->Aq Ai},P.Nodup->P[i]?=Ab x->vs[i]?=Ab v->kindOf x≠Ab .local->IX kindOf (P.zip vs) m x=Ab v
 |[],_,_,_,_,h,_,_=>by simp at h
 |_::_,[],_,_,_,_,h,_=>by simp at h
 |p::P,w::vs,0,m,nd,h1,h2,hk=>by
  simp at h1 h2;subst h1;subst h2;show IX kindOf ((p,w)::P.zip vs) m p=_;unfold IX;rw[Ut λv hv=>(BJ.mp nd).1 (Io hv).1,AN hk]
  simp
 |p::P,w::vs,i+1,m,nd,h1,h2,hk=>by
  show IX kindOf ((p,w)::P.zip vs) m x=_;unfold IX;exact Uu (i:=i) (BJ.mp nd).2 (by simpa using h1) (by simpa using h2) hk
noncomputable def start(N:Ac An)(vs:Ac V):St:=vs.map Ab++G7 (N.length-vs.length) Af
noncomputable def Hf(CX:CXT)(P:AT)(w:AD)(K:Fg)(mg:An->Aq Ai)(base:AJ)(N:Ac An)(qual:An)(scope:Cu)(f:Ak)(cd:Ai)(A:Bc)(outer:Ac C9)(s:As)(H:Hp)(E:XK):Cx where
 prog:=P
 w:=w
 K:=K
 mg:=mg
 base:=base
 A:=A.deeper (FA qual scope s.heap.objs.size f cd)
 N:=N
 s₀:=s
 H₀:=H
 env:=FA qual scope s.heap.objs.size f cd
 outer:=outer
 stack:=FA qual scope s.heap.objs.size f cd::outer
 ex:=[]
 calm:=Aa
 fn:=λ_=>Aa
 pn:=[]
 xe:=λe s'=>Az (model P w) (A.deeper (FA qual scope s.heap.objs.size f cd)) (leaving (FA qual scope s.heap.objs.size f cd) e) (λ_ s''=>CX outer H s E e s'') (λe' s''=>CX outer H s E e' s'') s'
theorem UJ{sc:Cu}(h:sc.names.lookup x=Ab .cell):∃ c,(DP n sc.names []).lookup x=Ab c:=by
 have q:=ZY sc.names n [] (.inl h);exact YD.mp q
theorem jE{w:AD}{K:Fg}{mg:An->Aq Ai}{base:AJ}{N ps:Ac An}{f:Ak}{cd:Ai}{A:Bc}{outer:Ac C9}{s1:As}{E:XK}(S:FnScope N ps scope)(hd:A.handled=Af)(e0:Env0 P w K mg base A outer s H)(hl:vs.length=ps.length)(r:Bk vs us)(x:InCallC s s.heap.objs.size (IY (FA qual scope s.heap.objs.size f cd).kindOf (ps.zip us) λ_=>Af) (DP (s.heap.objs.size+1) scope.names []) (IX (FA qual scope s.heap.objs.size f cd).kindOf (ps.zip us) λ_=>Af) s1):Inv (Hf CX P w K mg base N qual scope f cd A outer s H E) [] (start N vs) H s1:=by
 have hpl:ps.length<=N.length:=by have:=congrArg Yp S.pre;rw[Gr]at this;omega
 obtain⟨h1,tk,rfl,hk⟩:=x.done;have noA:∀ b:Ak,b∉(Hf CX P w K mg base N qual scope f cd A outer s H E).ex:=λb z=>absurd (show b∈([]:Ac Ak) from z) (by simp)
 refine⟨⟨e0.mod,S.kind,rfl,rfl,A1 _,λy z c h1 h2=>?_,λy hy=>?_,λy c _ h=>?_,λ_=>hd,Around.frames_deeper e0.frames,.inr ⟨rfl,rfl⟩,λb z=>absurd z (noA b),e0.bs,e0.bsz,λb _ _=>noA b,λb z=>absurd z (noA b),e0.funs,e0.frf⟩,
  rfl,e0.bare,Un.kept hk,⟨_,x.toInCall.ns,λi y v h1 h2 h3=>?_⟩,λy c h=>⟨_,x.cell y c h⟩,e0.hok.fresh (A1 _),λy c h=>?_,λp hp=>absurd (show p∈([]:Pn) from hp) (by simp),e0.hok.kept hk,?_⟩
 .exact name_of_addr x.apart (C2 h1) (C2 h2)
 .have hy:scope.names.lookup y=Ab .cell\/scope.names.lookup y=Ab .free:=hy;rcases hy with hy|hy
  .exact UJ hy
  .exact absurd rfl (S.nofree _ (C2 hy))
 .exact E8 (x.above y c (C2 h))
 .have hi:i<vs.length:=by
   unfold start at h2;by_cases hi:i<vs.length
   .exact hi
   .rw[Yk (by simpa using hi)]at h2
    rw[Ym]at h2;split at h2<;>cases h2
  have ha:vs[i]?=Ab v:=by
   unfold start at h2;rw[FN (by simpa using hi),C0]at h2
   cases e:vs[i]? with
   |none=>rw[e]at h2;cases h2
   |some a=>rw[e]at h2;cases h2;rfl
  obtain⟨u,hu,rv⟩:=r.get ha;have hp:ps[i]?=Ab y:=by
   rw[<-S.pre,List.getElem?_take_of_lt (by omega)];exact h1
  have ndP:ps.Nodup:=by rw[<-S.pre];exact S.nd.sublist (HH _ _)
  refine⟨u,rv,?_⟩;rcases S.par y (DT hp) with k|k
  .exact .inl ⟨k,Us ndP hp hu k⟩
  .obtain⟨c,e⟩:=UJ (n:=s.heap.objs.size+1) k;refine .inr ⟨.inl k,c,e,?_⟩;have q:=x.cell y c e;rw[Uu ndP hp hu (by show scope.names.lookup y≠_;rw[k];decide)]at q
   exact q
 .exact e0.hok.fresh (E8 (x.above y c (C2 h)))
 .unfold start;show _=N.length;rw[A4,AV,Yt];omega
theorem Xm{w:AD}{K:Fg}{mg:An->Aq Ai}{base:AJ}{f:Ak}{name:An}{params:Arguments}{dV kV doc pm cdv ct oc:Ai}{an od:Aq Ak}{osl:A6 (Aq Ai)}{N ps:Ac An}(lk:K.lookup f=Ab ⟨oc,od,.func (Ec name qual params body scope dV kV doc pm an cdv ct),osl⟩)(hcd:F0 K cdv qual=Aa)(S:FnScope N ps scope)(len:∀ vs H Q E,sp vs H Q E->vs.length=ps.length)(hbody:∀(A:Bc)(outer:Ac C9)(s:As)(H:Hp)(vs:Ac V)(Q:VK)(E:XK),Room k (A.deeper (FA qual scope s.heap.objs.size f cdv))->sp vs H Q E ->
   ∃ t,PSs (Hf CX P w K mg base N qual scope f cdv A outer s H E) body t/\t {nx:=λ_ H'=>Q .non H',rt:=Q} (start N vs) H):FnOk P w K mg base CX (k+1) f (Ec name qual params body scope dV kV doc pm an cdv ct) ps sp:=by
 refine⟨len,λA outer s H args us vs Q E hr e0 hb r hsp=>?_⟩
 have hl:=len _ _ _ _ hsp;have KX:K.In s.heap:=e0.mod.kin.keeps λb o e=>(e0.bs b o e).1
 have lim:s.heap.NoLimit:=e0.mod.nolimit.keeps λb o e=>(e0.bs b o e).1
 have hkind:∀ y∈ps.zip us,scope.names.lookup y.1=Ab .local\/(scope.names.lookup y.1=Ab .cell/\((DP (s.heap.objs.size+1) scope.names []).lookup y.1).isSome=Aa):=λ⟨n,v⟩ hy=>by
  rcases S.par n (Io hy).1 with q|q
  .exact .inl q
  .exact .inr ⟨q,ZY _ _ _ (.inl q)⟩
 refine codeAny_call_function hr.depth (KX _ _ lk) rfl S.co S.gen rfl (PySem.W.codeRec_of KX hcd) (hb _ _ _ _ ?_);refine wpAny_newFunctionEnv_cells S.kind hkind λenv he s1 x=>?_
 subst he;refine⟨lim.keeps x.toInCall.keep,codeAny_func ?_⟩;obtain⟨t,ht,hq⟩:=hbody A outer s H vs Q E (hr.deeper _) hsp;have I:Inv (Hf CX P w K mg base N qual scope f cdv A outer s H E) [] (start N vs) H s1:=jE S hr.hd e0 hl r x;refine CW (ht [] s1 (start N vs) H _ I hq) (λfl s' hs=>?_) λe s' hs=>hs
 have fin:∀{U':St}{H':Hp}{v:V}{u:Ai},Inv (Hf CX P w K mg base N qual scope f cdv A outer s H E) [] U' H' s'->BP v u->Q v H'->CE outer P w H s Q u s':=
  λ{U' H' v u} J rv q=>⟨v,H',J.os,J.bare,J.base,J.hok,rv,q⟩
 cases fl with
 |ret u=>
  obtain⟨v,U',H',J,rv,q⟩:=hs;exact fin J rv q
 |next=>
  obtain⟨U',H',J,q⟩:=hs;exact fin (v:=V.non) (u:=DI) J rfl q
 |brk=>
  obtain⟨_,_,_,q⟩:=hs;exact Eu q
 |cont=>
  obtain⟨_,_,_,q⟩:=hs;exact Eu q
section
variable{X:Cx}{x:An}{p pos:AX}{e:Ao}{es:Ac Ao}{t:TA}{id T:Dp}{r:Ac V->Hp->VK->Prop}
def tCB(r:Ac V->Hp->VK->Prop)(t:TA):TE:=λU H Q=>t U H λvs H1=>r vs H1 Q
theorem UT(hc:Ig X (.builtin id) r)(hg:Gl X x)(hm:X.mg x=Af)(hv:DE x=Ab (.builtin id))(ha:PA X (e::es) t)(hn:x≠"__name__" := by decide)(hdb:(x==("__debug__" : An))=Ae:=by decide)(he:AB (e::es) X.env=(Ae,eval e X.env)::AB es X.env:=by rfl)(hpl:(Ct pos (AB es X.env)).any (·.1)=Ae:=by rfl):PE X (.Call (.Name x p) (e::es) [] pos) (tCB r t):=by
 intro pI s U H Q I h;refine Ho (Jh I hg hm hv ?_ hn hdb);exact PyProof.Rows.callWith_builtin1 (thn (ha pos pI s U H _ I h) λus s1 ⟨vs,H1,I1,r1,q1⟩=>hc pI s1 U H1 vs us Q I1 r1 q1) he hpl
theorem TW(hc:Ig X (.type T) r)(hg:Gl X x)(hm:X.mg x=Af)(hv:DE x=Ab (.type T))(ha:PA X (e::es) t)(hn:x≠"__name__" := by decide)(hdb:(x==("__debug__" : An))=Ae:=by decide)(he:AB (e::es) X.env=(Ae,eval e X.env)::AB es X.env:=by rfl)(hpl:(Ct pos (AB es X.env)).any (·.1)=Ae:=by rfl):PE X (.Call (.Name x p) (e::es) [] pos) (tCB r t):=by
 intro pI s U H Q I h;refine Ho (Jh I hg hm hv ?_ hn hdb);exact Cs (thn (ha pos pI s U H _ I h) λus s1 ⟨vs,H1,I1,r1,q1⟩=>hc pI s1 U H1 vs us Q I1 r1 q1) he hpl
end
end L2
namespace HT
open PySem PyProof.Rows
variable{sl:Ak}
section
open PySem.SeqAt
open PySem.AutoSeq1 (wpAny_loadPart')
open PySem.MeetsSeq PySem.MeetsSeq2 PySem.MeetsSeq3
end
section
variable{prog:AT}{w:AD}{A:Bc}{E:Vq}{s:As}
theorem cat_tup{t b:Ak}{vs ws:Ac Ai}{Q:Vq}(ht:J5 s.heap t vs.toArray)(hb:J5 s.heap b ws.toArray)(hv:vs≠[])(h1:ws=[]->Q (.ref t) s)(h2:ws≠[]->Q (.ref s.heap.objs.size) { s with heap:=s.heap.push { cls:=.type "tuple",data:=.seq (vs++ws).toArray } })(hsz:vs.length+ws.length<=sizeLine):Az (model prog w) A (Cw .Add (.ref t) (.ref b)) Q E s:=by
 obtain⟨⟨cls,dd,data,sl⟩,ho,hc,n,hd⟩:=id ht;obtain⟨⟨cls2,dd2,data2,sl2⟩,ho2,hc2,n2,hd2⟩:=id hb;simp only at hc hd hc2 hd2;subst hc hd hc2 hd2;have e:vs.toArray++ws.toArray=(vs++ws).toArray:=by simp
 by_cases hw:ws=[]
 .exact JJ ⟨_,ho,rfl⟩ ⟨_,ho2,rfl⟩ aA seq_tuple_add Zy Zs (Zn _ _)
   (tuple_addW1 t b vs.toArray ws.toArray n n2 dd dd2 sl sl2 (by simpa using hv) (by simp[hw])) ⟨ho,ho2,h1 hw⟩
 .refine JJ ⟨_,ho,rfl⟩ ⟨_,ho2,rfl⟩ aA seq_tuple_add Zy Zs (Zn _ _)
   (tuple_addW2 t b vs.toArray ws.toArray n n2 dd dd2 sl sl2 (by simpa using hv) (by simpa using hw) (by rw[AG,AG];exact hsz)) ⟨ho,ho2,?_⟩
  rw[e];exact h2 hw
noncomputable def sIx(n d:Ag):Aq Ad->Ag
 |none=>d
 |some v=>if v<0 then (v+(n:Ad)).toNat else min v.toNat n
theorem xR(n d:Ag)(hd:d<=n)(o:Aq Ad):sIx n d o<=n:=by
 cases o with
 |none=>exact hd
 |some v=>
  show (if v<0 then (v+(n:Ad)).toNat else min v.toNat n)<=n
  by_cases hv:v<0
  .rw[AF hv];omega
  .rw[AN hv];exact Nat.min_le_right _ _
theorem V6(v:Ad)(n d:Ag):(if v<0 then max (v+(n:Ad)) 0 else min v (n:Ad))=((sIx n d (Ab v):Ag):Ad):=by
 show (if v<0 then max (v+(n:Ad)) 0 else min v (n:Ad))=(((if v<0 then (v+(n:Ad)).toNat else min v.toNat n):Ag):Ad)
 by_cases hv:v<0
 .simp only[AF hv];omega
 .simp only[AN hv];omega
theorem iM(lo hi:Aq Ad)(n:Ag):FO lo hi 1 (n:Ad)=(((sIx n 0 lo:Ag):Ad),((sIx n n hi:Ag):Ad)):=by
 have h1:¬ ((1:Ad)<0):=by omega
 unfold FO;simp only[h1,KR];refine BO ?_ ?_
 .cases lo with
  |none=>rfl
  |some v=>exact V6 v n 0
 .cases hi with
  |none=>rfl
  |some v=>exact V6 v n n
theorem iE(i j:Ag):Ey (i:Ad) (j:Ad) 1=j-i:=by
 unfold Ey;have h1:(1:Ad)>0:=by omega
 simp only[h1,IU,Int.ediv_one];split<;>omega
theorem Th{v:Ai}{o:Aq Ad}{Q:Aq Ad->As->Prop}(p:HR v o)(h:Q o s):Az (model prog w) A (Builtin.Slice.slicePartIndex v) Q E s:=by
 cases p with
 |none=>exact YH h
 |int i t=>exact slicePart_int h
theorem fS{vl vu:Ai}{lo hi:Aq Ad}{n:Ag}{Q:Ad×Ad×Ag->As->Prop}(hs:s.heap.IsSliceOf sl vl vu .none)(pl:HR vl lo)(pu:HR vu hi)(h:Q (((sIx n 0 lo:Ag):Ad),1,sIx n n hi-sIx n 0 lo) s):Az (model prog w) A (YN (.ref sl) (pure (n:Ad))) Q E s:=by
 obtain⟨os,hos,hcs,hds⟩:=id hs;unfold YN Builtin.Slice.sliceFields;refine Ah (Ah (Bi hos hds (x:=vl) rfl (Ah (Bi hos hds (x:=vu) rfl (Ah (Bi hos hds (x:=.none) rfl (Ax ?_)))))));refine Ah (YH ?_);show Az _ _ (if ((1:Ad)==0)=Aa then _ else _) _ _ s
 rw[AN (by decide)]
 refine Ah (Th pl (Ah (Th pu (Ah (Ax ?_)))));show Az _ _ (match FO lo hi 1 (n:Ad) with|(lo,hi)=>pure (lo,(1:Ad),Ey lo hi 1)) _ _ s
 rw[iM lo hi n];show Az _ _ (pure (((sIx n 0 lo:Ag):Ad),(1:Ad),Ey ((sIx n 0 lo:Ag):Ad) ((sIx n n hi:Ag):Ad) 1)) _ _ s;rw[iE];exact Ax h
theorem mS(xs:A6 Ai)(i k:Ag):((AZ k).filterMap fun(m:Ag)=>xs[((i:Ad)+(m:Ad)*1).toNat]?).toArray=((xs.toList.drop i).take k).toArray:=by
 have e:(fun(m:Ag)=>xs[((i:Ad)+(m:Ad)*1).toNat]?)=λm=>xs[i+m]?:=by
  funext m
  have:((i:Ad)+(m:Ad)*1).toNat=i+m:=by omega
  rw[this]
 rw[e];have:=pick_run xs i k;rw[List.filterMap_map]at this;have e2:((λx=>xs[x]?) ∘ λx=>i+x)=λm=>xs[i+m]?:=rfl
 rw[e2]at this;rw[this]
theorem getItem_tuple_cut{t:Ak}{items:A6 Ai}{vl vu:Ai}{lo hi:Aq Ad}{Q:Vq}(ht:J5 s.heap t items)(hs:s.heap.IsSliceOf sl vl vu .none)(pl:HR vl lo)(pu:HR vu hi)(hw:¬ (sIx items.size 0 lo=0/\sIx items.size items.size hi=items.size))(h:Q (.ref s.heap.objs.size) { s with heap:=s.heap.push { cls:=.type "tuple",data:=.seq ((items.toList.drop (sIx items.size 0 lo)).take (sIx items.size items.size hi-sIx items.size 0 lo)).toArray } })(hsz:items.size<=sizeLine):Az (model prog w) A (J8 (.ref t) (.ref sl)) Q E s:=by
 have htake:sizeOk (.seq ((items.toList.drop (sIx items.size 0 lo)).take (sIx items.size items.size hi-sIx items.size 0 lo)).toArray):=by
  show ((items.toList.drop (sIx items.size 0 lo)).take (sIx items.size items.size hi-sIx items.size 0 lo)).toArray.size<=sizeLine;rw[AG,Gr,Yq,D0];omega
 have hj:sIx items.size items.size hi<=items.size:=xR _ _ (A1 _) hi;obtain⟨os,hos,hcs,hds⟩:=id hs;have hTs:s.TypeIs (.ref sl) "slice" := ⟨os,hos,hcs⟩;unfold J8
 try with_reducible refine Dj ?_
 first|refine Ah (Ax ?_)|skip
 refine Ah (wpAny_sequenceKey ht.typeIs (by decide) ?_)
 refine Ah (BW (name:=By "__getitem__") ht.typeIs YI
  (CV YI ht.typeIs entry_tuple_getitem ?_ (args_tuple_getitem _ _)))
 show Az _ _ (Builtin.Tuple.tupleItemsOf (.ref t) >>= _) _ _ s;refine Ah (tupleItemsOf_ ht ?_);refine Ah (wpAny_typeOf hTs ?_);rw[AF (by decide)]
 refine Ah (fS hs pl pu ?_);have hno:¬ ((((sIx items.size 0 lo:Ag):Ad)==0&&(1:Ad)==1&&(sIx items.size items.size hi-sIx items.size 0 lo)==items.size)=Aa):=by
  intro q;rw[Ap,Ap]at q;have q1:((sIx items.size 0 lo:Ag):Ad)=0:=eq_of_beq q.1.1;have q2:sIx items.size items.size hi-sIx items.size 0 lo=items.size:=eq_of_beq q.2;exact hw ⟨by omega,by omega⟩
 show Az _ _ (if (((sIx items.size 0 lo:Ag):Ad)==0&&(1:Ad)==1&&(sIx items.size items.size hi-sIx items.size 0 lo)==items.size)=Aa then _ else _) _ _ s
 rw[AN hno,mS]
 first
  |exact Ah (m:=De _) (CP (Ax ⟨_,rfl,Ax h⟩) htake)
  |exact Ah (m:=De _) (CP (Ah (Ax (Ax ⟨_,rfl,Ax h⟩))) htake)
  |exact Ah (Ah (m:=De _) (CP (Ax (Ax ⟨_,rfl,Ax h⟩)) htake))
  |exact Ah (Ah (m:=De _) (CP (Ax ⟨_,rfl,Ax h⟩) htake))
end
end HT
namespace L2
open PySem PySem.Spec PyProof.Rows
variable{r:V->Aq Ad->Aq Ad->Hp->VK->Prop}{xs:Ac V}{us its its':Ac Ai}{n t':Ag}{i:Ad}{pI:Pn}{U:St}{H:Hp}{s:As}{p:Ak}
abbrev TO:=St->Hp->(Aq Ad->Hp->Prop)->Prop
noncomputable def PO(X:Cx)(e:Aq Ao)(t:TO):Prop:=
 ∀(pI:Pn)(s:As)(U:St)(H:Hp)(Q:Aq Ad->Hp->Prop),Inv X pI U H s->t U H Q ->
  Az (model X.prog X.w) X.A (evalPart e X.env) (λu s'=>∃ o H',Inv X pI U H' s'/\HR u o/\Q o H') X.xe s
def pG:TO:=λ_ H Q=>Q Af H
def kc(t:TE):TO:=λU H Q=>t U H λx H1=>∃ i,x=.int i/\Q (Ab i) H1
section
variable{X:Cx}{e:Ao}{te:TE}{lo hi:Aq Ao}{tl th:TO}{pos p2:AX}
theorem pX:PO X Af pG:=by
 intro pI s U H Q I h;rw[evalPart_none];exact Ax ⟨Af,H,I,.none,h⟩
theorem pW(h:PE X e te):PO X (Ab e) (kc te):=by
 intro pI s U H Q I hw;rw[evalPart_some];refine thn (h pI s U H _ I hw) λu s1 ⟨x,H1,I1,r1,q1⟩=>?_
 obtain⟨i,rfl,q⟩:=q1;obtain⟨t,rfl⟩:=r1;exact⟨Ab i,H1,I1,.int i t,q⟩
noncomputable def SlR(X:Cx)(r:V->Aq Ad->Aq Ad->Hp->VK->Prop):Prop:=
 ∀(pI:Pn)(s:As)(U:St)(H:Hp)(x:V)(v vl vu:Ai)(lo hi:Aq Ad)(sl:Ak)(Q:VK),Inv X pI U H s->BP x v->s.heap.IsSliceOf sl vl vu .none->HR vl lo->HR vu hi->r x lo hi H Q ->
  ∃ T id,K1 (.type T) "__getitem__" = pure (Ab (.builtin id))/\s.TypeIs v T/\Az (model X.prog X.w) X.A (J8 v (.ref sl)) (EP X pI U Q) X.xe s
theorem SlR.or{r':V->Aq Ad->Aq Ad->Hp->VK->Prop}(h:SlR X r)(h':SlR X r'):SlR X (λx lo hi H Q=>r x lo hi H Q\/r' x lo hi H Q):=by
 intro pI s U H x v vl vu lo hi sl Q I rx hs pl pu q;rcases q with q|q
 .exact h pI s U H x v vl vu lo hi sl Q I rx hs pl pu q
 .exact h' pI s U H x v vl vu lo hi sl Q I rx hs pl pu q
def tSl(r:V->Aq Ad->Aq Ad->Hp->VK->Prop)(te:TE)(tl th:TO):TE:=λU H Q=>te U H λx H1=>tl U H1 λl H2=>th U H2 λu H3=>r x l u H3 Q
theorem mT(hr:SlR X r)(he:PE X e te)(hl:PO X lo tl)(hu:PO X hi th):PE X (.Subscript e (.Slice lo hi Af p2) pos) (tSl r te tl th):=by
 intro pI s U H Q I h;refine Subscript_ (thn (he pI s U H _ I h) λv s1 ⟨x,H1,I1,r1,q1⟩=>?_)
 refine wpAny_Slice (thn (hl pI s1 U H1 _ I1 q1) λvl s2 ⟨l,H2,I2,pl,q2⟩=>thn (hu pI s2 U H2 _ I2 q2) λvu s3 ⟨u,H3,I3,pu,q3⟩=>?_)
 rw[evalPart_none];refine Ax ?_;have I4:Inv X pI U H3 { s3 with heap:=s3.heap.push { cls:=.type "slice",data:=.fields #[vl,vu,.none] } }:=I3.kept (t':=s3.toks) λb ob q=>Ar _ q
 obtain⟨T,id,hT,ht,hg⟩:=hr pI { s3 with heap:=s3.heap.push { cls:=.type "slice",data:=.fields #[vl,vu,.none] } } U H3 x v vl vu l u s3.heap.objs.size Q I4 r1 (Heap.IsSliceOf.new ..) pl pu q3
 show Az (model X.prog X.w) X.A (subscriptTail e (.Slice lo hi Af p2) v (.ref s3.heap.objs.size)) (EP X pI U Q) X.xe { s3 with heap:=s3.heap.push { cls:=.type "slice",data:=.fields #[vl,vu,.none] } }
 exact tail_any (ops:=[.ref s3.heap.objs.size,v]) ht hT hg (by with_unfolding_all rfl)
noncomputable def J3(xs:Ac V)(lo hi:Aq Ad):Ac V:=(xs.drop (HT.sIx xs.length 0 lo)).take (HT.sIx xs.length xs.length hi-HT.sIx xs.length 0 lo)
theorem S7(xs:Ac V)(lo hi:Aq Ad):(J3 xs lo hi).length<=xs.length:=by
 unfold J3;rw[Gr,Yq];omega
def Sf(K:Fg):V->Aq Ad->Aq Ad->Hp->VK->Prop:=λx lo hi H Q=>∃ a xs,x=.ref a/\SqT K H a xs /\
 ¬ (HT.sIx xs.length 0 lo=0/\HT.sIx xs.length xs.length hi=xs.length)/\∀ p,H p=Af->Q (.ref p) (upd H p (.tup (J3 xs lo hi)))
theorem yA:SlR X (Sf X.K):=by
 intro pI s U H x v vl vu lo hi sl Q I rx hs pl pu h;obtain⟨a,xs,rfl,hx,hw,q⟩:=h;cases rx;obtain⟨its,r,ht,hz⟩:=I.tuple hx;have hlen:its.toArray.size=xs.length:=by rw[AG];exact r.length.symm
 refine⟨"tuple",_,PyProof.Rows.slot_tuple_getitem.lookup,ht.typeIs,?_⟩;refine HT.getItem_tuple_cut ht hs pl pu (by rw[hlen];exact hw) ?_ (by rw[hlen];exact hz)
 rw[hlen];refine⟨.ref s.heap.objs.size,_,I.laid (t':=s.toks) (o:=.tup (J3 xs lo hi)) (λb ob q=>Ar _ q) (A1 _) ?_,rfl,q _ (I.hok.fresh (A1 _))⟩
 exact⟨Cn (S7 xs lo hi) hz,_,(r.drop (HT.sIx xs.length 0 lo)).take (HT.sIx xs.length xs.length hi-HT.sIx xs.length 0 lo),JC _ _⟩
def m9(K:Fg):R2:=λx y H Q=>∃ a b xs ys,x=.ref a/\y=.ref b/\SqT K H a xs/\SqT K H b ys/\xs≠[]/\xs.length+ys.length<=sizeLine /\
 (ys=[]->Q (.ref a) H)/\(ys≠[]->∀ p,H p=Af->Q (.ref p) (upd H p (.tup (xs++ys))))
theorem Bk.nil_iff(r:Bk xs us):us=[]↔xs=[]:=by
 cases r with
 |nil=>simp
 |cons _ _=>simp
theorem tO:OpR X (Cw .Add) (m9 X.K):=by
 intro pI s U H x y v u Q I rx ry h;obtain⟨a,b,xs,ys,rfl,rfl,ha,hb,hx,hz,q1,q2⟩:=h;cases rx;cases ry;obtain⟨its,r1,p1,_⟩:=I.tuple ha;obtain⟨its2,r2,p2,_⟩:=I.tuple hb;refine HT.cat_tup p1 p2 (λz=>hx (r1.nil_iff.mp z)) (λz=>⟨.ref a,H,I,rfl,q1 (r2.nil_iff.mp z)⟩) (λz=>?_) (by rw[<-r1.length,<-r2.length];exact hz)
 refine⟨.ref s.heap.objs.size,_,I.laid (t':=s.toks) (o:=.tup (xs++ys)) (λb ob q=>Ar _ q) (A1 _) ?_,rfl,q2 (λw=>z (r2.nil_iff.mpr w)) _ (I.hok.fresh (A1 _))⟩
 exact⟨by rw[A4];exact hz,_,r1.append r2,JC _ _⟩
end
noncomputable def ixN(n:Ag)(i:Ad):Aq Ag:=if 0<=i then (if i<n then Ab i.toNat else Af) else if -(n:Ad)<=i then Ab (i+n).toNat else Af
noncomputable def atI{α:Type}(xs:Ac α)(i:Ad):Aq α:=(ixN xs.length i).bind λj=>xs[j]?
theorem Vx{j:Ag}(h:ixN n i=Ab j):seqIndex? i n=Ab j/\j<n/\-(n:Ad)<=i/\i<n:=by
 unfold ixN at h;by_cases h0:0<=i
 .rw[AF h0]at h;by_cases h1:i<n
  .rw[AF h1]at h;have e:i.toNat=j:=BN h;exact⟨by rw[Kb h0 h1,e],by omega,by omega,h1⟩
  .rw[AN h1]at h;cases h
 .rw[AN h0]at h;by_cases h1:-(n:Ad)<=i
  .rw[AF h1]at h;have e:(i+n).toNat=j:=BN h;exact⟨by rw[JN (by omega) h1,e],by omega,h1,by omega⟩
  .rw[AN h1]at h;cases h
theorem Wa{α:Type}{xs:Ac α}{v:α}(h:atI xs i=Ab v):∃ j,seqIndex? i xs.length=Ab j/\xs[j]?=Ab v/\j<xs.length/\-(xs.length:Ad)<=i/\i<xs.length:=by
 unfold atI at h;cases e:ixN xs.length i with
 |none=>rw[e]at h;cases h
 |some j=>
  rw[e]at h;obtain⟨h1,h2,h3,h4⟩:=Vx e;exact⟨j,h1,h,h2,h3,h4⟩
def QU(b:Ao):Prop:=∀ o i,subscripted b Ae o i=operate [o,i] (J8 o i)
noncomputable def IxR(X:Cx)(r:R2):Prop:=
 ∀(value slice:Ao)(pI:Pn)(s:As)(U:St)(H:Hp)(x y:V)(v u:Ai)(Q:VK),Inv X pI U H s->BP x v->BP y u->r x y H Q ->
  subscripted slice Ae v u=operate [v,u] (J8 v u)->Az (model X.prog X.w) X.A (subscriptTail value slice v u) (EP X pI U Q) X.xe s
noncomputable def MtR(X:Cx)(id:Dp)(r:V->Ac V->Hp->VK->Prop):Prop:=
 ∀(pI:Pn)(s:As)(U:St)(H:Hp)(x:V)(xs:Ac V)(v:Ai)(us:Ac Ai)(Q:VK),Inv X pI U H s->BP x v->Bk xs us->r x xs H Q ->
  Az (model X.prog X.w) X.A (call (.builtin id) (v::us)) (EP X pI U Q) X.xe s
section
variable{X:Cx}{a b:Ao}{ta tb:TE}{pos:AX}
theorem IxR.or{r r':R2}(h:IxR X r)(h':IxR X r'):IxR X (λx y H Q=>r x y H Q\/r' x y H Q):=by
 intro value slice pI s U H x y v u Q I rx ry q hs;rcases q with q|q
 .exact h value slice pI s U H x y v u Q I rx ry q hs
 .exact h' value slice pI s U H x y v u Q I rx ry q hs
theorem bF{r:R2}(hr:IxR X r)(ha:PE X a ta)(hb:PE X b tb)(hs:QU b):PE X (.Subscript a b pos) (tOp r ta tb):=by
 intro pI s U H Q I h;exact Subscript_ (O0 ha hb I h λv u s2 x y H2 I2 rx ry q=>hr a b pI s2 U H2 x y v u Q I2 rx ry q (hs _ _))
def Si(K:Fg):R2:=λx y H Q=>∃ p xs i v,x=.ref p/\y=.int i/\SqL K H p xs/\atI xs i=Ab v/\Q v H
def Sh(K:Fg):R2:=λx y H Q=>∃ p xs i v,x=.ref p/\y=.int i/\SqT K H p xs/\atI xs i=Ab v/\Q v H
theorem sC:IxR X (Si X.K):=by
 intro value slice pI s U H x y v u Q I rx ry h hs;obtain⟨p,xs,i,z,rfl,rfl,hq,he,q⟩:=h;cases rx;obtain⟨t,rfl⟩:=ry;obtain⟨its,r,pl,hz⟩:=I.list hq;obtain⟨j,h1,h2,h3,h4,h5⟩:=Wa he;obtain⟨w,ew,rw'⟩:=r.get h2;have hl:=r.length;have hn:=KC;have fin:EP X pI U Q w s:=⟨z,H,I,rw',q⟩;by_cases h0:0<=i
 .have hj:i.toNat=j:=by
   rw[Kb h0 h5]at h1;exact BN h1
  exact item_listR pl.isList h0 (by omega) (by rw[hj];simpa using ew) fin hs
 .have hj:(i+(its.toArray.size:Ad)).toNat=j:=by
   rw[JN (by omega) h4]at h1
   rw[AG,<-hl];exact BN h1
  exact Gi (x:=w) pl.isList.typeIs aD.lookup
   (wpAny_getItem_list_neg (Q:=λr s'=>r=w/\EP X pI U Q r s') pl.isList (by omega) (by rw[AG]<;>omega) (by omega) (by rw[hj];simpa using ew) ⟨rfl,fin⟩) hs
theorem ii:IxR X (Sh X.K):=by
 intro value slice pI s U H x y v u Q I rx ry h hs;obtain⟨p,xs,i,z,rfl,rfl,hq,he,q⟩:=h;cases rx;obtain⟨t,rfl⟩:=ry;obtain⟨its,r,pl,hz⟩:=I.tuple hq;obtain⟨j,h1,h2,h3,h4,h5⟩:=Wa he;obtain⟨w,ew,rw'⟩:=r.get h2;have hl:=r.length;have hn:=KC;have fin:EP X pI U Q w s:=⟨z,H,I,rw',q⟩;exact Gi (x:=w) pl.typeIs slot_tuple_getitem.lookup
  (getItem_tuple (j:=j) (Q:=λr s'=>r=w/\EP X pI U Q r s') pl (by omega) (by omega) (by rw[AG,<-hl];exact h1) (by simpa using ew) ⟨rfl,fin⟩) hs
theorem iH(its:Ac Ai)(n j:Ag)(u:Ai):CU (·.setIfInBounds j u) { cls:=.type "list",data:=.seq its.toArray n }={ cls:=.type "list",data:=.seq (its.set j u).toArray n }:=by
 simp[CU]
theorem Inv.lst(I:Inv X pI U H s)(h:H p=Ab (.lst xs)):
  ∃(its:Ac Ai)(n:Ag),Bk xs its/\s.heap.get? p=Ab { cls:=.type "list",data:=.seq its.toArray n }/\xs.length<=sizeLine:=by
 obtain⟨z,its,n,r,e⟩:=I.hok p _ h;exact⟨its,n,r,e,z⟩
theorem Inv.lstUpd{ys:Ac V}{n':Ag}{f:Dk->Dk}(I:Inv X pI U H s)(h:H p=Ab (.lst xs))(ho:s.heap.get? p=Ab { cls:=.type "list",data:=.seq its.toArray n })(hf:f { cls:=.type "list",data:=.seq its.toArray n }={ cls:=.type "list",data:=.seq its'.toArray n' })(r:Bk ys its')(hz:ys.length<=sizeLine)(t:Ag):Inv X pI U (upd H p (.lst ys)) {s with heap:=s.heap.update p f,toks:=t}:=by
 have e:(s.heap.update p f).get? p=Ab { cls:=.type "list",data:=.seq its'.toArray n' }:=by
  rw[Ca f ho (by rw[hf]<;>rfl),hf]
 refine I.write (x:=p) (e:=p) (by rw[h];trivial) (.inl rfl) (λb u hb q=>(Ci _ _ (CK hb)).trans q) ⟨_,e⟩ ?_
 exact⟨hz,its',n',r,e⟩
def m6:V->V->V->Hp->(Hp->Prop)->Prop:=λo i v H Q=>∃ p xs k j,o=.ref p/\i=.int k/\H p=Ab (.lst xs)/\ixN xs.length k=Ab j/\Q (upd H p (.lst (xs.set j v)))
theorem lV:OW X m6:=by
 intro pI s U H o i v ov iv u Q I ro ri rv h;obtain⟨p,xs,k,j,rfl,rfl,hp,hj,q⟩:=h;cases ro;obtain⟨t,rfl⟩:=ri;obtain⟨its,n,r,ho,hz⟩:=I.lst hp;obtain⟨h1,h2,h3,h4⟩:=Vx hj;have hl:=r.length;have hn:=KC;have I':Inv X pI U (upd H p (.lst (xs.set j v))) {s with heap:=s.heap.update p (CU (·.setIfInBounds j u))}:=
  I.lstUpd hp ho (iH its n j u) (r.set rv j) (by rw[BH];exact hz) s.toks
 by_cases h0:0<=k
 .have hk:k.toNat=j:=by
   rw[Kb h0 h4]at h1;exact BN h1
  exact PySem.W.ki_setAt ho h0 (by omega) (by rw[AG,<-hl];exact h4) (by rw[hk];exact⟨_,I',q⟩)
 .have hk:(k+(its.toArray.size:Ad)).toNat=j:=by
   rw[JN (by omega) h3]at h1
   rw[AG,<-hl];exact BN h1
  exact PySem.W.ki_setBack ho (by omega) (by rw[AG,<-hl];exact h3) (by omega) (by rw[hk];exact⟨_,I',q⟩)
theorem gA(lo hi:Aq Ad)(n:Ag):(FG lo hi Af n).1=((HT.sIx n 0 lo:Ag):Ad)/\(FG lo hi Af n).2.1=((HT.sIx n n hi:Ag):Ad)/\(FG lo hi Af n).2.2=1:=by
 refine⟨?_,?_,rfl⟩
 .cases lo with
  |none=>simp[FG,HT.sIx]
  |some i=>
   simp only[FG,HT.sIx,YB,show (1:Ad)>0 by decide,IU]
   by_cases h:i<0
   .simp only[h,IU]<;>omega
   .simp only[h,KR]<;>omega
 .cases hi with
  |none=>simp[FG,HT.sIx]
  |some i=>
   simp only[FG,HT.sIx,YB,show (1:Ad)>0 by decide,IU]
   by_cases h:i<0
   .simp only[h,IU]<;>omega
   .simp only[h,KR]<;>omega
theorem fU(its:Ac Ai)(lo hi:Aq Ad):slicePick its.toArray lo hi Af=((its.drop (HT.sIx its.length 0 lo)).take (HT.sIx its.length its.length hi-HT.sIx its.length 0 lo)).toArray:=by
 obtain⟨h1,h2,h3⟩:=gA lo hi its.toArray.size;unfold slicePick;rw[h1,h2,h3];simp only[sliceRange_one,pick_run,AG]<;>rfl
def Sg(K:Fg):V->Aq Ad->Aq Ad->Hp->VK->Prop:=λx lo hi H Q=>∃ a xs,x=.ref a/\SqL K H a xs/\∀ p,H p=Af->Q (.ref p) (upd H p (.lst (J3 xs lo hi)))
theorem rE:SlR X (Sg X.K):=by
 intro pI s U H x v vl vu lo hi sl Q I rx hs pl pu h;obtain⟨a,xs,rfl,hx,q⟩:=h;cases rx;obtain⟨its,r,ht,hz⟩:=I.list hx;have hlen:=r.length;refine⟨"list",_,aD.lookup,ht.isList.typeIs,?_⟩;refine wpAny_getItem_list_slice ht.isList hs pl pu .none (by simp) ?_ (by rw[AG]<;>omega)
 rw[fU,<-hlen];refine⟨.ref s.heap.objs.size,_,I.laid (t':=s.toks) (o:=.lst (J3 xs lo hi)) (λb ob q=>Ar _ q) (A1 _) ?_,rfl,q _ (I.hok.fresh (A1 _))⟩
 exact⟨Cn (S7 xs lo hi) hz,_,0,(r.drop (HT.sIx xs.length 0 lo)).take (HT.sIx xs.length xs.length hi-HT.sIx xs.length 0 lo),Ay _ rfl⟩
theorem Te:Ig X (.builtin "len") (λxs H Q=>∃ p ys,xs=[.ref p]/\(SqL X.K H p ys\/SqT X.K H p ys)/\Q (.int ys.length) H):=by
 intro pI s U H xs us Q I r h;obtain⟨p,ys,rfl,hq,q⟩:=h;obtain⟨u,rfl,rx⟩:=IC r;cases rx;have hn:=KC;rcases hq with hq|hq
 .obtain⟨its,r',pl,hz⟩:=I.list hq;have hlen:=r'.length;exact Calls.call_len_list pl.isList (by simp only[AG]<;>omega) ⟨.int ys.length,H,I.tok _,⟨s.toks+1,by rw[AG,hlen]⟩,q⟩
 .obtain⟨its,r',pl,hz⟩:=I.tuple hq;have hlen:=r'.length;exact len_tuple pl (by simp only[AG]<;>omega) ⟨.int ys.length,H,I.tok _,⟨s.toks+1,by rw[AG,hlen]⟩,q⟩
theorem fY:Ig X (.builtin "len") (λxs H Q=>∃ z,xs=[.str z]/\z.length<=sizeLine/\Q (.int z.length) H):=by
 intro pI s U H xs us Q I r h;obtain⟨z,rfl,hz,q⟩:=h;obtain⟨u,rfl,t,rfl⟩:=IC r;have hn:=KC;exact len_str (by omega) ⟨.int z.length,H,I.tok _,⟨_,rfl⟩,q⟩
theorem Td:Ig X (.type "list") (λxs H Q=>∃ p ys,xs=[.ref p]/\(SqL X.K H p ys\/SqT X.K H p ys)/\∀ l,H l=Af->Q (.ref l) (upd H l (.lst ys))):=by
 intro pI s U H xs us Q I r h;obtain⟨p,ys,rfl,hq,q⟩:=h;obtain⟨u,rfl,rx⟩:=IC r;cases rx;have fin:∀(its:Ac Ai),Bk ys its->ys.length<=sizeLine->∀(h':AJ)(c':Ag),(∀ b o',s.heap.get? b=Ab o'->h'.get? b=Ab o') ->
   h'.get? s.heap.objs.size=Ab { cls:=.type "list",dict:=Af,data:=.seq its.toArray c',slots:=#[] }->EP X pI U Q (.ref s.heap.objs.size) {s with heap:=h'}:=λits r' hz h' c' kp e=>
  ⟨.ref s.heap.objs.size,_,I.laid (t':=s.toks) kp (A1 _) (show ObjOk X.prog X.w _ h' _ (.lst ys) from ⟨hz,its,c',r',e⟩),rfl,q _ (I.hok.fresh (A1 _))⟩
 rcases hq with hq|hq
 .obtain⟨its,r',pl,hz⟩:=I.list hq;have hlen:=r'.length;obtain⟨o,ho,hc,n,hd⟩:=pl.isList;exact call_list_seq p (.inl rfl) ho hc hd (λh' c' kp e=>fin its r' hz h' c' kp e) (by simp only[AG]<;>omega)
 .obtain⟨its,r',pl,hz⟩:=I.tuple hq;have hlen:=r'.length;obtain⟨o,ho,hc,n,hd⟩:=pl;exact call_list_seq p (.inr rfl) ho hc hd (λh' c' kp e=>fin its r' hz h' c' kp e) (by simp only[AG]<;>omega)
theorem S5:Ig X (.type "tuple") (λxs H Q=>∃ p ys,xs=[.ref p]/\((SqL X.K H p ys/\∀ l,H l=Af->Q (.ref l) (upd H l (.tup ys)))\/(SqT X.K H p ys/\Q (.ref p) H))):=by
 intro pI s U H xs us Q I r h;obtain⟨p,ys,rfl,h⟩:=h;obtain⟨u,rfl,rx⟩:=IC r;cases rx;rcases h with ⟨hq,q⟩|⟨hq,q⟩
 .obtain⟨its,r',pl,hz⟩:=I.list hq;have hlen:=r'.length;refine call_tuple_list pl.isList (λh' kp=>?_) (by simp only[AG]<;>omega)
  have I1:Inv X pI U H {s with heap:=h'}:=I.kept (t':=s.toks) kp
  have I2:Inv X pI U (upd H h'.objs.size (.tup ys)) { s with heap:=h'.push { cls:=.type "tuple",data:=.seq its.toArray } }:=
   I1.laid (t':=s.toks) (λb o e=>Ar _ e) (A1 _) (show ObjOk X.prog X.w _ _ _ (.tup ys) from ⟨hz,its,r',JC _ _⟩)
  exact⟨.ref h'.objs.size,_,I2,rfl,q _ (I1.hok.fresh (A1 _))⟩
 .obtain⟨its,r',pl,hz⟩:=I.tuple hq;exact call_tuple_same pl ⟨.ref p,H,I,rfl,q⟩
def tyV(K:Fg)(T:Dp)(x:V)(H:Hp):Prop:=match x with
  |.str _=>T = "str"
  |.int _=>T = "int"
  |.ref p=>(T = "list"/\∃ xs,SqL K H p xs)\/(T = "tuple"/\∃ o,K.lookup p=Ab o/\o.cls=.type "tuple"/\o.dict=Af) \/
      (T = "dict"/\((∃ kvs,H p=Ab (.dK kvs))\/∃ kvs,H p=Ab (.dT kvs)))\/(T = "set"/\∃ S n,H p=Ab (.set S n))
  |_=>Bu
theorem yP{T:Dp}{x:V}{v:Ai}(I:Inv X pI U H s)(r:BP x v)(ty:tyV X.K T x H):s.TypeIs v T/\∀ a,v=.ref a->∃ ob,s.heap.get? a=Ab ob/\ob.dict=Af:=by
 cases x with
 |str z=>
  obtain⟨t,rfl⟩:=r;cases (show T = "str" from ty)
  exact⟨typeIs_str s z t,λ_ e=>nomatch e⟩
 |int i=>
  obtain⟨t,rfl⟩:=r;cases (show T = "int" from ty)
  exact⟨typeIs_int s i t,λ_ e=>nomatch e⟩
 |ref p=>
  cases r;rcases ty with ⟨rfl,xs,hq⟩|⟨rfl,o,hk,hc,hd⟩|⟨rfl,hk⟩|⟨rfl,S,n,hk⟩
  .obtain⟨its,_,pl,_⟩:=I.list hq;refine⟨pl.isList.typeIs,λa e=>?_⟩
   cases e;obtain⟨o,n,e,c,hd,_⟩:=pl;exact⟨o,e,hd⟩
  .refine⟨⟨o,I.kIn p o hk,hc⟩,λa e=>?_⟩
   cases e;exact⟨o,I.kIn _ o hk,hd⟩
  .have z:∃ o,s.heap.get? p=Ab o/\o.ExactDict:=by
    rcases hk with ⟨kvs,hk⟩|⟨kvs,hk⟩
    .obtain⟨_,_,_,_,o,_,_,e,ex,_⟩:=I.hok p _ hk;exact⟨o,e,ex⟩
    .obtain⟨_,_,_,_,o,_,_,e,ex,_⟩:=I.hok p _ hk;exact⟨o,e,ex⟩
   obtain⟨o,e,ex⟩:=z;refine⟨⟨o,e,ex.1⟩,λa e2=>?_⟩
   cases e2;exact⟨o,e,ex.2.1⟩
  .obtain⟨o,_,_,_,e,ex,_⟩:=I.hok p _ hk;refine⟨⟨o,e,ex.1⟩,λa e2=>?_⟩
   cases e2;exact⟨o,e,ex.2.1⟩
 |_=>exact Eu ty
def tBM(K:Fg)(T:Dp)(r:V->Ac V->Hp->VK->Prop)(to:TE)(t:TA):TE:=λU H Q=>to U H λx H1=>tyV K T x H1/\t U H1 λxs H2=>r x xs H2 Q
variable{o e:Ao}{es:Ac Ao}{to:TE}{t:TA}{name:An}{apos cpos:AX}{T id:Dp}{r:V->Ac V->Hp->VK->Prop}
theorem RO(pa:PlainAttrs T)(slot:Slot T name id)(hty:typeOf (.builtin id)=pure (.type "method_descriptor"))(hm:MtR X id r)(ho:PE X o to)(ha:PA X (e::es) t)(hbase:EU o name X.env (eval o X.env)=eval o X.env:=by rfl)(hfew:((Ct cpos (AB (e::es) X.env)).all (λx=>!x.1)&&(G8 cpos (FE [] X.env)).all (λx=>x.1.isSome)
   && decide ((e::es).length+([]:Ac Dy).length+(if ([]:Ac Dy).isEmpty then 0 else 1)<30))=Aa:=by rfl)(hline:(apos.endLine==cpos.line)=Aa:=by rfl)(hs:AB (e::es) X.env=(Ae,eval e X.env)::AB es X.env:=by rfl)(hplain:(Ct cpos (AB es X.env)).any (·.1)=Ae:=by rfl):PE X (.Call (.Attribute o name apos) (e::es) [] cpos) (tBM X.K T r to t):=by
 intro pI s U H Q I h;refine aF hbase hfew hline rfl (thn (ho pI s U H _ I h) λv s1 ⟨x,H1,I1,r1,ty,q1⟩=>?_)
 obtain⟨h1,h2⟩:=yP I1 r1 ty;refine⟨T,id,pa,slot,hty,h1,h2,?_⟩;have hA:=ha cpos pI s1 U H1 _ I1 q1;rw[hs]at hA ⊢;refine YQ (by show (Ae||(Ct cpos (AB es X.env)).any (·.1))=Ae;rw[hplain]<;>rfl) (YR ?_)
 exact thn hA λus s2 ⟨vs,H2,I2,r2,q2⟩=>hm pI s2 U H2 x vs v us Q I2 r1 r2 q2
/- xs.append(e),list.index on a module's tuple .. are MtR facts of 06m -/
end
noncomputable def MtM(X:Cx)(id:Dp)(r:V->Ac V->Hp->VK->Prop):Prop:=
 ∀(pI:Pn)(s:As)(U:St)(H:Hp)(x:V)(xs:Ac V)(v:Ai)(us:Ac Ai)(Q:VK),Inv X pI U H s->BP x v->Bk xs us->r x xs H Q ->
  Az (model X.prog X.w) X.A (call (.builtin id) (v::us)) (EP X pI U Q) X.xe s
theorem Bk.one:∀{x:V}{us:Ac Ai},Bk [x] us->∃ u,us=[u]/\BP x u
 |_,_,.cons r .nil=>⟨_,rfl,r⟩
theorem Bk.zero:∀{us:Ac Ai},Bk [] us->us=[]
 |_,.nil=>rfl
theorem Bk.eraseIdx:∀{xs:Ac V}{us:Ac Ai}(i:Ag),Bk xs us->Bk (xs.eraseIdx i) (us.eraseIdx i)
 |_,_,_,.nil=>.nil
 |_,_,0,.cons _ t=>t
 |_,_,i+1,.cons r t=>.cons r (Bk.eraseIdx i t)
theorem Bk.reverse(h:Bk xs us):Bk xs.reverse us.reverse:=by
 induction h with
 |nil=>exact .nil
 |cons r t ih=>rw[Yw,Yw];exact Bk.append ih (.cons r .nil)
section
variable{X:Cx}{pI:Pn}{U:St}{H:Hp}{s:As}{l b:Ak}{xs ys zs:Ac V}
theorem Inv.lset{f:A6 Ai->A6 Ai}(I:Inv X pI U H s)(hH:H l=Ab (.lst xs))(e:s.heap.get? l=Ab { cls:=.type "list",data:=.seq its.toArray n })(hf:f its.toArray=its'.toArray)(hv:Bk ys its')(hz:ys.length<=sizeLine):Inv X pI U (upd H l (.lst ys)) {s with heap:=s.heap.update l (CU f),toks:=t'}:=by
 have q:=PySem.IsL.update e f;rw[hf]at q;refine I.write (x:=l) (e:=l) (by rw[hH];exact trivial) (.inl rfl) (λb' u hb hu=>(Ci s.heap (CU f) (CK hb)).trans hu) ⟨_,q⟩ ?_
 exact⟨hz,its',_,hv,q⟩
theorem Inv.lnew(I:Inv X pI U H s)(hv:Bk ys its)(hz:ys.length<=sizeLine):
  Inv X pI U (upd H s.heap.objs.size (.lst ys)) { s with heap:=s.heap.push { cls:=.type "list",data:=.seq its.toArray },toks:=t' }:=
 I.laid (λ_ _ q=>Ar _ q) (A1 _) ⟨hz,its,0,hv,Ay _ rfl⟩
theorem Inv.fresh(I:Inv X pI U H s):H s.heap.objs.size=Af:=I.hok.fresh (A1 _)
theorem Inv.lstM(I:Inv X pI U H s)(hH:H l=Ab (.lst xs)):xs.length<=sizeLine/\∃(its:Ac Ai)(n:Ag),Bk xs its/\xs.length=its.length/\s.heap.get? l=Ab { cls:=.type "list",data:=.seq its.toArray n }:=by
 obtain⟨z,its,n,r,e⟩:=I.hok l _ hH;exact⟨z,its,n,r,r.length,e⟩
theorem U_1(h:n<=sizeLine):DU n=Ae:=by
 unfold DU;exact Cb (by omega)
end
section
variable{X:Cx}
def pP:V->Ac V->Hp->VK->Prop:=λx vs H Q=>∃ l xs y,x=.ref l/\vs=[y]/\H l=Ab (.lst xs)/\xs.length<sizeLine/\Q .non (upd H l (.lst (xs++[y])))
theorem iW:MtM X "list.append" pP:=by
 intro pI s U H x vs v us Q I rx rv h;obtain⟨l,xs,y,rfl,rfl,hH,hz,q⟩:=h;cases rx;obtain⟨u,rfl,ru⟩:=rv.one;obtain⟨z,its,n,r,hl,e⟩:=I.lstM hH;refine KZ F.slot_list_append ⟨_,e,rfl⟩ F.entry_list_append (F.args_list_append_2 _ _) (PySem.list_append l its.toArray n u (by rw[AG];omega)) ⟨e,?_⟩
 refine⟨.non,_,I.lset (its':=its++[u]) hH e (by simp) (r.append (.cons ru .nil)) ?_,rfl,q⟩
 rw[A4,Bq];omega
def qZ:V->Ac V->Hp->VK->Prop:=λx vs H Q=>∃ l b xs zs,x=.ref l/\vs=[.ref b]/\H l=Ab (.lst xs)/\H b=Ab (.lst zs)/\xs.length+zs.length<=sizeLine/\Q .non (upd H l (.lst (xs++zs)))
theorem iV:MtM X "list.extend" qZ:=by
 intro pI s U H x vs v us Q I rx rv h;obtain⟨l,b,xs,zs,rfl,rfl,hH,hB,hz,q⟩:=h;cases rx;obtain⟨u,rfl,ru⟩:=rv.one;cases ru;obtain⟨z,its,n,r,hl,e⟩:=I.lstM hH;obtain⟨z2,its2,n2,r2,hl2,e2⟩:=I.lstM hB;have hsz:its.toArray.size+its2.toArray.size<=sizeLine:=by rw[AG,AG];omega
 have hlong:¬ (!its.toArray.isEmpty&&DU (its.toArray.size+its2.toArray.size))=Aa:=by
  rw[U_1 hsz,FX];exact AM
 refine KZ E9 ⟨_,e,rfl⟩ Zr (Zl _ _)
  (AutoSeq1.list_extend_list_list_0 l its.toArray n b its2.toArray n2 hlong (by rw[AG];omega) (by omega)) ⟨e,e2,?_⟩
 refine⟨.non,_,I.lset (its':=its++its2) hH e (by simp) (r.append r2) ?_,rfl,q⟩
 rw[A4];omega
end
section
variable{prog:AT}{w:AD}{A:Bc}{E:Vq}{s:As}
set_option maxRecDepth 100000 in
end
section
variable{X:Cx}
end
end L2
namespace Att
open PySem PySem.W PySem.Calls PyProof.Rows
variable{P:Ma}{h:AJ}{l:Gk}{n:Ag}
theorem fR:∀(ns:Ac Ad)(vs:Ac Ai),WellAll P h vs (ns.map ZV)->IK vs ns:=by
 intro ns
 induction ns with
 |nil=>
  intro vs w;rw[HP]at w;cases w;exact .nil
 |cons n ns ih=>
  intro vs w;rw[Bm]at w;cases w with
  |cons a b=>
   cases a;exact .cons _ _ (ih _ b)
theorem gO(hn:l.most=Ab n){args:Ac WData}{vals:Ac Ai}(hpre:l.row.toRowW.claim.pre args=Aa)(hwl:WellAll P h vals args):
  ∃ a vs ns,vals=[Dx a]/\args=[WData.list (ns.map ZV)]/\h.get? a=Ab { cls:=.type "list",data:=.seq vs.toArray }/\IK vs ns/\ns.length<=n:=by
 have hsh:WShape.hasAll [] args [.list .int]=Aa:=(pre_splitW hpre).1;have hc:l.pre.holds [] {args:=args}=Aa:=(pre_splitW hpre).2;obtain⟨d,r,rfl,h1,h2⟩:=hasAllW_cons hsh;obtain rfl:=hasAllW_nil h2;obtain⟨xs,rfl,h3⟩:=hasW_list h1;obtain⟨ns,rfl⟩:=items_int h3;have hlen:ns.length<=n:=by
  unfold OpenLaw.pre at hc;have h4:(WTm.not (.lt (.lit (.int (n:Ad))) (.len (.arg 0)))).holds [] {args:=[.list (ns.map .int)]}=Aa:=by
   have h4:=(holds_andW hc).1;rw[hn]at h4;exact h4
  have h5:=condW_of h4 (w_not (w_lt w_lit (w_len_list (w_arg rfl))));rw[AV]at h5;refine Nat.le_of_not_lt λq=>?_
  have q':(n:Ad)<((ns.length:Ag):Ad):=by omega
  first
   |(rw[AU q']at h5;exact absurd h5 (by decide))
   |(simp at h5;omega)
 cases hwl with
 |cons w1 w2=>
  cases w2;cases w1 with
  |list ho hall=>exact⟨_,_,ns,rfl,rfl,ho,fR ns _ hall,hlen⟩
theorem jL(l:Gk)(args:Ac WData):l.row.toRowW.claim.post args (.bool Aa) args=Aa:=
 postW_of (r:=l.row.toRowW) (X:=(Aa==Aa))
  (show ZW [] (.bool Aa) .bool=Aa by first|rfl|decide|simp[ZW,WShape.arms,WShape.armsAll])
  (show (WTm.eq .res (.lit (.bool Aa))).value [] {args:=args,res:=Ab (.bool Aa),after:=args}=Ab (.bool (Aa==Aa)) from w_eq_bool (w_res rfl) w_lit) rfl
theorem attach_call{q:AT}{loose:Ac An}{XP:(An->Aq Ai)->AJ->Prop}{YP:AD->AJ->Prop}{d:DefRec}(hn:l.most=Ab n)(hdf:d.params.defaults=[])(call:∀(w:AD)(s₀ s₁:As)(mg mb:An->Aq Ai)(fa:Ak)(o:Dk)(pm cd doc:Ai)(a:Ak)(vs:Ac Ai)(ns:Ac Ad),
   Ground q loose [] XP w s₀ mg mb s₁.heap->YP w s₁.heap ->
   s₁.heap.get? fa=Ab o->o.data=.func (docDef d.name d.params d.body d.scope pm cd doc)->s₁.heap.CodeRec cd d.name->mg d.name=Ab (.ref fa) ->
   s₁.heap.get? a=Ab { cls:=.type "list",data:=.seq vs.toArray }->IK vs ns->ns.length<=n->s₁.gens=#[] ->
   F1 (model l.prog w) HK (.call (.ref fa) ⟨[.ref a],[]⟩) (λr s'=>r=.ok (.ret (.bool Aa))/\OldK s₁.heap s'.heap/\s'.os=s₁.os/\FZ s'.gens) s₁):WalkO q loose XP YP l.row.toRowW d [] (λf vs=>KY f vs):=by
 intro w s₀ s₁ mg mb G Y_ fa o pm cd doc dV kV ho hd hcd hD hmg hg args vals as hpre hlay hrd hwl hlo;obtain rfl:dV=.none:=Dflts.none hD hdf;obtain rfl:kV=.none:=Dflts.noKw hD;obtain⟨a,vs,ns,rfl,rfl,hobj,hints,hlen⟩:=gO hn hpre hwl;refine enter_call (JI (call w s₀ s₁ mg mb fa o pm cd doc a vs ns G Y_ ho (fd_plain hd) hcd hmg hobj hints hlen hg) λr s' hq=>?_)
 obtain⟨rfl,h2,h3,h4⟩:=hq;exact⟨.inl ⟨.bool Aa,.bool Aa,[],rfl,λ_=>rfl,.bool Aa,jL l _,λ_=>⟨List.Pairwise.nil,λ_ hm=>(nomatch hm)⟩⟩,h2,h3,h4⟩
section
variable{prog:AT}{w:AD}{A:Bc}{E:Vq}{s:As}{K:Frag}
end
end Att
namespace L2
open PySem PySem.Spec PyProof.Rows
variable{k:Ag}{x:An}
theorem TF:∀{vs:Ac Ai}{ns:Ac Ad},IK vs ns->Bk (ns.map V.int) vs
 |_,_,.nil=>.nil
 |_,_,.cons n t h=>.cons ⟨t,rfl⟩ (TF h)
def OX(H:Hp):Prop:=∀ b,H b=Af\/∃ o xs,H b=Ab (.frz o (.lst xs))
theorem kO{P:AT}{w:AD}{K:Fg}{mg mb:An->Aq Ai}{CX:CXT}{fa a:Ak}{fd:Cv}{sp:Sp}{s₁:As}{vs:Ac Ai}{ns:Ac Ad}(KX:K.In s₁.heap)(hns:s₁.heap.Ns Bh mg)(hb:s₁.heap.Ns IZ mb)(hbb:∀ x:An,x≠"__name__"->mb x=DE x)(hlim:s₁.heap.NoLimit)(hg:s₁.gens=#[])(ha:s₁.heap.get? a=Ab { cls:=.type "list",data:=.seq vs.toArray })(hi:IK vs ns)(hl:ns.length<=sizeLine)(hr:Room k HK)(F:∀ base:AJ,K.In base->base.Ns Bh mg->FnOk P w K mg base CX k fa fd [x] sp)(hbind:∀(s:As)(u:Ai),HJ s fd ⟨[u],[]⟩ [(x,u)])(hsp:∀ H:Hp,OX H->SqL K H a (ns.map V.int)->sp [.ref a] H (λv _=>v=.bl Aa) λ_ _ _=>Bu)(hCX:∀ H e s',CX [] H s₁ (λ_ _ _=>Bu) e s'->Bu):F1 (model P w) HK (.call (.ref fa) ⟨[.ref a],[]⟩) (λr s'=>r=.ok (.ret (.bool Aa))/\OldK s₁.heap s'.heap/\s'.os=s₁.os/\FZ s'.gens) s₁:=by
 have rv:=TF hi;have lenV:=hi.length
 -- from an abstract heap in which nothing but the script may be tracked
 have core:∀ H:Hp,OX H->SqL K H a (ns.map V.int)->HOk P w H s₁.heap->(∀ b,H b≠Af->b=a)->(H a≠Af->K.lookup a=Af) ->
   F1 (model P w) HK (.call (.ref fa) ⟨[.ref a],[]⟩) (λr s'=>r=.ok (.ret (.bool Aa))/\OldK s₁.heap s'.heap/\s'.os=s₁.os/\FZ s'.gens) s₁:=by
  intro H hO hS hok hA hK;have base_of:∀{b:Ak}{o:Dk},s₁.heap.get? b=Ab o->H b=Af->(Jq s₁.heap H).get? b=Ab o:=λe n=>kS e n
  have noA:∀{b:Ak}{o:Dk}{es:A6 DictEntry}{ep:Ag},s₁.heap.get? b=Ab o->o.data=.dict es ep->H b=Af:=λ{b o es ep} e d=>by
   cases q:H b with
   |none=>rfl
   |some u=>
    have e':b=a:=hA b (by rw[q];simp)
    subst e';rw[ha]at e;cases e;have d':L8 vs.toArray _=Data.dict es ep:=d;cases d'
  have nsK:∀{b:Ak}{m:An->Aq Ai},s₁.heap.Ns b m->(Jq s₁.heap H).Ns b m:=λ{b m} ⟨o,es,ep,e,d,r⟩=>⟨o,es,ep,base_of e (noA e d),d,r⟩
  have hKb:K.In (Jq s₁.heap H):=λb o e=>base_of (KX b o e) (by
   cases q:H b with
   |none=>rfl
   |some u=>
    have e':b=a:=hA b (by rw[q];simp)
    subst e';rw[hK (by rw[q];simp)]at e;cases e)
  have hM:Mod K mg (Jq s₁.heap H):=⟨hKb,nsK hns,⟨mb,nsK hb,hbb⟩,let ⟨mc,h1,h2⟩:=hlim;⟨mc,nsK h1,h2⟩⟩
  have e0:Env0 P w K mg (Jq s₁.heap H) HK [] s₁ H:=⟨rfl,hM,λb o e=>sH e,JA (jF _ _),trivial,λb hb=>absurd (show b∈([]:Ac Ak) from hb) (by simp),hok,.of_eq hg⟩
  refine JI ((F _ hKb (nsK hns)).run HK [] s₁ H ⟨[.ref a],[]⟩ [.ref a] [.ref a] _ _ hr e0 (hbind s₁ (.ref a)) (.cons rfl .nil) (hsp H hO hS)) λr s' h=>?_
  cases r with
  |error e=>exact(hCX H e s' h).elim
  |ok fl=>
   cases fl with
   |next=>exact Eu h
   |brk=>exact Eu h
   |cont=>exact Eu h
   |ret u=>
    obtain⟨v,H',os,bare,un,hok',r',q⟩:=h;have q':v=.bl Aa:=q;subst q';obtain rfl:u=ZS Aa:=r';refine⟨rfl,OldK.of_keep λb o e=>?_,os,bare⟩
    cases q:H b with
    |none=>exact un.keep b o e q (by intro z;exact absurd (show b∈([]:Ac Ak) from z) (by simp)) (by simp)
    |some u=>
     rcases hO b with z|⟨ob,xs,z⟩
     .rw[q]at z;cases z
     .have z2:=un.frzs b ob _ z;obtain⟨e1,_⟩:=hok b _ z;obtain⟨e2,_⟩:=hok' b _ z2;rw[e]at e1;cases e1;exact e2
 cases hk:K.lookup a with
 |some o=>
  -- the script is one of the module's own objects
  have e:=KX a o hk;rw[ha]at e;cases e;refine core (λ_=>Af) (λ_=>.inl rfl) (.inr ⟨_,vs.toArray,_,hk,rfl,rfl,rfl,by rw[AG,lenV];exact hl,by simpa using rv⟩) (λb u z=>by have z':(Af:Aq HO)=Ab u:=z;cases z') (λb z=>absurd rfl z) λz=>absurd rfl z
 |none=>
  refine core (λb=>if b=a then Ab (.frz { cls:=.type "list",data:=.seq vs.toArray } (.lst (ns.map V.int))) else Af) (λb=>?_) (.inl (.inr ⟨{ cls:=.type "list",data:=.seq vs.toArray },AF rfl⟩)) (λb u z=>?_) (λb z=>?_) λ_=>hk
  .by_cases hb:b=a
   .exact .inr ⟨_,_,AF hb⟩
   .exact .inl (AN hb)
  .by_cases hb:b=a
   .have z':=(AF hb).symm.trans z;cases z';subst hb;exact⟨ha,by rw[AV];exact hl,vs,_,rv,ha⟩
   .have z':=(AN hb).symm.trans z;cases z'
  .by_cases hb:b=a
   .exact hb
   .exact absurd (AN hb) z
noncomputable abbrev KOf{K:Fg}{h:AJ}(_:K.In h):Fg:=K
theorem walk_of{l:Gk}{n:Ag}{q:AT}{loose:Ac An}{XP:(An->Aq Ai)->AJ->Prop}{YP:AD->AJ->Prop}{d:DefRec}{K:Ma->Fg}{CX:AD->CXT}{sp:AD->Sp}(hn:l.most=Ab n)(hn2:n<=sizeLine)(hdf:d.params.defaults=[])(hr:Room k HK)(hY:∀(w:AD)(h:AJ),YP w h->(K w.params).In h)(F:∀(w:AD)(mg:An->Aq Ai)(fa:Ak)(h:AJ),(K w.params).In h->h.Ns Bh mg->mg d.name=Ab (.ref fa) ->
   ∃ fd:Cv,(∀(s:As)(u:Ai),HJ s fd ⟨[u],[]⟩ [(x,u)]) /\
    ∀ base:AJ,(K w.params).In base->base.Ns Bh mg->FnOk l.prog w (K w.params) mg base (CX w) k fa fd [x] (sp w))(hsp:∀(w:AD)(H:Hp)(a:Ak)(ns:Ac Ad),ns.length<=n->OX H->SqL (K w.params) H a (ns.map V.int)->sp w [.ref a] H (λv _=>v=.bl Aa) λ_ _ _=>Bu)(hCX:∀(w:AD)(H:Hp)(s:As)(e:Ai)(s':As),CX w [] H s (λ_ _ _=>Bu) e s'->Bu):ZX q loose XP YP l.row.toRowW d [] (λf vs=>KY f vs):=by
 refine Att.attach_call hn hdf λw s₀ s₁ mg mb fa o pm cd doc a vs ns G Y_ ho hd hcd hmg hobj hints hlen hg=>?_
 have KX:=hY w _ Y_;obtain⟨fd,hb,hF⟩:=F w mg fa _ KX G.T.g hmg;exact kO KX G.T.g G.T.b G.T.builtins G.T.nolimit hg hobj hints (Cn hlen hn2) hr hF hb (λH hO hS=>hsp w H a ns hlen hO hS) λH e s'=>hCX w H s₁ e s'
end L2
/- THE LAST THEOREM (shape;LID,My.* are yours):
   My.Adr:a structure of the addresses that your layer names (classes,functions);My.Txt K t:a structure (Prop) of the equations over K;
   My.txt_mk:{K} {implicit addresses ..} (e1:nsIn K Bh "law" = Ab (Ab (.ref f))) (e2:K.lookup f=Ab ⟨oc,od,.func (fnOf "law" "law" params body scope dV kV doc pm an cdv ct),sl⟩) (e3:codeIn K cdv "law" = Aa) ..:∃ t,My.Txt K t
set_option maxRecDepth 100000 in
set_option maxHeartbeats 0 in
theorem PySem.Challenge.cw_LID_holds:PySem.Challenge.rw_LID.Holds:=by
 w_on;o_law;k_head;(case hw=>w_witness2)
 k_fill
 refine L2.walk_of (l:=PySem.Challenge.rw_LID) (n:=63) (k:=40) (x := "script") (CX:=λw=>..) (sp:=λ_=>My.sp_law) rfl (by decide) rfl ⟨rfl,by decide,by decide⟩ (λw h Y_=>ZZ Y_) ?F ?S ?C
 case F=>
  intro w mg fa h KX G hmg;have T:∃ t,My.Txt (L2.KOf KX) t:=by
   dsimp only[L2.KOf]                          -- K must stand as «<heap const> w.params» for k_is
   refine' My.txt_mk ?e1 ?e2 ?e3 ..
   (case e1=>PySem.W.k_is)                    -- in the order: a name -> its address -> its object -> its parts
   (case e2=>PySem.W.k_is)
   ..
  obtain⟨t,T⟩:=T;have e0:=hmg.symm.trans (Jv KX G T.law);cases e0                                       -- fa is the law's own address
  exact⟨_,fun s u=>.of_eq rfl,fun base kb nb=>My.law_fn T kb nb⟩     -- if «.of_eq rfl» comes too early: refine' ⟨_,?b,fun base kb nb=>My.law_fn T kb nb⟩;exact fun s u=>.of_eq rfl
 case S=>exact λw H a ns hl hO hS=>..
 case C=>exact ..
(the tactic k_is has no namespace:write k_is) -/
namespace L2
open PySem PySem.Spec PyProof.Rows
noncomputable def Kx(s:Bp):Arguments:=match s with
  |.FunctionDef _ a _ _ _ _ _ _ _ _=>a
  |_=>{posonlyargs:=[],args:=[],vararg:=Af,kwonlyargs:=[],kw_defaults:=[],kwarg:=Af,defaults:=[]}
noncomputable def HY(s:Bp):Ac Bp:=match s with
  |.FunctionDef _ _ b _ _ _ _ _ _ _=>b
  |_=>[]
noncomputable def GS(s:Bp):Cu:=match s with
  |.FunctionDef _ _ _ _ _ _ sc _ _ _=>sc
  |_=>{kind:=.function,names:=[],isGenerator:=Ae,isCoroutine:=Ae}
noncomputable abbrev CX0:CXT:=λ_ _ _ _ _ _=>Bu
structure Fun (K:Fg) (x qual:An) (st:Bp) (f:Ak) (fd:Cv):Prop where
 ex:∃(oc:Ai)(od:Aq Ak)(kV doc pm:Ai)(an:Aq Ak)(cdv ct:Ai)(osl:A6 (Aq Ai)),
  fd=Ec x qual (Kx st) (HY st) (GS st) .none kV doc pm an cdv ct/\K.lookup f=Ab ⟨oc,od,.func fd,osl⟩/\F0 K cdv qual=Aa
 kp:DO K (.ref f)=Aa
section
variable{P:AT}{w:AD}{K:Fg}{mg:An->Aq Ai}{base:AJ}
theorem Fun.ok{x qual:An}{st:Bp}{f:Ak}{fd:Cv}{N ps:Ac An}{k:Ag}{sp:Sp}(F:Fun K x qual st f fd)(S:FnScope N ps (GS st))(len:∀ vs H Q E,sp vs H Q E->vs.length=ps.length)(hbody:∀(cdv:Ai)(A:Bc)(outer:Ac C9)(s:As)(H:Hp)(vs:Ac V)(Q:VK)(E:XK),Room k (A.deeper (FA qual (GS st) s.heap.objs.size f cdv))->sp vs H Q E ->
   ∃ t,PSs (Hf CX0 P w K mg base N qual (GS st) f cdv A outer s H E).nox (HY st) t/\t {nx:=λ_ H'=>Q .non H',rt:=Q} (start N vs) H):FnOk P w K mg base CX0 (k+1) f fd ps sp:=by
 obtain⟨oc,od,kV,doc,pm,an,cdv,ct,osl,rfl,lk,hcd⟩:=F.ex;refine Xm lk hcd S len λA outer s H vs Q E hr hsp=>?_
 obtain⟨t,h,q⟩:=hbody cdv A outer s H vs Q E hr hsp;exact⟨t,h.nox,q⟩
theorem Fun.binds{x qual:An}{st:Bp}{f:Ak}{fd:Cv}{ps:Ac An}(F:Fun K x qual st f fd)(h:∀(kV doc pm:Ai)(an:Aq Ak)(cdv ct:Ai)(us:Ac Ai),us.length=ps.length->Mb (Ec x qual (Kx st) (HY st) (GS st) .none kV doc pm an cdv ct) ⟨us,[]⟩=pure (ps.zip us)):IB K fd ps []:=by
 obtain⟨oc,od,kV,doc,pm,an,cdv,ct,osl,rfl,lk,hcd⟩:=F.ex;exact .all (h kV doc pm an cdv ct)
theorem fx{x qual:An}{st:Bp}{f:Ak}{oc:Ai}{od an:Aq Ak}{osl:A6 (Aq Ai)}{kV doc pm cdv ct:Ai}(l:K.lookup f=Ab ⟨oc,od,.func (Ec x qual (Kx st) (HY st) (GS st) .none kV doc pm an cdv ct),osl⟩)(c:F0 K cdv qual=Aa)(k:DO K (.ref f)=Aa):Fun K x qual st f (Ec x qual (Kx st) (HY st) (GS st) .none kV doc pm an cdv ct):=⟨⟨oc,od,kV,doc,pm,an,cdv,ct,osl,rfl,l,c⟩,k⟩
end
section
variable{X:Cx}
end
def AH(H H':Hp):Prop:=∀ b o,H b=Ab o->H' b=Ab o
theorem AH.refl(H:Hp):AH H H:=λ_ _ h=>h
theorem AH.trans{H H1 H2:Hp}(a:AH H H1)(b:AH H1 H2):AH H H2:=λc o h=>b c o (a c o h)
theorem AH.free{H H':Hp}(e:AH H H'){l:Ak}(h:H' l=Af):H l=Af:=by
 cases q:H l with
 |none=>rfl
 |some o=>
  rw[e l o q]at h;cases h
end L2
section
namespace Ov
open PySem
variable{α β:Type}
inductive D where
 |non|bl (b:Al)|int (i:Ad)|str (x:An)|tup (ds:Ac D)|lst (ds:Ac D)
 |obj (c:Ag) (fs:Ac (An×D))|exc (c:Ag) (fs:Ac (An×D))|dic (kvs:Ac (Ac Ad×D))
 deriving Inhabited
structure Ex where
 c:Ag
 fs:Ac (An×D)
 deriving Inhabited
inductive R (α:Type) where
 |ok (a:α)|exn (x:Ex)|bad
 deriving Inhabited
noncomputable def R.bind{α β:Type}(r:R α)(f:α->R β):R β:=match r with
  |.ok a=>f a
  |.exn x=>.exn x
  |.bad=>.bad
@[simp]theorem R.bind_ok(a:α)(f:α->R β):(R.ok a).bind f=f a:=rfl
@[simp]theorem R.bind_exn(x:Ex)(f:α->R β):(R.exn x:R α).bind f=.exn x:=rfl
@[simp]theorem R.bind_bad(f:α->R β):(R.bad:R α).bind f=.bad:=rfl
theorem R.bind_assoc{γ:Type}(r:R α)(f:α->R β)(g:β->R γ):(r.bind f).bind g=r.bind λa=>(f a).bind g:=by cases r<;>rfl
noncomputable def CN(n:Ag):Al:=ET n 1000000
noncomputable def DZ(i j:Ad):Al:=(decide (-(18446744073709551616:Ad)<i)&&decide (i<18446744073709551616))||(decide (-(18446744073709551616:Ad)<j)&&decide (j<18446744073709551616))
noncomputable def Fh(i j:Ad):Al:=decide (i.natAbs<2 ^ 2000)&&decide (j.natAbs<2 ^ 2000)
noncomputable def Dg:Gu->D->D->R D
 |.Add,.int i,.int j=>.ok (.int (i+j))
 |.Sub,.int i,.int j=>.ok (.int (i-j))
 |.Mult,.int i,.int j=>if (DZ i j||Fh i j)=Aa then .ok (.int (i*j)) else .bad
 |.FloorDiv,.int i,.int j=>if 0<j/\j<1073741824 then .ok (.int (i/j)) else .bad
 |.Mod,.int i,.int j=>if 0<j then .ok (.int (i%j)) else .bad
 |.Pow,.int i,.int j=>if (0<=j/\j<=1000000)/\(-(18446744073709551616:Ad)<i/\i<18446744073709551616) then .ok (.int (i ^ j.toNat)) else .bad
 |.Add,.str x,.str y=>if CN (x.length+y.length)=Aa then .ok (.str (x++y)) else .bad
 |.Add,.lst x,.lst y=>if CN (x.length+y.length)=Aa then .ok (.lst (x++y)) else .bad
 |.Add,.tup x,.tup y=>if (!x.isEmpty&&CN (x.length+y.length))=Aa then .ok (.tup (x++y)) else .bad
 |_,_,_=>.bad
noncomputable def unD:J7->D->R D
 |.USub,.int i=>.ok (.int (-i))
 |_,_=>.bad
noncomputable def b2i(b:Al):Ad:=if b=Aa then 1 else 0
mutual
noncomputable def eqD:D->D->Al
 |.non,.non=>Aa
 |.bl a,.bl b=>a==b
 |.bl a,.int j=>b2i a==j
 |.int i,.bl b=>i==b2i b
 |.int i,.int j=>i==j
 |.str x,.str y=>x==y
 |.tup xs,.tup ys=>eqDs xs ys
 |.lst xs,.lst ys=>eqDs xs ys
 |_,_=>Ae
noncomputable def eqDs:Ac D->Ac D->Al
 |[],[]=>Aa
 |x::xs,y::ys=>eqD x y&&eqDs xs ys
 |_,_=>Ae
end
noncomputable def flD:Ag->D->Al
 |_,.non=>Aa
 |_,.bl _=>Aa
 |_,.int _=>Aa
 |_,.str _=>Aa
 |n+1,.tup xs=>xs.all (flD n)
 |n+1,.lst xs=>xs.all (flD n)
 |_,_=>Ae
noncomputable def EQ:D->Aq (Ac Ad)
 |.tup ds=>keyDs ds
 |_=>Af
where keyDs:Ac D->Aq (Ac Ad)
 |[]=>Ab []
 |.int i::r=>(keyDs r).map (i :: ·)
 |_=>Af
noncomputable def ltD:Ag->D->D->Al
 |0,.int i,.int j=>decide (i<j)
 |n+1,.tup xs,.tup ys=>ltDs (ltD n) xs ys
 |_,_,_=>Ae
where ltDs (lt:D->D->Al):Ac D->Ac D->Al
 |[],[]=>Ae
 |[],_::_=>Aa
 |_::_,[]=>Ae
 |x::xs,y::ys=>if eqD x y=Aa then ltDs lt xs ys else lt x y
noncomputable def rkD:Ag->D->Al
 |0,.int _=>Aa
 |n+1,.tup xs=>xs.all (rkD n)
 |_,_=>Ae
noncomputable def Sb(lt:D->D->Al)(x:D):Ac D->Ac D
 |[]=>[x]
 |y::ys=>if lt y x=Aa then y::Sb lt x ys else x::y::ys
noncomputable def W5(lt:D->D->Al):Ac D->Ac D
 |[]=>[]
 |x::xs=>Sb lt x (W5 lt xs)
noncomputable def Sn:Ac D->Al
 |[]=>Aa
 |x::xs=>xs.all (λy=>!eqD x y)&&Sn xs
noncomputable def SV:Ac D->Al
 |[]=>Aa
 |[_]=>Aa
 |x::y::r=>ltD 1 x y&&SV (y::r)
noncomputable def Vo(xs:Ac D):R (Ac D):=if (xs.all (λd=>rkD 1 d && !eqD d (.tup []))&&Sn xs&&(decide (xs.length<64)||(SV xs&&decide (xs.length<=1000))))=Aa then .ok (W5 (ltD 1) xs) else .bad
noncomputable def B7:DR->D->D->R D
  |.Eq,x,y=>if (flD 5 x&&flD 5 y)=Aa then .ok (.bl (eqD x y)) else .bad
  |.NotEq,x,y=>if (flD 5 x&&flD 5 y)=Aa then .ok (.bl (!eqD x y)) else .bad
  |.Lt,.int i,.int j=>.ok (.bl (decide (i<j)))
  |.LtE,.int i,.int j=>.ok (.bl (decide (i<=j)))
  |.Gt,.int i,.int j=>.ok (.bl (decide (j<i)))
  |.GtE,.int i,.int j=>.ok (.bl (decide (j<=i)))
  |.In,x,.lst ys=>if (flD 5 x&&ys.all (flD 5))=Aa then .ok (.bl (ys.any λy=>eqD y x)) else .bad
  |.In,x,.dic kvs=>match EQ x with
    |some k=>.ok (.bl (kvs.any λp=>p.1==k))
    |none=>.bad
  |.In,x,.tup ys=>if (flD 5 x&&ys.all (flD 5))=Aa then .ok (.bl (ys.any λy=>eqD y x)) else .bad
  |.NotIn,x,.lst ys=>if (flD 5 x&&ys.all (flD 5))=Aa then .ok (.bl (!ys.any λy=>eqD y x)) else .bad
  |.NotIn,x,.dic kvs=>match EQ x with
    |some k=>.ok (.bl (!kvs.any λp=>p.1==k))
    |none=>.bad
  |.NotIn,x,.tup ys=>if (flD 5 x&&ys.all (flD 5))=Aa then .ok (.bl (!ys.any λy=>eqD y x)) else .bad
  |.Is,.non,.non=>.ok (.bl Aa)
  |.Is,.bl _,.non=>.ok (.bl Ae)
  |.Is,.int _,.non=>.ok (.bl Ae)
  |.Is,.str _,.non=>.ok (.bl Ae)
  |.Is,.tup _,.non=>.ok (.bl Ae)
  |.Is,.lst _,.non=>.ok (.bl Ae)
  |.Is,.obj _ _,.non=>.ok (.bl Ae)
  |.Is,.bl a,.bl b=>.ok (.bl (a==b))
  |.IsNot,.bl a,.bl b=>.ok (.bl (!(a==b)))
  |.IsNot,.non,.non=>.ok (.bl Ae)
  |.IsNot,.bl _,.non=>.ok (.bl Aa)
  |.IsNot,.int _,.non=>.ok (.bl Aa)
  |.IsNot,.str _,.non=>.ok (.bl Aa)
  |.IsNot,.tup _,.non=>.ok (.bl Aa)
  |.IsNot,.lst _,.non=>.ok (.bl Aa)
  |.IsNot,.obj _ _,.non=>.ok (.bl Aa)
  |_,_,_=>.bad
noncomputable def CH:D->R Al
 |.non=>.ok Ae
 |.bl b=>.ok b
 |.int i=>.ok (i != 0)
 |.str x=>if CN x.length=Aa then .ok (x.length != 0) else .bad
 |.tup xs=>.ok (!xs.isEmpty)
 |.lst xs=>.ok (!xs.isEmpty)
 |_=>.bad
noncomputable def plD(n:Ag)(i:Ad):Aq Ag:=if 0<=i then (if i<n then Ab i.toNat else Af) else if -(n:Ad)<=i then Ab (i+n).toNat else Af
noncomputable def DH(xs:Ac D)(i:Ad):R D:=match plD xs.length i with
  |some k=>match xs[k]? with
    |some d=>.ok d
    |none=>.bad
  |none=>.bad
noncomputable def Dl(kvs:Ac (Ac Ad×D))(k:Ac Ad):Aq D:=(kvs.find? λp=>p.1==k).map (·.2)
noncomputable def Gx(kvs:Ac (Ac Ad×D))(k:Ac Ad)(v:D):Ac (Ac Ad×D):=if (kvs.any λp=>p.1==k)=Aa then kvs.map (λp=>if (p.1==k)=Aa then (k,v) else p) else kvs++[(k,v)]
noncomputable def R5:D->R (Ac (Ac Ad×D))
 |.dic kvs=>.ok kvs
 |_=>.bad
noncomputable def Ft(d:D):R (Ac Ad):=match EQ d with
  |some k=>.ok k
  |none=>.bad
noncomputable def Cr:D->D->R D
  |.lst xs,.int i=>DH xs i
  |.tup xs,.int i=>DH xs i
  |.dic kvs,k=>match (EQ k).bind (Dl kvs) with
    |some d=>.ok d
    |none=>.bad
  |_,_=>.bad
noncomputable def Fu:D->R Ad
 |.int i=>.ok i
 |_=>.bad
noncomputable def Eo:D->R Al
 |.bl b=>.ok b
 |_=>.bad
noncomputable def Ch:D->R (Ac D)
 |.lst xs=>.ok xs
 |.tup xs=>.ok xs
 |_=>.bad
noncomputable def LP:D->R (Ac D)
 |.lst xs=>.ok xs
 |_=>.bad
inductive BI where
 |len|abs|max|min|int|list|tuple|all|any|sum|sorted|str|count|stp|lset|tmin|tmax|tlt|rvs
 deriving DecidableEq,Inhabited
inductive Ki where
 |int|bool|str|list|tuple|verr|cls (c:Ag)
 deriving DecidableEq,Inhabited
mutual
inductive E where
 |non|bl (b:Al)|int (i:Ad)|str (x:An)
 |var (i:Ag)|glob (g:Ag)
 |bin (op:Gu) (a b:E)|un (op:J7) (a:E)|no (a:E)
 |and (es:Es)|or (es:Es)
 |cmp (op:DR) (a b:E)|cmp2 (op op':DR) (a b c:E)
 |ite (c a b:E)
 |call (f:Ag) (as:Es)|bi (b:BI) (as:Es)
 |isi (a:E) (ks:Ac Ki)
 |idx (a i:E)|sl (a lo hi:E)
 |tup (es:Es)|lst (es:Es)
 |comp (elt:E) (t:Ag) (it:I) (c:E)|compT (elt:E) (ts:Ac Ag) (it:I) (c:E)|tupI (it:I)
 /-- d.get(k,x) -/
 |dget (i:Ag) (k x:E)
 |fld (o:E) (f:An)
inductive Es where
 |nil|cons (e:E) (es:Es)
inductive I where
 |e (a:E)|rng (a:E)|rng2 (a b:E)|zip (a b:E)|zip3 (a b c:E)|enm (a:E)
end
abbrev Sl:=Aq (D×Al)
abbrev Rho:=Ac Sl
structure Gam where
 F:Ag->Ac D->R D
 G:Ag->D
 up:Ag->Ac Ag
 /-- the defs whose answer is a new list -/
 fr:Ag->Al
 /-- what is raised: the class,what it is made of -/
 xn:Ag->Ac D->R Ex
noncomputable def CJ(lo:Ad)(n:Ag):Ac D:=(AZ n).map fun(k:Ag)=>D.int (lo+(k:Ad))
noncomputable def CF(lo hi:Ad):R (Ac D):=if (-(4611686018427387904:Ad)<=lo/\lo<4611686018427387904)/\(-(4611686018427387904:Ad)<=hi/\hi<4611686018427387904)/\hi-lo<1000000 then .ok (CJ lo (hi-lo).toNat) else .bad
noncomputable def kiD(up:Ag->Ac Ag):Ki->D->Al
 |.int,.int _=>Aa
 |.int,.bl _=>Aa
 |.bool,.bl _=>Aa
 |.str,.str _=>Aa
 |.list,.lst _=>Aa
 |.tuple,.tup _=>Aa
 |.cls c,.obj k _=>(up k).contains c
 |.cls c,.exc k _=>(up k).contains c
 |.verr,.exc _ _=>Aa
 |_,_=>Ae
noncomputable def FK:Ki->Al
 |.cls _=>Aa
 |.verr=>Aa
 |_=>Ae
noncomputable def Ih(up:Ag->Ac Ag)(ks:Ac Ki)(x:D):R D:=match x with
  |.obj _ _=>.bad
  |.exc _ _=>if ks.all FK=Aa then .ok (.bl (ks.any λk=>kiD up k x)) else .bad
  |.dic _=>.bad
  |_=>if ks.any FK=Aa then .bad else .ok (.bl (ks.any λk=>kiD up k x))
noncomputable def EO:D->R Al
 |.non=>.ok Ae
 |.bl b=>.ok b
 |.int i=>.ok (i != 0)
 |_=>.bad
noncomputable def GA:Ac D->R Al
 |[]=>.ok Aa
 |x::r=>(EO x).bind λb=>(GA r).bind λc=>.ok (b&&c)
noncomputable def Ga:Ac D->R Al
 |[]=>.ok Ae
 |x::r=>(EO x).bind λb=>(Ga r).bind λc=>.ok (b||c)
noncomputable def HA:Ad->Ac D->R Ad
 |a,[]=>.ok a
 |a,.int i::r=>HA (a+i) r
 |_,_=>.bad
noncomputable def FJ:Ac D->Ac D->Ac D
 |x::xs,y::ys=>.tup [x,y]::FJ xs ys
 |_,_=>[]
noncomputable def Rx:Ac D->Ac D->Ac D->Ac D
 |x::xs,y::ys,z::zs=>.tup [x,y,z]::Rx xs ys zs
 |_,_,_=>[]
noncomputable def LD(x y z:D):R (Ac D):=(Ch x).bind λxs=>(Ch y).bind λys=>(Ch z).bind λzs=>if 0<xs.length/\xs.length<=1000/\ys.length=xs.length/\zs.length=xs.length then .ok (Rx xs ys zs) else .bad
noncomputable def EH:Ad->Ac D->Ac D
 |_,[]=>[]
 |i,x::xs=>.tup [.int i,x]::EH (i+1) xs
noncomputable def nlD:Ag->D->Al
 |_,.non=>Aa
 |_,.bl _=>Aa
 |_,.int _=>Aa
 |_,.str _=>Aa
 |n+1,.tup xs=>xs.all (nlD n)
 |_,_=>Ae
noncomputable def G1(fr:Al):D->Al
 |.lst ds=>fr&&ds.all (nlD 5)
 |d=>nlD 5 d
noncomputable def Jm:Ac D->Aq (Ac Ad)
 |[]=>Ab []
 |.int i::r=>(Jm r).map (i :: ·)
 |_=>Af
noncomputable def IH(i:Ad):Ac Ad->Ad
 |[]=>i
 |j::r=>IH (if j<i then j else i) r
noncomputable def pk2(k n:Ag):Ac Ag:=(AZ ((n-min k n+1)/2)).map λj=>min k n+2*j
noncomputable def SJ(k:Ag)(xs:Ac D):Ac D:=(pk2 k xs.length).filterMap λi=>xs[i]?
noncomputable def ddS(acc:Ac Ad)(x:Ad):Ac Ad:=if acc.any (· == x)=Aa then acc else acc++[x]
noncomputable def ddN(is:Ac Ad):Ag:=(is.foldl ddS []).length
noncomputable def Xr(xs:Ac D):R D:=match Jm xs with
  |some is=>if ET is.length 4000=Aa then .ok (.int (ddN is)) else .bad
  |none=>.bad
noncomputable def mmD(mx:Al)(x y:D):R D:=if [x,y].all (λd=>rkD 1 d && !eqD d (.tup []))=Aa then .ok (if (if mx=Aa then ltD 1 x y else ltD 1 y x)=Aa then y else x) else .bad
noncomputable def SF(x y:D):R D:=if [x,y].all (λd=>rkD 1 d && !eqD d (.tup []))=Aa then .ok (.bl (ltD 1 x y)) else .bad
noncomputable def fB(k:Ac Ad):Ad:=reduceHash (Builtin.Tuple.tupleHashOf (k.map hashInt))
noncomputable def Xu:Ac D->Aq (Ac (Ac Ad))
 |[]=>Ab []
 |.tup xs::r=>(Jm xs).bind λk=>(Xu r).map (k :: ·)
 |_=>Af
noncomputable def SD:Ac Ad->Al
 |[]=>Aa
 |h::r=>!r.contains h&&SD r
noncomputable def aQ(xs:Ac D):R D:=match Xu xs with
  |some ks=>if (ET ks.length 3&&SD (ks.map fB))=Aa then .ok (.int ks.length) else .bad
  |none=>.bad
noncomputable def biD:BI->Ac D->R D
  |.len,[.lst xs]=>.ok (.int xs.length)
  |.len,[.tup xs]=>.ok (.int xs.length)
  |.len,[.str x]=>if CN x.length=Aa then .ok (.int x.length) else .bad
  |.abs,[.int i]=>.ok (.int (if i<0 then -i else i))
  |.max,[.int i,.int j]=>.ok (.int (if i<j then j else i))
  |.min,[.int i,.int j]=>.ok (.int (if j<i then j else i))
  |.min,[.lst xs]=>match Jm xs with
    |some (i::is)=>.ok (.int (IH i is))
    |_=>.bad
  |.int,[.int i]=>.ok (.int i)
  |.int,[.bl b]=>.ok (.int (b2i b))
  |.list,[.lst xs]=>.ok (.lst xs)
  |.list,[.tup xs]=>.ok (.lst xs)
  |.tuple,[.lst xs]=>.ok (.tup xs)
  |.tuple,[.tup xs]=>.ok (.tup xs)
  |.all,[.lst xs]=>(GA xs).bind λb=>.ok (.bl b)
  |.any,[.lst xs]=>(Ga xs).bind λb=>.ok (.bl b)
  |.any,[.tup xs]=>(Ga xs).bind λb=>.ok (.bl b)
  |.sum,[.lst xs]=>(HA 0 xs).bind λi=>.ok (.int i)
  |.sum,[.tup xs]=>(HA 0 xs).bind λi=>.ok (.int i)
  |.sorted,[.lst xs]=>(Vo xs).bind λys=>.ok (.lst ys)
  |.count,[.lst xs,x]=>if (flD 5 x&&xs.all (flD 5))=Aa then .ok (.int ((xs.filter λy=>eqD y x).length:Ag)) else .bad
  |.len,[.dic kvs]=>if CN kvs.length=Aa then .ok (.int kvs.length) else .bad
  |.stp,[.lst xs,.int k]=>.ok (.lst (SJ k.toNat xs))
  |.lset,[.lst xs]=>Xr xs
  |.lset,[.tup xs]=>aQ xs
  |.tmin,[x,y]=>mmD Ae x y
  |.tmax,[x,y]=>mmD Aa x y
  |.tlt,[x,y]=>SF x y
  |.rvs,[.lst xs]=>.ok (.lst xs.reverse)
  |_,_=>.bad
noncomputable def slE(c:E)(d:D):R (Aq Ad):=match c with
  |.non=>.ok Af
  |_=>(Fu d).bind λi=>.ok (Ab i)
noncomputable def GX(n d:Ag):Aq Ad->Ag
 |none=>d
 |some i=>if i<0 then (i+n).toNat else min i.toNat n
noncomputable def KP(xs:Ac D)(lo hi:Aq Ad):Ac D:=(xs.drop (GX xs.length 0 lo)).take (GX xs.length xs.length hi-GX xs.length 0 lo)
noncomputable def slD:D->Aq Ad->Aq Ad->R D
 |.lst xs,l,h=>.ok (.lst (KP xs l h))
 |.tup xs,l,h=>if (GX xs.length 0 l==0&&GX xs.length xs.length h==xs.length)=Aa then .bad else .ok (.tup (KP xs l h))
 |_,_,_=>.bad
noncomputable def SL:D->An->R D
  |.exc _ fs,f=>match fs.lookup f with
    |some d=>.ok d
    |none=>.bad
  |_,_=>.bad
noncomputable def Gb(Y:Rho)(i:Ag):R D:=match Y[i]? with
  |some (Ab (d,Ae))=>.ok d
  |_=>.bad
noncomputable def EN(Y:Rho)(i:Ag):R D:=match Y[i]? with
  |some (Ab (d,_))=>.ok d
  |_=>.bad
noncomputable def shE(Y:Rho):E->Al
  | .var i=>(match Y[i]? with
    |some (Ab (_,Aa))=>Ae
    | _=>Aa)
  |_=>Aa
noncomputable def JY(Y:Rho):Es->Al
 |.nil=>Aa
 |.cons e es=>shE Y e&&JY Y es
noncomputable def Ff:Ac Ag->Ac D->Rho->Aq Rho
 |[],[],Y=>Ab Y
 |t::ts,d::ds,Y=>Ff ts ds (Y.set t (Ab (d,Ae)))
 |_,_,_=>Af
noncomputable def F7(ts:Ac Ag)(d:D)(Y:Rho):R Rho:=match d with
  | .tup xs=>(match Ff ts xs Y with
    |some Y'=>.ok Y'
    | none=>.bad)
  |_=>.bad
noncomputable def Op(ts:Ac Ag)(d:D)(Y:Rho):R Rho:=match d with
  | .lst xs=>(match Ff ts xs Y with
    |some Y'=>.ok Y'
    | none=>.bad)
  |d=>F7 ts d Y
noncomputable def BR(g:D->R Al)(f:D->R D):Ac D->R (Ac D)
 |[]=>.ok []
 |x::xs=>(g x).bind λb=>if b=Aa then (f x).bind λy=>(BR g f xs).bind λys=>.ok (y::ys) else BR g f xs
noncomputable def noX{α:Type}:R α->R α
 |.ok a=>.ok a
 |_=>.bad
noncomputable def top(Y:Rho)(e:E)(r:R D):R D:=match e with
  |.var i=>EN Y i
  |_=>r
mutual
noncomputable def evE(Z:Gam)(Y:Rho):E->R D
 |.non=>.ok .non
 |.bl b=>.ok (.bl b)
 |.int i=>.ok (.int i)
 |.str x=>.ok (.str x)
 |.var i=>Gb Y i
 |.glob g=>.ok (Z.G g)
 |.bin op a b=>(top Y a (evE Z Y a)).bind λx=>(top Y b (evE Z Y b)).bind λy=>Dg op x y
 |.un op a=>(top Y a (evE Z Y a)).bind λx=>unD op x
 |.no a=>(top Y a (evE Z Y a)).bind λx=>(Eo x).bind λb=>.ok (.bl (!b))
 |.and es=>evN Z Y es
 |.or es=>evO Z Y es
 |.cmp op a b=>(top Y a (evE Z Y a)).bind λx=>(top Y b (evE Z Y b)).bind λy=>B7 op x y
 |.cmp2 op op' a b c=>(top Y a (evE Z Y a)).bind λx=>(top Y b (evE Z Y b)).bind λy=>(B7 op x y).bind λz=>(Eo z).bind λk=>if k=Aa then (top Y c (evE Z Y c)).bind λu=>B7 op' y u else .ok (.bl Ae)
 |.ite c a b=>(top Y c (evE Z Y c)).bind λx=>(CH x).bind λk=>if k=Aa then evE Z Y a else evE Z Y b
 |.call f as=>(evB Z Y as).bind λxs=>(Z.F f xs).bind λd=>if JY Y as=Aa then .ok d else if G1 (Z.fr f) d=Aa then .ok d else .bad
 |.bi b as=>(evB Z Y as).bind λxs=>biD b xs
 |.isi a ks=>(top Y a (evE Z Y a)).bind λx=>Ih Z.up ks x
 |.idx a i=>(top Y a (evE Z Y a)).bind λx=>(top Y i (evE Z Y i)).bind λy=>Cr x y
 |.sl a lo hi=>(top Y a (evE Z Y a)).bind λx=>(top Y lo (evE Z Y lo)).bind λl=>(slE lo l).bind λl'=>(top Y hi (evE Z Y hi)).bind λh=>(slE hi h).bind λh'=>slD x l' h'
 |.tup es=>(evA Z Y es).bind λxs=>.ok (.tup xs)
 |.lst es=>(evA Z Y es).bind λxs=>.ok (.lst xs)
 |.comp elt t it c=>(evI Z Y it).bind λxs=>(noX (BR (λx=>(top (Y.set t (Ab (x,Ae))) c (evE Z (Y.set t (Ab (x,Ae))) c)).bind CH) (λx=>evE Z (Y.set t (Ab (x,Ae))) elt) xs)).bind λys=>.ok (.lst ys)
 |.compT elt ts it c=>(evI Z Y it).bind λxs=>(noX (BR (λx=>(F7 ts x Y).bind λY'=>(top Y' c (evE Z Y' c)).bind CH) (λx=>(F7 ts x Y).bind λY'=>evE Z Y' elt) xs)).bind λys=>.ok (.lst ys)
 |.tupI it=>(evI Z Y it).bind λxs=>.ok (.tup xs)
 |.dget i k x=>(EN Y i).bind λd=>(R5 d).bind λkvs=>(top Y k (evE Z Y k)).bind λa=>(Ft a).bind λj=>(evE Z Y x).bind λy=>.ok ((Dl kvs j).getD y)
 |.fld o f=>(top Y o (evE Z Y o)).bind λx=>SL x f
noncomputable def evN(Z:Gam)(Y:Rho):Es->R D
 |.nil=>.bad
 |.cons e .nil=>evE Z Y e
 |.cons e (.cons e' es)=>(evE Z Y e).bind λx=>(Eo x).bind λc=>if c=Aa then evN Z Y (.cons e' es) else .ok (.bl Ae)
noncomputable def evO(Z:Gam)(Y:Rho):Es->R D
 |.nil=>.bad
 |.cons e .nil=>evE Z Y e
 |.cons e (.cons e' es)=>(evE Z Y e).bind λx=>(Eo x).bind λc=>if c=Aa then .ok (.bl Aa) else evO Z Y (.cons e' es)
noncomputable def evA(Z:Gam)(Y:Rho):Es->R (Ac D)
 |.nil=>.ok []
 |.cons e es=>(evE Z Y e).bind λx=>(evA Z Y es).bind λxs=>.ok (x::xs)
noncomputable def evB(Z:Gam)(Y:Rho):Es->R (Ac D)
 |.nil=>.ok []
 |.cons e es=>(top Y e (evE Z Y e)).bind λx=>(evB Z Y es).bind λxs=>.ok (x::xs)
noncomputable def evI(Z:Gam)(Y:Rho):I->R (Ac D)
 |.e a=>(evE Z Y a).bind Ch
 |.rng a=>(top Y a (evE Z Y a)).bind λx=>(Fu x).bind λj=>CF 0 j
 |.rng2 a b=>(top Y a (evE Z Y a)).bind λx=>(top Y b (evE Z Y b)).bind λy=>(Fu x).bind λi=>(Fu y).bind λj=>CF i j
 |.zip a b=>(evE Z Y a).bind λx=>(evE Z Y b).bind λy=>(Ch x).bind λxs=>(Ch y).bind λys=>.ok (FJ xs ys)
 |.zip3 a b c=>(evE Z Y a).bind λx=>(evE Z Y b).bind λy=>(evE Z Y c).bind λz=>LD x y z
 |.enm a=>(evE Z Y a).bind λx=>(Ch x).bind λxs=>.ok (EH 0 xs)
end
noncomputable def Do(Z:Gam):E->Al
 |.lst _=>Aa
 |.comp _ _ _ _=>Aa
 |.compT _ _ _ _=>Aa
 |.bin .Add _ _=>Aa
 |.bi .list _=>Aa
 |.bi .sorted _=>Aa
 |.sl _ _ _=>Aa
 |.call f _=>Z.fr f
 |_=>Ae
mutual
inductive S where
 |pass
 /-- x=e;fresh: x alone holds the new list -/
 |asg (i:Ag) (fresh:Al) (e:E)
 /-- a,b,..=e -/
 |asgT (ts:Ac Ag) (e:E)
 |expr (e:E)
 |ret (e:E)|retN
 |ife (c:E) (a b:Ss)
 |fors (t:Ag) (it:I) (body:Ss)
 |forT (ts:Ac Ag) (it:I) (body:Ss)
 |whl (c:E) (body:Ss)
 /-- raise C(e,..) -/
 |rais (c:Ag) (as:Es)
 /-- try: body except C as x: h -/
 |tryx (body:Ss) (c:Ag) (x:Ag) (h:Ss)
 /-- .. except C as x: h,except C' as x: h',else: els -/
 |try2 (body:Ss) (c:Ag) (x:Ag) (h:Ss) (c':Ag) (h' els:Ss)
 /-- x.append(e),x.extend(e),x.insert(k,e),x.reverse(),x.clear() -/
 |app (i:Ag) (e:E)|ext (i:Ag) (e:E)|ins (i:Ag) (k e:E)|rev (i:Ag)|clr (i:Ag)
 /-- d={},d[k]=e,d.setdefault(k,e) -/
 |dnw (i:Ag)|dput (i:Ag) (k e:E)|dsd (i:Ag) (k e:E)
 /-- x[k]=e -/
 |put (i:Ag) (k e:E)
 /-- x[k],x[l]=x[l],x[k] -/
 |swp (i k l:Ag)
 /-- x.append(y.pop(e)) -/
 |apop (j i:Ag) (e:E)
 |brk|cont
 /-- if c: a else: b,the test with every name let go -/
 |lnd (c:E) (a b:Ss)
 /-- nothing: from here on x is no longer changed -/
 |rel (i:Ag)
inductive Ss where
 |nil|cons (s:S) (ss:Ss)
end
inductive O where
 |next (Y:Rho)|ret (d:D) (fr:Al)|brk (Y:Rho)|cont (Y:Rho)|exn (x:Ex) (Y:Rho)|bad
 deriving Inhabited
noncomputable def O.of{α:Type}(Y:Rho)(r:R α)(f:α->O):O:=match r with
  |.ok a=>f a
  |.exn x=>.exn x Y
  |.bad=>.bad
@[simp]theorem O.of_ok(Y:Rho)(a:α)(f:α->O):O.of Y (.ok a) f=f a:=rfl
@[simp]theorem O.of_exn(Y:Rho)(x:Ex)(f:α->O):O.of Y (.exn x:R α) f=.exn x Y:=rfl
@[simp]theorem O.of_bad(Y:Rho)(f:α->O):O.of Y (.bad:R α) f=.bad:=rfl
noncomputable def Gf(Z:Gam)(Y:Rho)(i:I):R (Ac D):=evI Z Y i
noncomputable def C3(Y:Rho)(i:Ag):R (Ac D):=match Y[i]? with
  |some (Ab (.lst xs,Aa))=>.ok xs
  |_=>.bad
noncomputable def He(Y:Rho)(i:Ag):R (Ac (Ac Ad×D)):=match Y[i]? with
  |some (Ab (.dic xs,Aa))=>.ok xs
  |_=>.bad
noncomputable def LO:Ag:=4096
noncomputable def O.seq(o:O)(f:Rho->O):O:=match o with
  |.next Y=>f Y
  |.ret d b=>.ret d b
  |.brk Y=>.brk Y
  |.cont Y=>.cont Y
  |.exn x Y=>.exn x Y
  |.bad=>.bad
noncomputable def O.turn(o:O)(f:Rho->O):O:=match o with
  |.next Y=>f Y
  |.cont Y=>f Y
  |.brk Y=>.next Y
  |.ret d b=>.ret d b
  |.exn x Y=>.exn x Y
  |.bad=>.bad
noncomputable def B5(body:D->Rho->O):Ac D->Rho->O
 |[],Y=>.next Y
 |x::xs,Y=>(body x Y).turn (B5 body xs)
noncomputable def Fw(c:Rho->R Al)(body:Rho->O):Ag->Rho->O
 |0,_=>.bad
 |n+1,Y=>O.of Y (c Y) λb=>if b=Aa then (body Y).turn (Fw c body n) else .next Y
noncomputable def Xx(Y:Rho)(k:Ag):R Ad:=(Gb Y k).bind Fu
noncomputable def dY(Y:Rho)(d:D)(i k l:Ag):O:=match d with
  |.tup [x,y]=>O.of Y (C3 Y i) λxs=>O.of Y (Xx Y k) λa=>O.of Y (Xx Y l) λb=>match plD xs.length a,plD xs.length b with
    |some m,Ab n=>.next (Y.set i (Ab (.lst ((xs.set m x).set n y),Aa)))
    |_,_=>.bad
  |_=>.bad
noncomputable def apD(Y:Rho)(j i:Ag)(ys xs:Ac D)(n:Ad):O:=match plD xs.length n with
  | some m=>(match xs[m]? with
    |some d=>if (j != i&&(CN xs.length&&CN (ys.length+1)))=Aa then .next ((Y.set i (Ab (.lst (xs.eraseIdx m),Aa))).set j (Ab (.lst (ys++[d]),Aa))) else .bad
    | none=>.bad)
  |none=>.bad
noncomputable def shS:Sl->Sl
  | some (d,Aa)=>(match d with
    |.lst ds=>Ab (.lst ds,Ae)
    | _=>Af)
  |s=>s
noncomputable def shA(Y:Rho):Rho:=Y.map shS
noncomputable def hdO(i:Ag)(y:Ex)(Y':Rho)(fh:Rho->O):O:=match fh (Y'.set i (Ab (.exc y.c y.fs,Ae))) with
  |.next Y''=>.next (Y''.set i Af)
  |.ret d f=>.ret d f
  |_=>.bad
mutual
noncomputable def evS(Z:Gam)(Y:Rho):S->O
  |.pass=>.next Y
  | .asg i fresh e=>O.of Y (evE Z Y e) λd=>if fresh=Aa then (if Do Z e=Aa then (match d with
      |.lst xs=>.next (Y.set i (Ab (.lst xs,Aa)))
      | _=>.bad) else .bad) else .next (Y.set i (Ab (d,Ae)))
  |.asgT ts e=>O.of Y (evE Z Y e) λd=>O.of Y (Op ts d Y) λY'=>.next Y'
  |.expr e=>O.of Y (evE Z Y e) λ_=>.next Y
  |.ret e=>O.of Y (top Y e (evE Z Y e)) λd=>.ret d (Do Z e||(match e with | .var i=>(match Y[i]? with|some (Ab (_,o))=>o|_=>Ae)|_=>Ae))
  |.retN=>.ret .non Ae
  |.ife c a b=>O.of Y ((top Y c (evE Z Y c)).bind CH) λk=>if k=Aa then evSs Z Y a else evSs Z Y b
  |.lnd c a b=>O.of Y ((top (shA Y) c (evE Z (shA Y) c)).bind CH) λk=>if k=Aa then evSs Z Y a else evSs Z Y b
  |.fors t it body=>O.of Y (Gf Z Y it) λxs=>B5 (λx Y'=>evSs Z (Y'.set t (Ab (x,Ae))) body) xs Y
  |.forT ts it body=>O.of Y (Gf Z Y it) λxs=>B5 (λx Y'=>O.of Y' (F7 ts x Y') λY''=>evSs Z Y'' body) xs Y
  |.whl c body=>Fw (λY'=>(top Y' c (evE Z Y' c)).bind CH) (λY'=>evSs Z Y' body) LO Y
  |.rais c as=>O.of Y (noX (evA Z Y as)) λxs=>O.of Y (Z.xn c xs) λx=>.exn x Y
  |.tryx body c x h=>match evSs Z Y body with
      | .exn y Y'=>if (Z.up y.c).contains c=Aa then (match evSs Z (Y'.set x (Ab (.exc y.c y.fs,Ae))) h with
          |.next Y''=>.next (Y''.set x Af)
          |.ret d f=>.ret d f
          | _=>.bad) else .bad
      |o=>o
  |.try2 body c x h c' h' els=>match evSs Z Y body with
      |.exn y Y'=>if (Z.up y.c).contains c=Aa then hdO x y Y' (λr=>evSs Z r h) else if (Z.up y.c).contains c'=Aa then hdO x y Y' (λr=>evSs Z r h') else .bad
      |.next Y'=>evSs Z Y' els
      |o=>o
  |.app i e=>O.of Y (C3 Y i) λxs=>O.of Y (evE Z Y e) λd=>if CN (xs.length+1)=Aa then .next (Y.set i (Ab (.lst (xs++[d]),Aa))) else .bad
  |.ext i e=>O.of Y (C3 Y i) λxs=>O.of Y (evE Z Y e) λd=>O.of Y (LP d) λys=>if CN (xs.length+ys.length)=Aa then .next (Y.set i (Ab (.lst (xs++ys),Aa))) else .bad
  |.ins i k e=>O.of Y (C3 Y i) λxs=>O.of Y ((top Y k (evE Z Y k)).bind Fu) λj=>O.of Y (evE Z Y e) λd=>if (CN (xs.length+1)&&decide (0<=j)&&decide (j<=xs.length))=Aa then .next (Y.set i (Ab (.lst (xs.take j.toNat++d::xs.drop j.toNat),Aa))) else .bad
  |.rev i=>O.of Y (C3 Y i) λxs=>.next (Y.set i (Ab (.lst xs.reverse,Aa)))
  |.clr i=>O.of Y (C3 Y i) λ_=>.next (Y.set i (Ab (.lst [],Aa)))
  |.dnw i=>.next (Y.set i (Ab (.dic [],Aa)))
  |.dput i k e=>O.of Y (evE Z Y e) λd=>O.of Y (He Y i) λxs=>O.of Y ((top Y k (evE Z Y k)).bind Ft) λj=>if CN (xs.length+1)=Aa then .next (Y.set i (Ab (.dic (Gx xs j d),Aa))) else .bad
  |.dsd i k e=>O.of Y (He Y i) λxs=>O.of Y ((top Y k (evE Z Y k)).bind Ft) λj=>O.of Y (evE Z Y e) λd=>if CN (xs.length+1)=Aa then .next (Y.set i (Ab (.dic (if (xs.any λp=>p.1==j)=Aa then xs else Gx xs j d),Aa))) else .bad
  |.put i k e=>O.of Y (evE Z Y e) λd=>O.of Y (C3 Y i) λxs=>O.of Y ((top Y k (evE Z Y k)).bind Fu) λj=>match plD xs.length j with
      |some n=>.next (Y.set i (Ab (.lst (xs.set n d),Aa)))
      |none=>.bad
  |.swp i k l=>O.of Y (evE Z Y (.tup (.cons (.idx (.var i) (.var l)) (.cons (.idx (.var i) (.var k)) .nil)))) λd=>dY Y d i k l
  |.apop j i e=>O.of Y (C3 Y j) λys=>O.of Y (C3 Y i) λxs=>O.of Y (evE Z Y e) λd=>O.of Y (Fu d) λn=>apD Y j i ys xs n
  |.brk=>.brk Y
  |.cont=>.cont Y
  |.rel i=>match Y[i]? with
      |some (Ab (d,Aa))=>.next (Y.set i (Ab (d,Ae)))
      |_=>.next Y
noncomputable def evSs(Z:Gam)(Y:Rho):Ss->O
 |.nil=>.next Y
 |.cons s ss=>(evS Z Y s).seq λY'=>evSs Z Y' ss
end
structure Df where
 n:Ag
 fr:Al
 body:Ss
noncomputable def Bv(n:Ag)(ds:Ac D):Rho:=ds.map (λd=>Ab (d,Ae))++G7 (n-ds.length) Af
noncomputable def isL:D->Al
 |.lst _=>Aa
 |.dic _=>Aa
 |_=>Ae
noncomputable def O.ans(fr:Al)(o:O):R D:=match o with
  |.ret d b=>if (fr&&(!b&&isL d))=Aa then .bad else .ok d
  |.next _=>if fr=Aa then .bad else .ok .non
  |.exn x _=>.exn x
  |_=>.bad
noncomputable def Df.run(Z:Gam)(f:Df)(ds:Ac D):R D:=(evSs Z (Bv f.n ds) f.body).ans f.fr
structure Prg where
 xs:Al
 defs:Ag->Df
 G:Ag->D
 up:Ag->Ac Ag
 xn:Ag->Ac D->R Ex
noncomputable def HC(xs:Al)(r:R D):R D:=match xs with
  |true=>r
  |false=>noX r
noncomputable def gam(P:Prg):Ag->Gam
 |0=>⟨λ_ _=>.bad,P.G,P.up,λi=>(P.defs i).fr,P.xn⟩
 |n+1=>⟨λi ds=>HC P.xs ((P.defs i).run (gam P n) ds),P.G,P.up,λi=>(P.defs i).fr,P.xn⟩
end Ov
end
section
namespace Ov
open PySem
variable{α:Type}{c:Rho->R Al}{body:Rho->O}{n:Ag}{Y:Rho}{lo hi:Ad}{x:D}
section
variable(Z:Gam)(Y:Rho)
@[simp]theorem ZBp:evE Z Y .non=.ok .non:=rfl
@[simp]theorem ZDk(b):evE Z Y (.bl b)=.ok (.bl b):=rfl
@[simp]theorem ZBt(b):evE Z Y (.int b)=.ok (.int b):=rfl
@[simp]theorem ZBo(b):evE Z Y (.str b)=.ok (.str b):=rfl
@[simp]theorem ZBn(i):evE Z Y (.var i)=Gb Y i:=rfl
@[simp]theorem ZxY(i):evE Z Y (.glob i)=.ok (Z.G i):=rfl
@[simp]theorem vX(op a b):evE Z Y (.bin op a b)=(top Y a (evE Z Y a)).bind λx=>(top Y b (evE Z Y b)).bind λy=>Dg op x y:=rfl
@[simp]theorem ZDg(op a):evE Z Y (.un op a)=(top Y a (evE Z Y a)).bind λx=>unD op x:=rfl
@[simp]theorem ZDj(a):evE Z Y (.no a)=(top Y a (evE Z Y a)).bind λx=>(Eo x).bind λb=>.ok (.bl (!b)):=rfl
@[simp]theorem ZBx(es):evE Z Y (.and es)=evN Z Y es:=rfl
@[simp]theorem ZDi(es):evE Z Y (.or es)=evO Z Y es:=rfl
@[simp]theorem ZBk(e):evN Z Y (.cons e .nil)=evE Z Y e:=rfl
@[simp]theorem ZxT(e e' es):evN Z Y (.cons e (.cons e' es))=(evE Z Y e).bind λx=>(Eo x).bind λc=>if c=Aa then evN Z Y (.cons e' es) else .ok (.bl Ae):=rfl
@[simp]theorem ZBj(e):evO Z Y (.cons e .nil)=evE Z Y e:=rfl
@[simp]theorem ZxS(e e' es):evO Z Y (.cons e (.cons e' es))=(evE Z Y e).bind λx=>(Eo x).bind λc=>if c=Aa then .ok (.bl Aa) else evO Z Y (.cons e' es):=rfl
@[simp]theorem ZBw(op a b):evE Z Y (.cmp op a b)=(top Y a (evE Z Y a)).bind λx=>(top Y b (evE Z Y b)).bind λy=>B7 op x y:=rfl
@[simp]theorem Zx1(op op' a b c):evE Z Y (.cmp2 op op' a b c)=(top Y a (evE Z Y a)).bind λx=>(top Y b (evE Z Y b)).bind λy=>(B7 op x y).bind λz=>(Eo z).bind λk=>if k=Aa then (top Y c (evE Z Y c)).bind λu=>B7 op' y u else .ok (.bl Ae):=rfl
@[simp]theorem ZBr(c a b):evE Z Y (.ite c a b)=(top Y c (evE Z Y c)).bind λx=>(CH x).bind λk=>if k=Aa then evE Z Y a else evE Z Y b:=rfl
@[simp]theorem Zx2(f as):evE Z Y (.call f as)=(evB Z Y as).bind λxs=>(Z.F f xs).bind λd=>if JY Y as=Aa then .ok d else if G1 (Z.fr f) d=Aa then .ok d else .bad:=rfl
@[simp]theorem gm(f as):evE Z Y (.bi f as)=(evB Z Y as).bind λxs=>biD f xs:=rfl
@[simp]theorem ZBs(a ks):evE Z Y (.isi a ks)=(top Y a (evE Z Y a)).bind λx=>Ih Z.up ks x:=rfl
@[simp]theorem ZBu(a i):evE Z Y (.idx a i)=(top Y a (evE Z Y a)).bind λx=>(top Y i (evE Z Y i)).bind λy=>Cr x y:=rfl
@[simp]theorem ZDh(a lo hi):evE Z Y (.sl a lo hi)=(top Y a (evE Z Y a)).bind λx=>(top Y lo (evE Z Y lo)).bind λl=>(slE lo l).bind λl'=>(top Y hi (evE Z Y hi)).bind λh=>(slE hi h).bind λh'=>slD x l' h':=rfl
@[simp]theorem vW(es):evE Z Y (.tup es)=(evA Z Y es).bind λxs=>.ok (.tup xs):=rfl
@[simp]theorem ZBq(es):evE Z Y (.lst es)=(evA Z Y es).bind λxs=>.ok (.lst xs):=rfl
noncomputable def cG(Z:Gam)(Y:Rho)(t:Ag)(c:E):D->R Al:=λx=>(top (Y.set t (Ab (x,Ae))) c (evE Z (Y.set t (Ab (x,Ae))) c)).bind CH
noncomputable def cF(Z:Gam)(Y:Rho)(t:Ag)(elt:E):D->R D:=λx=>evE Z (Y.set t (Ab (x,Ae))) elt
noncomputable def mkL(r:R (Ac D)):R D:=(noX r).bind λys=>.ok (.lst ys)
@[simp]theorem ZCR(ys):mkL (.ok ys)=.ok (.lst ys):=rfl
@[simp]theorem Zx0(elt t it c):evE Z Y (.comp elt t it c)=(evI Z Y it).bind λxs=>mkL (BR (cG Z Y t c) (cF Z Y t elt) xs):=rfl
noncomputable def cGT(Z:Gam)(Y:Rho)(ts:Ac Ag)(c:E):D->R Al:=λx=>(F7 ts x Y).bind λY'=>(top Y' c (evE Z Y' c)).bind CH
noncomputable def cFT(Z:Gam)(Y:Rho)(ts:Ac Ag)(elt:E):D->R D:=λx=>(F7 ts x Y).bind λY'=>evE Z Y' elt
@[simp]theorem ZvY(elt ts it c):evE Z Y (.compT elt ts it c)=(evI Z Y it).bind λxs=>mkL (BR (cGT Z Y ts c) (cFT Z Y ts elt) xs):=rfl
@[simp]theorem ZxX(it):evE Z Y (.tupI it)=(evI Z Y it).bind λxs=>.ok (.tup xs):=rfl
@[simp]theorem ZxZ(i k x):evE Z Y (.dget i k x)=(EN Y i).bind λd=>(R5 d).bind λkvs=>(top Y k (evE Z Y k)).bind λa=>(Ft a).bind λj=>(evE Z Y x).bind λy=>.ok ((Dl kvs j).getD y):=rfl
@[simp]theorem ZBv(o f):evE Z Y (.fld o f)=(top Y o (evE Z Y o)).bind λx=>SL x f:=rfl
@[simp]theorem ZBz:evA Z Y .nil=.ok []:=rfl
@[simp]theorem UF(e es):evA Z Y (.cons e es)=(evE Z Y e).bind λx=>(evA Z Y es).bind λxs=>.ok (x::xs):=rfl
@[simp]theorem ZBy:evB Z Y .nil=.ok []:=rfl
@[simp]theorem UE(e es):evB Z Y (.cons e es)=(top Y e (evE Z Y e)).bind λx=>(evB Z Y es).bind λxs=>.ok (x::xs):=rfl
@[simp]theorem ZEq(a):evI Z Y (.e a)=(evE Z Y a).bind Ch:=rfl
@[simp]theorem vV(a):evI Z Y (.rng a)=(top Y a (evE Z Y a)).bind λx=>(Fu x).bind λj=>CF 0 j:=rfl
@[simp]theorem nF(a b):evI Z Y (.rng2 a b)=(top Y a (evE Z Y a)).bind λx=>(top Y b (evE Z Y b)).bind λy=>(Fu x).bind λi=>(Fu y).bind λj=>CF i j:=rfl
@[simp]theorem ZBl(a b):evI Z Y (.zip a b)=(evE Z Y a).bind λx=>(evE Z Y b).bind λy=>(Ch x).bind λxs=>(Ch y).bind λys=>.ok (FJ xs ys):=rfl
@[simp]theorem ZxW(a b c):evI Z Y (.zip3 a b c)=(evE Z Y a).bind λx=>(evE Z Y b).bind λy=>(evE Z Y c).bind λz=>LD x y z:=rfl
@[simp]theorem ZBm(a):evI Z Y (.enm a)=(evE Z Y a).bind λx=>(Ch x).bind λxs=>.ok (EH 0 xs):=rfl
@[simp]theorem ZxU(a b):Gf Z Y (.zip a b)=evI Z Y (.zip a b):=rfl
@[simp]theorem ZvX(a b c):Gf Z Y (.zip3 a b c)=evI Z Y (.zip3 a b c):=rfl
@[simp]theorem ZxV(a):Gf Z Y (.enm a)=evI Z Y (.enm a):=rfl
@[simp]theorem ZDf(a):Gf Z Y (.e a)=(evE Z Y a).bind Ch:=rfl
@[simp]theorem nE(a):Gf Z Y (.rng a)=evI Z Y (.rng a):=rfl
@[simp]theorem iQ(a b):Gf Z Y (.rng2 a b)=evI Z Y (.rng2 a b):=rfl
variable(r:R D)
@[simp]theorem Zyr(i):top Y (.var i) r=EN Y i:=rfl
@[simp]theorem Zyt:top Y .non r=r:=rfl
@[simp]theorem ZCp(b):top Y (.bl b) r=r:=rfl
@[simp]theorem Zyx(b):top Y (.int b) r=r:=rfl
@[simp]theorem Zys(b):top Y (.str b) r=r:=rfl
@[simp]theorem Zxa(b):top Y (.glob b) r=r:=rfl
@[simp]theorem oV(op a b):top Y (.bin op a b) r=r:=rfl
@[simp]theorem ZCl(op a):top Y (.un op a) r=r:=rfl
@[simp]theorem ZCo(a):top Y (.no a) r=r:=rfl
@[simp]theorem ZyB(a):top Y (.and a) r=r:=rfl
@[simp]theorem ZCn(a):top Y (.or a) r=r:=rfl
@[simp]theorem ZyA(op a b):top Y (.cmp op a b) r=r:=rfl
@[simp]theorem Zxd(op op' a b c):top Y (.cmp2 op op' a b c) r=r:=rfl
@[simp]theorem Zyv(a b c):top Y (.ite a b c) r=r:=rfl
@[simp]theorem Zxe(a b):top Y (.call a b) r=r:=rfl
@[simp]theorem yS(a b):top Y (.bi a b) r=r:=rfl
@[simp]theorem Zyw(a b):top Y (.isi a b) r=r:=rfl
@[simp]theorem Zyy(a b):top Y (.idx a b) r=r:=rfl
@[simp]theorem ZCm(a b c):top Y (.sl a b c) r=r:=rfl
@[simp]theorem oU(a):top Y (.tup a) r=r:=rfl
@[simp]theorem Zyu(a):top Y (.lst a) r=r:=rfl
@[simp]theorem Zxc(a b c d):top Y (.comp a b c d) r=r:=rfl
@[simp]theorem Zyz(a b):top Y (.fld a b) r=r:=rfl
@[simp]theorem Ztj(a b c d):top Y (.compT a b c d) r=r:=rfl
@[simp]theorem Zw9(a):top Y (.tupI a) r=r:=rfl
@[simp]theorem Zxb(i k x):top Y (.dget i k x) r=r:=rfl
end
@[simp]theorem Zs9(x:D×Al)(Y:Rho):EN (Ab x::Y) 0=.ok x.1:=rfl
@[simp]theorem Zta(x:D)(Y:Rho):Gb (Ab (x,Ae)::Y) 0=.ok x:=rfl
@[simp]theorem ZsM(x:Sl)(Y:Rho)(i:Ag)[NeZero i]:EN (x::Y) i=EN Y (i-1):=by
 obtain⟨j,rfl⟩:∃ j,i=j+1:=⟨i-1,by have:=L6 i;omega⟩
 rfl
@[simp]theorem ZsN(x:Sl)(Y:Rho)(i:Ag)[NeZero i]:Gb (x::Y) i=Gb Y (i-1):=by
 obtain⟨j,rfl⟩:∃ j,i=j+1:=⟨i-1,by have:=L6 i;omega⟩
 rfl
noncomputable def shV(Y:Rho)(i:Ag):Al:=match Y[i]? with
    |some (Ab (_,Aa))=>Ae
    |_=>Aa
@[simp]theorem Zxh(x:D)(b:Al)(Y:Rho):shV (Ab (x,b)::Y) 0=!b:=by cases b<;>rfl
@[simp]theorem ZtN(Y:Rho):shV (Af::Y) 0=Aa:=rfl
@[simp]theorem ZtO(x:Sl)(Y:Rho)(i:Ag)[NeZero i]:shV (x::Y) i=shV Y (i-1):=by
 obtain⟨j,rfl⟩:∃ j,i=j+1:=⟨i-1,by have:=L6 i;omega⟩
 rfl
section
variable(Y:Rho)
@[simp]theorem Zy0(i):shE Y (.var i)=shV Y i:=rfl
@[simp]theorem Zy3:shE Y .non=Aa:=rfl
@[simp]theorem ZCE(b):shE Y (.bl b)=Aa:=rfl
@[simp]theorem Zy7(b):shE Y (.int b)=Aa:=rfl
@[simp]theorem Zy2(b):shE Y (.str b)=Aa:=rfl
@[simp]theorem Zxk(b):shE Y (.glob b)=Aa:=rfl
@[simp]theorem Zzb(op a b):shE Y (.bin op a b)=Aa:=rfl
@[simp]theorem ZCA(op a):shE Y (.un op a)=Aa:=rfl
@[simp]theorem ZCD(a):shE Y (.no a)=Aa:=rfl
@[simp]theorem Zzc(a):shE Y (.and a)=Aa:=rfl
@[simp]theorem ZCC(a):shE Y (.or a)=Aa:=rfl
@[simp]theorem Zza(op a b):shE Y (.cmp op a b)=Aa:=rfl
@[simp]theorem Zxn(op op' a b c):shE Y (.cmp2 op op' a b c)=Aa:=rfl
@[simp]theorem Zy5(a b c):shE Y (.ite a b c)=Aa:=rfl
@[simp]theorem Zxo(a b):shE Y (.call a b)=Aa:=rfl
@[simp]theorem ZCF(a b):shE Y (.bi a b)=Aa:=rfl
@[simp]theorem Zy6(a b):shE Y (.isi a b)=Aa:=rfl
@[simp]theorem Zy8(a b):shE Y (.idx a b)=Aa:=rfl
@[simp]theorem ZCB(a b c):shE Y (.sl a b c)=Aa:=rfl
@[simp]theorem Zy1(a):shE Y (.tup a)=Aa:=rfl
@[simp]theorem Zy4(a):shE Y (.lst a)=Aa:=rfl
@[simp]theorem Zxm(a b c d):shE Y (.comp a b c d)=Aa:=rfl
@[simp]theorem ZtP(a b c d):shE Y (.compT a b c d)=Aa:=rfl
@[simp]theorem Zxj(a):shE Y (.tupI a)=Aa:=rfl
@[simp]theorem Zxl(i k x):shE Y (.dget i k x)=Aa:=rfl
@[simp]theorem Zy9(a b):shE Y (.fld a b)=Aa:=rfl
@[simp]theorem Zxi:JY Y .nil=Aa:=rfl
@[simp]theorem gN(e es):JY Y (.cons e es)=(shE Y e&&JY Y es):=rfl
end
@[simp]theorem ZsS(Y:Rho):Ff [] [] Y=Ab Y:=rfl
@[simp]theorem Zpi(t ts d ds)(Y:Rho):Ff (t::ts) (d::ds) Y=Ff ts ds (Y.set t (Ab (d,Ae))):=rfl
@[simp]theorem ZwI(ts ds)(Y:Rho):Op ts (.lst ds) Y=match Ff ts ds Y with
  |some Y'=>.ok Y'
  |none=>.bad:=rfl
@[simp]theorem ZwH(ts ds)(Y:Rho):Op ts (.tup ds) Y=F7 ts (.tup ds) Y:=rfl
@[simp]theorem Tr(ts ds)(Y:Rho):F7 ts (.tup ds) Y=match Ff ts ds Y with
  |some Y'=>.ok Y'
  |none=>.bad:=rfl
@[simp]theorem Zyb{β:Type}(c:Prop)[GC c](a b:R α)(f:α->R β):(if c then a else b).bind f=if c then a.bind f else b.bind f:=by split<;>rfl
@[simp]theorem ZCP(Y:Rho)(c:Prop)[GC c](a b:R α)(f:α->O):O.of Y (if c then a else b) f=if c then O.of Y a f else O.of Y b f:=by split<;>rfl
@[simp]theorem ZAl{β:Type}(Y:Rho)(a:R α)(g:α->R β)(f:β->O):O.of Y (a.bind g) f=O.of Y a λx=>O.of Y (g x) f:=by cases a<;>rfl
@[simp]theorem Zze(c:Prop)[GC c](a b:O)(f:Rho->O):O.seq (if c then a else b) f=if c then a.seq f else b.seq f:=by split<;>rfl
@[simp]theorem ZwZ(c:Prop)[GC c](a b:O)(f:Rho->O):O.turn (if c then a else b) f=if c then a.turn f else b.turn f:=by split<;>rfl
@[simp]theorem ZBZ(fr:Al)(c:Prop)[GC c](a b:O):O.ans fr (if c then a else b)=if c then a.ans fr else b.ans fr:=by split<;>rfl
@[simp]theorem Zxp(Y f):O.seq (.next Y) f=f Y:=rfl
@[simp]theorem Zzd(d b f):O.seq (.ret d b) f=.ret d b:=rfl
@[simp]theorem Zzg(Y f):O.seq (.brk Y) f=.brk Y:=rfl
@[simp]theorem Zxq(Y f):O.seq (.cont Y) f=.cont Y:=rfl
@[simp]theorem Zzf(x Y f):O.seq (.exn x Y) f=.exn x Y:=rfl
@[simp]theorem Zzh(f):O.seq .bad f=.bad:=rfl
@[simp]theorem Ztg(Y f):O.turn (.next Y) f=f Y:=rfl
@[simp]theorem ZwY(d b f):O.turn (.ret d b) f=.ret d b:=rfl
@[simp]theorem Zw1(Y f):O.turn (.brk Y) f=.next Y:=rfl
@[simp]theorem Zth(Y f):O.turn (.cont Y) f=f Y:=rfl
@[simp]theorem Zw0(x Y f):O.turn (.exn x Y) f=.exn x Y:=rfl
@[simp]theorem Zw2(f):O.turn .bad f=.bad:=rfl
@[simp]theorem Zyd(Y):O.ans Ae (.next Y)=.ok .non:=rfl
@[simp]theorem ZBY(d b):O.ans Ae (.ret d b)=.ok d:=rfl
@[simp]theorem Zyc(d b):O.ans Aa (.ret d b)=if (!b&&isL d)=Aa then .bad else .ok d:=rfl
@[simp]theorem ZAU(d):isL (.lst d)=Aa:=rfl
@[simp]theorem ZAT(d):isL (.tup d)=Ae:=rfl
@[simp]theorem ZAV(d):isL (.int d)=Ae:=rfl
@[simp]theorem ZB0(fr x Y):O.ans fr (.exn x Y)=.exn x:=rfl
@[simp]theorem ZB1(fr):O.ans fr .bad=.bad:=rfl
@[simp]theorem ZDt(i j:Ad):Dg .Add (.int i) (.int j)=.ok (.int (i+j)):=rfl
@[simp]theorem ZCu(i j:Ad):Dg .Sub (.int i) (.int j)=.ok (.int (i-j)):=rfl
@[simp]theorem gv(i j:Ad):Dg .Mult (.int i) (.int j)=if (DZ i j||Fh i j)=Aa then .ok (.int (i*j)) else .bad:=rfl
@[simp]theorem vQ(i j:Ad):Dg .FloorDiv (.int i) (.int j)=if 0<j/\j<1073741824 then .ok (.int (i/j)) else .bad:=rfl
@[simp]theorem gy(i j:Ad):Dg .Mod (.int i) (.int j)=if 0<j then .ok (.int (i%j)) else .bad:=rfl
@[simp]theorem ah(i j:Ad):Dg .Pow (.int i) (.int j)=if (0<=j/\j<=1000000)/\(-(18446744073709551616:Ad)<i/\i<18446744073709551616) then .ok (.int (i ^ j.toNat)) else .bad:=rfl
@[simp]theorem WR(x y:An):Dg .Add (.str x) (.str y)=if CN (x.length+y.length)=Aa then .ok (.str (x++y)) else .bad:=rfl
@[simp]theorem WS(x y:Ac D):Dg .Add (.lst x) (.lst y)=if CN (x.length+y.length)=Aa then .ok (.lst (x++y)) else .bad:=rfl
@[simp]theorem WQ(x y:Ac D):Dg .Add (.tup x) (.tup y)=if (!x.isEmpty&&CN (x.length+y.length))=Aa then .ok (.tup (x++y)) else .bad:=rfl
@[simp]theorem ZD3(i:Ad):unD .USub (.int i)=.ok (.int (-i)):=rfl
@[simp]theorem cH(x y:D):B7 .Eq x y=if (flD 5 x&&flD 5 y)=Aa then .ok (.bl (eqD x y)) else .bad:=rfl
@[simp]theorem bV(x y:D):B7 .NotEq x y=if (flD 5 x&&flD 5 y)=Aa then .ok (.bl (!eqD x y)) else .bad:=rfl
@[simp]theorem ZD5(i j:Ad):B7 .Lt (.int i) (.int j)=.ok (.bl (decide (i<j))):=rfl
@[simp]theorem ZEa(i j:Ad):B7 .LtE (.int i) (.int j)=.ok (.bl (decide (i<=j))):=rfl
@[simp]theorem ZEk(i j:Ad):B7 .Gt (.int i) (.int j)=.ok (.bl (decide (j<i))):=rfl
@[simp]theorem ZEl(i j:Ad):B7 .GtE (.int i) (.int j)=.ok (.bl (decide (j<=i))):=rfl
@[simp]theorem eY(x:D)(ys:Ac D):B7 .In x (.lst ys)=if (flD 5 x&&ys.all (flD 5))=Aa then .ok (.bl (ys.any λy=>eqD y x)) else .bad:=rfl
@[simp]theorem eX(x:D)(ys:Ac D):B7 .In x (.tup ys)=if (flD 5 x&&ys.all (flD 5))=Aa then .ok (.bl (ys.any λy=>eqD y x)) else .bad:=rfl
@[simp]theorem bR(x:D)(ys:Ac D):B7 .NotIn x (.lst ys)=if (flD 5 x&&ys.all (flD 5))=Aa then .ok (.bl (!ys.any λy=>eqD y x)) else .bad:=rfl
@[simp]theorem bQ(x:D)(ys:Ac D):B7 .NotIn x (.tup ys)=if (flD 5 x&&ys.all (flD 5))=Aa then .ok (.bl (!ys.any λy=>eqD y x)) else .bad:=rfl
@[simp]theorem ZC3:B7 .Is .non .non=.ok (.bl Aa):=rfl
@[simp]theorem ZC5(i):B7 .Is (.int i) .non=.ok (.bl Ae):=rfl
@[simp]theorem ZC2(i):B7 .Is (.tup i) .non=.ok (.bl Ae):=rfl
@[simp]theorem ZC4(i):B7 .Is (.lst i) .non=.ok (.bl Ae):=rfl
@[simp]theorem ZEc(a b):B7 .Is (.bl a) (.bl b)=.ok (.bl (a==b)):=rfl
@[simp]theorem ZC0(a b):B7 .IsNot (.bl a) (.bl b)=.ok (.bl (!(a==b))):=rfl
@[simp]theorem ZAI:B7 .IsNot .non .non=.ok (.bl Ae):=rfl
@[simp]theorem ZAK(i):B7 .IsNot (.int i) .non=.ok (.bl Aa):=rfl
@[simp]theorem ZAH(i):B7 .IsNot (.tup i) .non=.ok (.bl Aa):=rfl
@[simp]theorem ZAJ(i):B7 .IsNot (.lst i) .non=.ok (.bl Aa):=rfl
@[simp]theorem ZBF(i j:Ad):eqD (.int i) (.int j)=(i==j):=rfl
@[simp]theorem ZDl(i j:Al):eqD (.bl i) (.bl j)=(i==j):=rfl
@[simp]theorem ZBC(i j:An):eqD (.str i) (.str j)=(i==j):=rfl
@[simp]theorem ZBB(i j:Ac D):eqD (.tup i) (.tup j)=eqDs i j:=rfl
@[simp]theorem ZBE(i j:Ac D):eqD (.lst i) (.lst j)=eqDs i j:=rfl
@[simp]theorem ZBD:eqD .non .non=Aa:=rfl
@[simp]theorem Zrw(i):eqD .non (.int i)=Ae:=rfl
@[simp]theorem Zrx(i):eqD (.int i) .non=Ae:=rfl
@[simp]theorem Zx3:eqDs [] []=Aa:=rfl
@[simp]theorem Qe(x y:D)(xs ys:Ac D):eqDs (x::xs) (y::ys)=(eqD x y&&eqDs xs ys):=rfl
@[simp]theorem ZA7(n)(i:Ad):flD n (.int i)=Aa:=by cases n<;>rfl
@[simp]theorem ZDe(n)(i:Al):flD n (.bl i)=Aa:=by cases n<;>rfl
@[simp]theorem ZA5(n)(i:An):flD n (.str i)=Aa:=by cases n<;>rfl
@[simp]theorem ZA6(n):flD n .non=Aa:=by cases n<;>rfl
@[simp]theorem Zxy(i):flD 5 (.tup i)=i.all (flD 4):=rfl
@[simp]theorem ZxD(i):flD 5 (.lst i)=i.all (flD 4):=rfl
@[simp]theorem Zxz(i):flD 4 (.tup i)=i.all (flD 3):=rfl
@[simp]theorem ZxE(i):flD 4 (.lst i)=i.all (flD 3):=rfl
@[simp]theorem ZxA(i):flD 3 (.tup i)=i.all (flD 2):=rfl
@[simp]theorem ZxF(i):flD 3 (.lst i)=i.all (flD 2):=rfl
@[simp]theorem ZxB(i):flD 2 (.tup i)=i.all (flD 1):=rfl
@[simp]theorem ZxG(i):flD 2 (.lst i)=i.all (flD 1):=rfl
@[simp]theorem ZxC(i):flD 1 (.tup i)=i.all (flD 0):=rfl
@[simp]theorem ZxH(i):flD 1 (.lst i)=i.all (flD 0):=rfl
@[simp]theorem Zyp(b):CH (.bl b)=.ok b:=rfl
@[simp]theorem Zw6(i):CH (.int i)=.ok (i != 0):=rfl
@[simp]theorem Zw5(i):CH (.lst i)=.ok (!i.isEmpty):=rfl
@[simp]theorem Zw3(i):CH (.tup i)=.ok (!i.isEmpty):=rfl
@[simp]theorem Zw4:CH .non=.ok Ae:=rfl
@[simp]theorem Zyq(b):EO (.bl b)=.ok b:=rfl
@[simp]theorem Zw8(i):EO (.int i)=.ok (i != 0):=rfl
@[simp]theorem Zw7:EO .non=.ok Ae:=rfl
@[simp]theorem ZwP:GA []=.ok Aa:=rfl
@[simp]theorem Qm(x r):GA (x::r)=(EO x).bind λb=>(GA r).bind λc=>.ok (b&&c):=rfl
@[simp]theorem ZwO:Ga []=.ok Ae:=rfl
@[simp]theorem Ts(x r):Ga (x::r)=(EO x).bind λb=>(Ga r).bind λc=>.ok (b||c):=rfl
@[simp]theorem ZBO(b)(d):HC b (.ok d)=.ok d:=by cases b<;>rfl
@[simp]theorem Zx5(b):HC b .bad=.bad:=by cases b<;>rfl
@[simp]theorem Zx4(x):HC Aa (.exn x)=.exn x:=rfl
@[simp]theorem ZsZ(r):HC Ae r=noX r:=rfl
@[simp]theorem ZAm(a:α):noX (.ok a)=.ok a:=rfl
@[simp]theorem ZAo:noX (.bad:R α)=.bad:=rfl
@[simp]theorem ZAn(x):noX (.exn x:R α)=.bad:=rfl
@[simp]theorem ZBW(b):Eo (.bl b)=.ok b:=rfl
@[simp]theorem Qu(b):Fu (.int b)=.ok b:=rfl
@[simp]theorem Uw(b):LP (.lst b)=.ok b:=rfl
@[simp]theorem ZwK(b):Ch (.lst b)=.ok b:=rfl
@[simp]theorem ZwJ(b):Ch (.tup b)=.ok b:=rfl
@[simp]theorem bD(xs i):Cr (.lst xs) (.int i)=DH xs i:=rfl
@[simp]theorem aZ(xs i):Cr (.tup xs) (.int i)=DH xs i:=rfl
@[simp]theorem ZD7(xs):biD .len [.lst xs]=.ok (.int xs.length):=rfl
@[simp]theorem ZD6(xs):biD .len [.tup xs]=.ok (.int xs.length):=rfl
@[simp]theorem ZEA(i):biD .abs [.int i]=.ok (.int (if i<0 then -i else i)):=rfl
@[simp]theorem ZCT(i j):biD .max [.int i,.int j]=.ok (.int (if i<j then j else i)):=rfl
@[simp]theorem ZCS(i j):biD .min [.int i,.int j]=.ok (.int (if j<i then j else i)):=rfl
@[simp]theorem ZEd(i):biD .int [.int i]=.ok (.int i):=rfl
@[simp]theorem ZEe(i):biD .int [.bl i]=.ok (.int (b2i i)):=rfl
@[simp]theorem ZCY(i):biD .list [.lst i]=.ok (.lst i):=rfl
@[simp]theorem ZCX(i):biD .list [.tup i]=.ok (.lst i):=rfl
@[simp]theorem Zyo(i):biD .tuple [.lst i]=.ok (.tup i):=rfl
@[simp]theorem Zyn(i):biD .tuple [.tup i]=.ok (.tup i):=rfl
@[simp]theorem bY(i):biD .all [.lst i]=(GA i).bind λb=>.ok (.bl b):=rfl
@[simp]theorem ZEz(i):biD .any [.lst i]=(Ga i).bind λb=>.ok (.bl b):=rfl
@[simp]theorem ZEy(i):biD .any [.tup i]=(Ga i).bind λb=>.ok (.bl b):=rfl
@[simp]theorem ZDT(i):biD .sum [.lst i]=(HA 0 i).bind λb=>.ok (.int b):=rfl
@[simp]theorem ZDS(i):biD .sum [.tup i]=(HA 0 i).bind λb=>.ok (.int b):=rfl
@[simp]theorem Zxg(i):biD .sorted [.lst i]=(Vo i).bind λb=>.ok (.lst b):=rfl
@[simp]theorem ZDU(xs k):biD .stp [.lst xs,.int k]=.ok (.lst (SJ k.toNat xs)):=rfl
@[simp]theorem ZDX(xs):biD .rvs [.lst xs]=.ok (.lst xs.reverse):=rfl
@[simp]theorem ZCV(xs):biD .lset [.lst xs]=Xr xs:=rfl
@[simp]theorem ZCq(x y):biD .tmin [x,y]=mmD Ae x y:=rfl
@[simp]theorem ZDD(x y):biD .tlt [x,y]=SF x y:=rfl
@[simp]theorem ZCr(x y):biD .tmax [x,y]=mmD Aa x y:=rfl
@[simp]theorem ZBP(xs x):biD .count [.lst xs,x]=if (flD 5 x&&xs.all (flD 5))=Aa then .ok (.int ((xs.filter λy=>eqD y x).length:Ag)) else .bad:=rfl
@[simp]theorem dZ(xs lo hi):slD (.tup xs) lo hi=if (GX xs.length 0 lo==0&&GX xs.length xs.length hi==xs.length)=Aa then .bad else .ok (.tup (KP xs lo hi)):=rfl
@[simp]theorem ZEL(xs lo hi):slD (.lst xs) lo hi=.ok (.lst (KP xs lo hi)):=rfl
@[simp]theorem ZyX(d):slE .non d=.ok Af:=rfl
@[simp]theorem ZyY(k i):slE (.int k) (.int i)=.ok (Ab i):=rfl
@[simp]theorem ZyW(k i):slE (.var k) (.int i)=.ok (Ab i):=rfl
@[simp]theorem ZyZ(op a b i):slE (.bin op a b) (.int i)=.ok (Ab i):=rfl
@[simp]theorem ZCy(op a i):slE (.un op a) (.int i)=.ok (Ab i):=rfl
@[simp]theorem ZCz(b as i):slE (.bi b as) (.int i)=.ok (Ab i):=rfl
@[simp]theorem ZAN(up ks):Ih up ks .non=if ks.any FK=Aa then .bad else .ok (.bl (ks.any λk=>kiD up k .non)):=rfl
@[simp]theorem ZC1(up ks b):Ih up ks (.bl b)=if ks.any FK=Aa then .bad else .ok (.bl (ks.any λk=>kiD up k (.bl b))):=rfl
@[simp]theorem ZAP(up ks b):Ih up ks (.int b)=if ks.any FK=Aa then .bad else .ok (.bl (ks.any λk=>kiD up k (.int b))):=rfl
@[simp]theorem ZAM(up ks b):Ih up ks (.str b)=if ks.any FK=Aa then .bad else .ok (.bl (ks.any λk=>kiD up k (.str b))):=rfl
@[simp]theorem ZAL(up ks b):Ih up ks (.tup b)=if ks.any FK=Aa then .bad else .ok (.bl (ks.any λk=>kiD up k (.tup b))):=rfl
@[simp]theorem ZAO(up ks b):Ih up ks (.lst b)=if ks.any FK=Aa then .bad else .ok (.bl (ks.any λk=>kiD up k (.lst b))):=rfl
@[simp]theorem ZAQ(up ks c f):Ih up ks (.exc c f)=if ks.all FK=Aa then .ok (.bl (ks.any λk=>kiD up k (.exc c f))) else .bad:=rfl
@[simp]theorem Zx9(c):FK (.cls c)=Aa:=rfl
@[simp]theorem Zwf:FK .verr=Aa:=rfl
@[simp]theorem Zx8:FK .int=Ae:=rfl
@[simp]theorem Zwh:FK .bool=Ae:=rfl
@[simp]theorem Zx7:FK .str=Ae:=rfl
@[simp]theorem Zwg:FK .list=Ae:=rfl
@[simp]theorem Zs0:FK .tuple=Ae:=rfl
@[simp]theorem ZsW(up i):kiD up .int (.int i)=Aa:=rfl
@[simp]theorem ZsV(up):kiD up .int .non=Ae:=rfl
@[simp]theorem Zq4(up i):kiD up .bool (.int i)=Ae:=rfl
@[simp]theorem ZsU(up i):kiD up .int (.tup i)=Ae:=rfl
@[simp]theorem ZsY(up i):kiD up .bool (.bl i)=Aa:=rfl
@[simp]theorem Zq3(up):kiD up .bool .non=Ae:=rfl
@[simp]theorem Zq2(up i):kiD up .list (.lst i)=Aa:=rfl
@[simp]theorem Zn2(up i):kiD up .tuple (.tup i)=Aa:=rfl
@[simp]theorem Zn3(up):kiD up .tuple .non=Ae:=rfl
@[simp]theorem ZsX(up c k f):kiD up (.cls c) (.exc k f)=(up k).contains c:=rfl
@[simp]theorem Zq1(up k f):kiD up .verr (.exc k f)=Aa:=rfl
theorem mY(xs:Ac D)(k:Ag)(h:k<xs.length):DH xs (k:Ad)=.ok (xs[k]):=by
 unfold DH plD;have h1:(0:Ad)<=k:=Int.natCast_nonneg k;have h2:(k:Ad)<(xs.length:Ag):=by omega
 rw[AF h1,AF h2];simp[h]
theorem QC{xs:Ac D}{i:Ad}{d:D}(h0:0<=i)(h:xs[i.toNat]?=Ab d):DH xs i=.ok d:=by
 unfold DH plD;obtain⟨h1,_⟩:=Bf.mp h;rw[AF h0,AF (by omega)]
 dsimp only;rw[h]
section
variable(Z:Gam)(Y:Rho)
@[simp]theorem ZxI:evSs Z Y .nil=.next Y:=rfl
noncomputable def Ge(Z:Gam)(ss:Ss)(o:O):O:=o.seq λY'=>evSs Z Y' ss
@[simp]theorem Le(s ss):evSs Z Y (.cons s ss)=Ge Z ss (evS Z Y s):=rfl
@[simp]theorem vC(ss):Ge Z ss (.next Y)=evSs Z Y ss:=rfl
@[simp]theorem ZC8(ss d b):Ge Z ss (.ret d b)=.ret d b:=rfl
@[simp]theorem ZDb(ss):Ge Z ss (.brk Y)=.brk Y:=rfl
@[simp]theorem ZA1(ss):Ge Z ss (.cont Y)=.cont Y:=rfl
@[simp]theorem ZDa(ss x):Ge Z ss (.exn x Y)=.exn x Y:=rfl
@[simp]theorem ZDc(ss):Ge Z ss .bad=.bad:=rfl
@[simp]theorem ZC9(ss)(c:Prop)[GC c](a b:O):Ge Z ss (if c then a else b)=if c then Ge Z ss a else Ge Z ss b:=by split<;>rfl
@[simp]theorem dw(o:O):Ge Z .nil o=o:=by cases o<;>rfl
noncomputable def AY(Z:Gam)(t:Ag)(body:Ss):D->Rho->O:=λx Y'=>evSs Z (Y'.set t (Ab (x,Ae))) body
noncomputable def whC(Z:Gam)(c:E):Rho->R Al:=λY'=>(top Y' c (evE Z Y' c)).bind CH
noncomputable def whB(Z:Gam)(body:Ss):Rho->O:=λY'=>evSs Z Y' body
noncomputable def OJ(Z:Gam)(t:Ag)(body:Ss)(Y:Rho)(r:R (Ac D)):O:=O.of Y r λxs=>B5 (AY Z t body) xs Y
@[simp]theorem QK(t body xs):OJ Z t body Y (.ok xs)=B5 (AY Z t body) xs Y:=rfl
@[simp]theorem ZxN:evS Z Y .pass=.next Y:=rfl
@[simp]theorem ZBh(i e):evS Z Y (.asg i Ae e)=O.of Y (evE Z Y e) λd=>.next (Y.set i (Ab (d,Ae))):=rfl
@[simp]theorem ZxO(e):evS Z Y (.expr e)=O.of Y (evE Z Y e) λ_=>.next Y:=rfl
@[simp]theorem vS(e):evS Z Y (.ret e)=O.of Y (top Y e (evE Z Y e)) λd=>.ret d (Do Z e||(match e with | .var i=>(match Y[i]? with|some (Ab (_,o))=>o|_=>Ae)|_=>Ae)):=rfl
@[simp]theorem ZxL:evS Z Y .retN=.ret .non Ae:=rfl
@[simp]theorem ZBb(c a b):evS Z Y (.lnd c a b)=O.of Y ((top (shA Y) c (evE Z (shA Y) c)).bind CH) λk=>if k=Aa then evSs Z Y a else evSs Z Y b:=rfl
@[simp]theorem ZBc(c a b):evS Z Y (.ife c a b)=O.of Y ((top Y c (evE Z Y c)).bind CH) λk=>if k=Aa then evSs Z Y a else evSs Z Y b:=rfl
@[simp]theorem QF(t it body):evS Z Y (.fors t it body)=OJ Z t body Y (Gf Z Y it):=rfl
noncomputable def En(Z:Gam)(ts:Ac Ag)(body:Ss):D->Rho->O:=λx Y'=>O.of Y' (F7 ts x Y') λY''=>evSs Z Y'' body
noncomputable def Xk(Z:Gam)(ts:Ac Ag)(body:Ss)(Y:Rho)(r:R (Ac D)):O:=O.of Y r λxs=>B5 (En Z ts body) xs Y
@[simp]theorem Vb(t body xs):Xk Z t body Y (.ok xs)=B5 (En Z t body) xs Y:=rfl
@[simp]theorem UD(t it body):evS Z Y (.forT t it body)=Xk Z t body Y (Gf Z Y it):=rfl
@[simp]theorem ZxR(ts e):evS Z Y (.asgT ts e)=O.of Y (evE Z Y e) λd=>O.of Y (Op ts d Y) λY'=>.next Y':=rfl
theorem nC(i e):evS Z Y (.asg i Aa e)=O.of Y (evE Z Y e) λd=>if Do Z e=Aa then (match d with
      |.lst xs=>.next (Y.set i (Ab (.lst xs,Aa)))
      | _=>.bad) else .bad:=rfl
noncomputable def setF(Y:Rho)(i:Ag):D->O
 |.lst xs=>.next (Y.set i (Ab (.lst xs,Aa)))
 |_=>.bad
@[simp]theorem ZCG(i xs):setF Y i (.lst xs)=.next (Y.set i (Ab (.lst xs,Aa))):=rfl
@[simp]theorem ZvW(i e):evS Z Y (.asg i Aa e)=O.of Y (evE Z Y e) λd=>if Do Z e=Aa then setF Y i d else .bad:=by
 rw[nC]
 congr 1
@[simp]theorem ZBi(i e):evS Z Y (.app i e)=O.of Y (C3 Y i) λxs=>O.of Y (evE Z Y e) λd=>if CN (xs.length+1)=Aa then .next (Y.set i (Ab (.lst (xs++[d]),Aa))) else .bad:=rfl
@[simp]theorem vT(i e):evS Z Y (.ext i e)=O.of Y (C3 Y i) λxs=>O.of Y (evE Z Y e) λd=>O.of Y (LP d) λys=>if CN (xs.length+ys.length)=Aa then .next (Y.set i (Ab (.lst (xs++ys),Aa))) else .bad:=rfl
@[simp]theorem ZxP(i k e):evS Z Y (.dput i k e)=O.of Y (evE Z Y e) λd=>O.of Y (He Y i) λxs=>O.of Y ((top Y k (evE Z Y k)).bind Ft) λj=>if CN (xs.length+1)=Aa then .next (Y.set i (Ab (.dic (Gx xs j d),Aa))) else .bad:=rfl
@[simp]theorem ZBd(i k e):evS Z Y (.dsd i k e)=O.of Y (He Y i) λxs=>O.of Y ((top Y k (evE Z Y k)).bind Ft) λj=>O.of Y (evE Z Y e) λd=>if CN (xs.length+1)=Aa then .next (Y.set i (Ab (.dic (if (xs.any λp=>p.1==j)=Aa then xs else Gx xs j d),Aa))) else .bad:=rfl
@[simp]theorem ZBe(i):evS Z Y (.dnw i)=.next (Y.set i (Ab (.dic [],Aa))):=rfl
@[simp]theorem ZBa(i):evS Z Y (.rev i)=O.of Y (C3 Y i) λxs=>.next (Y.set i (Ab (.lst xs.reverse,Aa))):=rfl
@[simp]theorem ZBf(i):evS Z Y (.clr i)=O.of Y (C3 Y i) λ_=>.next (Y.set i (Ab (.lst [],Aa))):=rfl
theorem QM(i k e):evS Z Y (.put i k e)=O.of Y (evE Z Y e) λd=>O.of Y (C3 Y i) λxs=>O.of Y ((top Y k (evE Z Y k)).bind Fu) λj=>match plD xs.length j with
      |some n=>.next (Y.set i (Ab (.lst (xs.set n d),Aa)))
      |none=>.bad:=rfl
@[simp]theorem ZxJ(body c x h):evS Z Y (.tryx body c x h)=match evSs Z Y body with
      | .exn y Y'=>if (Z.up y.c).contains c=Aa then (match evSs Z (Y'.set x (Ab (.exc y.c y.fs,Ae))) h with
          |.next Y''=>.next (Y''.set x Af)
          |.ret d f=>.ret d f
          | _=>.bad) else .bad
      |o=>o:=rfl
@[simp]theorem ZxK(body c x h c' h' els):evS Z Y (.try2 body c x h c' h' els)=match evSs Z Y body with
      |.exn y Y'=>if (Z.up y.c).contains c=Aa then hdO x y Y' (λr=>evSs Z r h) else if (Z.up y.c).contains c'=Aa then hdO x y Y' (λr=>evSs Z r h') else .bad
      |.next Y'=>evSs Z Y' els
      |o=>o:=rfl
@[simp]theorem ZA9(c body):evS Z Y (.whl c body)=Fw (whC Z c) (whB Z body) LO Y:=rfl
@[simp]theorem ZxM(c as):evS Z Y (.rais c as)=O.of Y (noX (evA Z Y as)) λxs=>O.of Y (Z.xn c xs) λx=>.exn x Y:=rfl
@[simp]theorem ZBg:evS Z Y .brk=.brk Y:=rfl
@[simp]theorem ZxQ:evS Z Y .cont=.cont Y:=rfl
end
end Ov
namespace Ov
open PySem
theorem QD{body:D->Rho->O}(P:Rho->Prop):∀(xs:Ac D)(Y:Rho),P Y->(∀ x∈xs,∀ Y,P Y->∃ Y',body x Y=.next Y'/\P Y')->∃ Y',B5 body xs Y=.next Y'/\P Y'
 |[],Y,h,_=>⟨Y,rfl,h⟩
 |x::xs,Y,h,k=>by
  obtain⟨Y1,e1,h1⟩:=k x Aw Y h;obtain⟨Y2,e2,h2⟩:=QD P xs Y1 h1 λy hy=>k y (Av _ hy)
  exact⟨Y2,by show (body x Y).turn _=_;rw[e1];exact e2,h2⟩
theorem PM{body:D->Rho->O}(P:Ag->Rho->Prop):∀(xs:Ac D)(n:Ag)(Y:Rho),P n Y->(∀ i x,xs[i]?=Ab x->∀ Y,P (n+i) Y->∃ Y',body x Y=.next Y'/\P (n+i+1) Y')->∃ Y',B5 body xs Y=.next Y'/\P (n+xs.length) Y'
 |[],n,Y,h,_=>⟨Y,rfl,h⟩
 |x::xs,n,Y,h,k=>by
  obtain⟨Y1,e1,h1⟩:=k 0 x rfl Y h;obtain⟨Y2,e2,h2⟩:=PM P xs (n+1) Y1 h1 λi y hy Y hρ=>by
   have:=k (i+1) y (by simpa using hy) Y (by rw[show n+(i+1)=n+1+i by omega];exact hρ)
   rw[show n+(i+1)=n+1+i by omega]at this
   exact this
  exact⟨Y2,by show (body x Y).turn _=_;rw[e1];exact e2,by rw[show n+(x::xs).length=n+1+xs.length by simp;omega];exact h2⟩
theorem Vi{Y':Rho}(h1:c Y=.ok Aa)(h2:body Y=.next Y'):Fw c body (n+1) Y=Fw c body n Y':=by
 rw[Fw,h1];simp[h2]
theorem Qp(h1:c Y=.ok Ae):Fw c body (n+1) Y=.next Y:=by
 rw[Fw,h1];simp
theorem jG(h1:0<=lo)(h2:lo<1000000)(h3:0<=hi)(h4:hi<1000000):CF lo hi=.ok (CJ lo (hi-lo).toNat):=by
 unfold CF;rw[AF (by omega)]
theorem jH(h3:0<=hi)(h4:hi<1000000):CF 0 hi=.ok (CJ 0 hi.toNat):=by
 rw[jG (by omega) (by omega) h3 h4,E7]
theorem U_3(h:x∈CJ lo n):∃ k:Ag,k<n/\x=.int (lo+(k:Ad)):=by
 obtain⟨k,hk,e⟩:=Bo.mp h;exact⟨k,A5.mp hk,e.symm⟩
theorem Mj(lo:Ad)(n:Ag):(CJ lo n).length=n:=by simp[CJ]
theorem QB{i:Ag}(h:(CJ lo n)[i]?=Ab x):i<n/\x=.int (lo+(i:Ad)):=by
 have hl:=(Bf.mp h).1;rw[Mj]at hl;unfold CJ at h;rw[C0,List.getElem?_range hl]at h;cases h;exact⟨hl,rfl⟩
noncomputable def Ss.take:Ag->Ss->Ss
 |0,_=>.nil
 |_,.nil=>.nil
 |n+1,.cons s ss=>.cons s (ss.take n)
noncomputable def Ss.drop:Ag->Ss->Ss
 |0,ss=>ss
 |_,.nil=>.nil
 |n+1,.cons _ ss=>ss.drop n
theorem UC(Z:Gam):∀(n:Ag)(ss:Ss)(Y:Rho),evSs Z Y ss=Ge Z (ss.drop n) (evSs Z Y (ss.take n))
 |0,_,_=>rfl
 |_+1,.nil,_=>rfl
 |n+1,.cons s ss,Y=>by
  show (evS Z Y s).seq (λY'=>evSs Z Y' ss)=Ge Z (ss.drop n) ((evS Z Y s).seq λY'=>evSs Z Y' (ss.take n))
  cases evS Z Y s with
  |next Y'=>exact UC Z n ss Y'
  |_=>rfl
end Ov
end
section
namespace Ov
end Ov
end
section
namespace OvC
open PySem Ov PyProof.Rows
variable{j:Ad}
noncomputable abbrev scr(ns:Ac Ad):D:=.lst (ns.map .int)
noncomputable abbrev sh(d:D):Sl:=Ab (d,Ae)
noncomputable abbrev si(i:Ad):Sl:=Ab (.int i,Ae)
theorem four{P:Ag->Prop}(h0:P 0)(h1:P 1)(h2:P 2)(h3:P 3):P (j%4).toNat:=by
 have:(j%4).toNat=0\/(j%4).toNat=1\/(j%4).toNat=2\/(j%4).toNat=3:=by omega
 rcases this with e|e|e|e<;>rw[e]<;>assumption
def P4(p:Ad):Prop:=p=3\/p=5\/p=7\/p=11
theorem P4.pos{p}(h:P4 p):0<p:=by rcases h with rfl|rfl|rfl|rfl<;>decide
theorem P4.lo{p}(h:P4 p):3<=p:=by rcases h with rfl|rfl|rfl|rfl<;>decide
theorem P4.hi{p}(h:P4 p):p<=11:=by rcases h with rfl|rfl|rfl|rfl<;>decide
theorem HZ{i:Ad}(h0:-18446744073709551616<i)(h1:i<18446744073709551616):DZ i j=Aa:=by simp[DZ];left;exact⟨h0,h1⟩
theorem NL{i:Ad}(h0:-18446744073709551616<j)(h1:j<18446744073709551616):DZ i j=Aa:=by simp[DZ];right;exact⟨h0,h1⟩
noncomputable def Rl:Df:=⟨2,Ae,(.cons (.ret (.bin .Mod (.var 1) (.var 0))) .nil)⟩
def Ib(Z:Gam):Prop:=∀ p n:Ad,0<p->Z.F 1 [.int p,.int n]=.ok (.int (n%p))
theorem cb(Z:Gam)(p n:Ad)(h:0<p):Rl.run Z [.int p,.int n]=.ok (.int (n%p)):=by simp[Rl,Df.run,Bv,h]
end OvC
end
namespace Ov
open PySem PySem.Spec PyProof.Rows L2
variable{A A' B:Ak->Prop}{H H' H1 H0:Hp}{a ka b l q:Ak}{xs vs:Ac V}{k' k:Ac Ad}{v:V}{d:D}{o:HO}{K:Fg}{Y:Rho}{U:L2.St}{i n j t':Ag}{Rp Rq:Hp->V->D->Prop}{r:R D}{Q:VK}{X:Cx}{e c tg iter elt:Ao}{x:Ex}{g:D->D->R D}{op:DR}{h' h h2:AJ}{ys:Ac (Ac Ad×Ak×Ai)}{y u f0:Ai}{pos p p2 pos' pos2 spos tpos:AX}{pI:Pn}{s:As}{items2 its us:A6 Ai}{its2:Ac Ai}{es ifs:Ac Ao}{fs fi:Rho->R (Ac D)}{Q':Aq Ad->Hp->Prop}{T:Dp}{f fc:Rho->R Al}{α:Type}{Fz:Ak->HO->Prop}{D':Ends}{body:Ac Bp}{fbd:Rho->O}{as:D->Rho->R Rho}{up:Ag->Ac Ag}{prog P:AT}{w:AD}{scope:Cu}{env:C9}{cl:Ac (An×Ak)}{N':Ac An}{ts:Ac Ag}{fp:Ac Ak}{tt:TT}{te:TE}{J:It}{wi:TI}{P1 P2:Ag->Ai->Prop}{S1 S2:Ag->AJ->Prop}{t f1:Al}{ta:TA}{o1:Dk}{ps:Ac (Ak×Ac V)}
abbrev ClA:=Ag->Aq Ak
variable{CL:ClA}
def KL(K:Fg)(a:Ak)(xs:Ac V):Prop:=∃(o:Dk)(its:A6 Ai)(n:Ag),K.lookup a=Ab o/\o.cls=.type "list"/\o.dict=Af/\o.data=.seq its n/\its.size<=sizeLine/\Bk xs its.toList
def KT(K:Fg)(a:Ak)(xs:Ac V):Prop:=∃(o:Dk)(its:A6 Ai)(n:Ag),K.lookup a=Ab o/\o.cls=.type "tuple"/\o.data=.seq its n/\its.size<=sizeLine/\Bk xs its.toList
noncomputable abbrev TK(P:AT)(w:AD):HeapKind P w (Ac Ad):=tupleKind (intKind P w)
def GZ(P:AT)(w:AD)(a:Ak)(xs:Ac (Ac Ad×Ak×Ai))(h:AJ):Prop:=(a==Ez)=Ae/\∃ o es ep,h.get? a=Ab o/\o.ExactDict/\o.data=.dict es ep/\es.toList=xs.map (Ja (TK P w))/\(xs.map (·.1)).Nodup
inductive ValE:Ac (Ac Ad×Ak×V)->Ac (Ac Ad×Ak×Ai)->Prop
 |nil:ValE [] []
 |cons {k:Ac Ad} {a:Ak} {v:V} {y:Ai} {xs:Ac (Ac Ad×Ak×V)} {ys:Ac (Ac Ad×Ak×Ai)}:BP v y->ValE xs ys->ValE ((k,a,v)::xs) ((k,a,y)::ys)
def DS(a:Ak)(xs:Ac (Ac Ad×Ak×V)):AJ->Prop:=λh=>∃ ys,ValE xs ys/\∀ P w,GZ P w a ys h
def D8(K:Fg)(H:Hp)(A:Ak->Prop)(a:Ak)(k:Ac Ad):Prop:=∃ xs,(¬ A a\/KT K a xs)/\SqT K H a xs/\xs=k.map V.int
section
variable(K:Fg)(CL:ClA)(H:Hp)(A:Ak->Prop)
mutual
def Rep:V->D->Prop
 |v,.non=>v=.non
 |v,.bl b=>v=.bl b
 |v,.int i=>v=.int i
 |v,.str x=>v=.str x
 |v,.tup ds=>∃ a xs,v=.ref a/\(¬ A a\/KT K a xs)/\SqT K H a xs/\Reps xs ds
 |v,.lst ds=>∃ a xs,v=.ref a/\(¬ A a\/KL K a xs)/\SqL K H a xs/\Reps xs ds
 |v,.obj c fs=>∃ a C dx vs,v=.ref a/\¬ A a/\CL c=Ab C/\H a=Ab (.ins C dx vs)/\Repf vs fs
 |v,.dic kvs=>∃ a es,v=.ref a/\¬ A a/\H a=Ab (.ext (DS a es))/\Repk es kvs
 |v,.exc c fs=>∃ a C φ,v=.ref a/\¬ A a/\CL c=Ab C/\H a=Ab (.ext φ)/\(∀ h,φ h->∃ o,h.get? a=Ab o/\o.cls=.ref C)/\(fs=[]\/∃ dx vs,¬ A dx/\H dx=Ab (.xd vs)/\Repf vs fs/\∀ h,φ h->∃ o,h.get? a=Ab o/\o.dict=Ab dx/\∃ us,o.data=.fields us)
def Reps:Ac V->Ac D->Prop
 |[],[]=>G9
 |v::vs,d::ds=>Rep v d/\Reps vs ds
 |_,_=>Bu
def Repf:Ac (An×V)->Ac (An×D)->Prop
 |[],[]=>G9
 |v::vs,d::ds=>Repp v d/\Repf vs ds
 |_,_=>Bu
def Repp:An×V->An×D->Prop
 |v,(n,d)=>v.1=n/\Rep v.2 d
def Repk:Ac (Ac Ad×Ak×V)->Ac (Ac Ad×D)->Prop
 |[],[]=>G9
 |v::vs,d::ds=>Repe v d/\Repk vs ds
 |_,_=>Bu
def Repe:Ac Ad×Ak×V->Ac Ad×D->Prop
 |v,(k,d)=>v.1=k/\D8 K H A v.2.1 k/\Rep v.2.2 d
end
def Ds(a:Ak)(o:HO)(d:D):Prop:=(∃ xs ds,o=.lst xs/\d=.lst ds/\Reps K CL H A xs ds)\/∃ es kvs,o=.ext (DS a es)/\d=.dic kvs/\Repk K CL H A es kvs
def C4(v:V)(d:D):Prop:=Rep K CL H A v d\/∃ a o,v=.ref a/\H a=Ab o/\Ds K CL H A a o d
end
def OwK(a:Ak)(o:HO):Prop:=(∃ xs,o=.lst xs)\/∃ es,o=.ext (DS a es)
def Kp(A:Ak->Prop)(H H':Hp):Prop:=∀ b o,H b=Ab o->¬ A b->H' b=Ab o
def AOk(H:Hp)(A:Ak->Prop):Prop:=∀ a,A a->∃ o,H a=Ab o/\OwK a o
theorem Kp.of(h:AH H H'):Kp A H H':=λb o e _=>h b o e
theorem AOk.same(h:AOk H A)(s:AH H H'):AOk H' A:=λa ha=>let ⟨xs,e,k⟩:=h a ha;⟨xs,s _ _ e,k⟩
theorem AOk.new{p:Ak}(h:AOk H A)(e:H p=Af):¬ A p:=λha=>by
 obtain⟨xs,q,_⟩:=h p ha;rw[e]at q;cases q
section
variable{K:Fg}{CL:ClA}{H H':Hp}{A B:Ak->Prop}
theorem Xe{u:HO}(k:Kp A H H')(na:¬ A a)(h:Rd H a u):Rd H' a u:=by
 rcases h with h|⟨o,h⟩
 .exact .inl (k _ _ h na)
 .exact .inr ⟨o,k _ _ h na⟩
theorem NS(k:Kp A H H')(na:¬ A a\/KL K a xs)(h:SqL K H a xs):SqL K H' a xs:=na.elim (λna=>h.imp (Xe k na) id) .inr
theorem MI(k:Kp A H H')(na:¬ A a\/KT K a xs)(h:SqT K H a xs):SqT K H' a xs:=na.elim (λna=>h.imp (Xe k na) id) .inr
theorem D8.kp(k:Kp A H H')(h:D8 K H A a k'):D8 K H' A a k':=by
 obtain⟨xs,na,s,e⟩:=h;exact⟨xs,na,MI k na s,e⟩
theorem D8.sub(k:∀ a,B a->A a)(h:D8 K H A a k'):D8 K H B a k':=by
 obtain⟨xs,na,s,e⟩:=h;exact⟨xs,na.imp (λna z=>na (k _ z)) id,s,e⟩
theorem D8.wide(hp:∀ a,B a->A a\/H a=Af)(h:D8 K H A a k'):D8 K H B a k':=by
 obtain⟨xs,na,s,e⟩:=h;refine⟨xs,?_,s,e⟩;rcases s with s|s
 .refine na.imp (λna z=>(hp _ z).elim na λe=>?_) id
  rcases s with s|⟨o,s⟩<;>rw[e]at s<;>cases s
 .exact .inr s
mutual
theorem Rep.kp(k:Kp A H H'):∀{v:V}(d:D),Rep K CL H A v d->Rep K CL H' A v d
 |_,.non,h=>h
 |_,.bl _,h=>h
 |_,.int _,h=>h
 |_,.str _,h=>h
 |_,.dic kvs,h=>by
  obtain⟨a,es,e,na,s,r⟩:=h;exact⟨a,es,e,na,k _ _ s na,Repk.kp k kvs r⟩
 |_,.tup ds,h=>by
  obtain⟨a,xs,e,na,s,r⟩:=h;exact⟨a,xs,e,na,by first|exact MI k na s|exact NS k na s,Reps.kp k ds r⟩
 |_,.lst ds,h=>by
  obtain⟨a,xs,e,na,s,r⟩:=h;exact⟨a,xs,e,na,by first|exact MI k na s|exact NS k na s,Reps.kp k ds r⟩
 |_,.obj c fs,h=>by
  obtain⟨a,C,dx,vs,e,na,c,s,r⟩:=h;exact⟨a,C,dx,vs,e,na,c,k _ _ s na,Repf.kp k fs r⟩
 |_,.exc c fs,h=>by
  obtain⟨a,C,φ,e,na,c,s,p,q⟩:=h;refine⟨a,C,φ,e,na,c,k _ _ s na,p,q.imp id ?_⟩;rintro⟨dx,vs,nx,s2,r,z⟩;exact⟨dx,vs,nx,k _ _ s2 nx,Repf.kp k fs r,z⟩
theorem Reps.kp(k:Kp A H H'):∀{vs:Ac V}(ds:Ac D),Reps K CL H A vs ds->Reps K CL H' A vs ds
 |[],[],h=>h
 |_::_,d::ds,h=>⟨Rep.kp k d h.1,Reps.kp k ds h.2⟩
 |[],_::_,h=>h.elim
 |_::_,[],h=>h.elim
theorem Repf.kp(k:Kp A H H'):∀{vs:Ac (An×V)}(ds:Ac (An×D)),Repf K CL H A vs ds->Repf K CL H' A vs ds
 |[],[],h=>h
 |_::_,d::ds,h=>⟨Repp.kp k d h.1,Repf.kp k ds h.2⟩
 |[],_::_,h=>h.elim
 |_::_,[],h=>h.elim
theorem Repp.kp(k:Kp A H H'):∀{v:An×V}(d:An×D),Repp K CL H A v d->Repp K CL H' A v d
 |_,(_,d),h=>⟨h.1,Rep.kp k d h.2⟩
theorem Repk.kp(k:Kp A H H'):∀{vs:Ac (Ac Ad×Ak×V)}(ds:Ac (Ac Ad×D)),Repk K CL H A vs ds->Repk K CL H' A vs ds
 |[],[],h=>h
 |_::_,d::ds,h=>⟨Repe.kp k d h.1,Repk.kp k ds h.2⟩
 |[],_::_,h=>h.elim
 |_::_,[],h=>h.elim
theorem Repe.kp(k:Kp A H H'):∀{v:Ac Ad×Ak×V}(d:Ac Ad×D),Repe K CL H A v d->Repe K CL H' A v d
 |_,(_,d),h=>⟨h.1,D8.kp k h.2.1,Rep.kp k d h.2.2⟩
end
mutual
theorem Rep.sub(k:∀ a,B a->A a):∀{v:V}(d:D),Rep K CL H A v d->Rep K CL H B v d
 |_,.non,h=>h
 |_,.bl _,h=>h
 |_,.int _,h=>h
 |_,.str _,h=>h
 |_,.dic kvs,h=>by
  obtain⟨a,es,e,na,s,r⟩:=h;exact⟨a,es,e,λz=>na (k _ z),s,Repk.sub k kvs r⟩
 |_,.tup ds,h=>by
  obtain⟨a,xs,e,na,s,r⟩:=h;exact⟨a,xs,e,na.imp (λna z=>na (k _ z)) id,s,Reps.sub k ds r⟩
 |_,.lst ds,h=>by
  obtain⟨a,xs,e,na,s,r⟩:=h;exact⟨a,xs,e,na.imp (λna z=>na (k _ z)) id,s,Reps.sub k ds r⟩
 |_,.obj c fs,h=>by
  obtain⟨a,C,dx,vs,e,na,c,s,r⟩:=h;exact⟨a,C,dx,vs,e,λz=>na (k _ z),c,s,Repf.sub k fs r⟩
 |_,.exc c fs,h=>by
  obtain⟨a,C,φ,e,na,c,s,p,q⟩:=h;refine⟨a,C,φ,e,λz=>na (k _ z),c,s,p,q.imp id ?_⟩
  rintro⟨dx,vs,nx,s2,r,z⟩;exact⟨dx,vs,λz=>nx (k _ z),s2,Repf.sub k fs r,z⟩
theorem Reps.sub(k:∀ a,B a->A a):∀{vs:Ac V}(ds:Ac D),Reps K CL H A vs ds->Reps K CL H B vs ds
 |[],[],h=>h
 |_::_,d::ds,h=>⟨Rep.sub k d h.1,Reps.sub k ds h.2⟩
 |[],_::_,h=>h.elim
 |_::_,[],h=>h.elim
theorem Repf.sub(k:∀ a,B a->A a):∀{vs:Ac (An×V)}(ds:Ac (An×D)),Repf K CL H A vs ds->Repf K CL H B vs ds
 |[],[],h=>h
 |_::_,d::ds,h=>⟨Repp.sub k d h.1,Repf.sub k ds h.2⟩
 |[],_::_,h=>h.elim
 |_::_,[],h=>h.elim
theorem Repp.sub(k:∀ a,B a->A a):∀{v:An×V}(d:An×D),Repp K CL H A v d->Repp K CL H B v d
 |_,(_,d),h=>⟨h.1,Rep.sub k d h.2⟩
theorem Repk.sub(k:∀ a,B a->A a):∀{vs:Ac (Ac Ad×Ak×V)}(ds:Ac (Ac Ad×D)),Repk K CL H A vs ds->Repk K CL H B vs ds
 |[],[],h=>h
 |_::_,d::ds,h=>⟨Repe.sub k d h.1,Repk.sub k ds h.2⟩
 |[],_::_,h=>h.elim
 |_::_,[],h=>h.elim
theorem Repe.sub(k:∀ a,B a->A a):∀{v:Ac Ad×Ak×V}(d:Ac Ad×D),Repe K CL H A v d->Repe K CL H B v d
 |_,(_,d),h=>⟨h.1,D8.sub k h.2.1,Rep.sub k d h.2.2⟩
end
mutual
theorem Rep.wide(hp:∀ a,B a->A a\/H a=Af):∀{v:V}(d:D),Rep K CL H A v d->Rep K CL H B v d
 |_,.non,h=>h
 |_,.bl _,h=>h
 |_,.int _,h=>h
 |_,.str _,h=>h
 |_,.dic kvs,h=>by
  obtain⟨a,es,e,na,s,r⟩:=h;exact⟨a,es,e,(λz=>(hp _ z).elim na λe=>by rw[e]at s;cases s),s,Repk.wide hp kvs r⟩
 |_,.tup ds,h=>by
  obtain⟨a,xs,e,na,s,r⟩:=h;refine⟨a,xs,e,?_,s,Reps.wide hp ds r⟩;rcases s with s|s
  .refine na.imp (λna z=>(hp _ z).elim na λe=>?_) id
   rcases s with s|⟨o,s⟩<;>rw[e]at s<;>cases s
  .exact .inr s
 |_,.lst ds,h=>by
  obtain⟨a,xs,e,na,s,r⟩:=h;refine⟨a,xs,e,?_,s,Reps.wide hp ds r⟩;rcases s with s|s
  .refine na.imp (λna z=>(hp _ z).elim na λe=>?_) id
   rcases s with s|⟨o,s⟩<;>rw[e]at s<;>cases s
  .exact .inr s
 |_,.obj c fs,h=>by
  obtain⟨a,C,dx,vs,e,na,c,s,r⟩:=h;exact⟨a,C,dx,vs,e,(λz=>(hp _ z).elim na λe=>by rw[e]at s;cases s),c,s,Repf.wide hp fs r⟩
 |_,.exc c fs,h=>by
  obtain⟨a,C,φ,e,na,c,s,p,q⟩:=h;refine⟨a,C,φ,e,(λz=>(hp _ z).elim na λe=>by rw[e]at s;cases s),c,s,p,q.imp id ?_⟩
  rintro⟨dx,vs,nx,s2,r,z⟩;exact⟨dx,vs,(λz=>(hp _ z).elim nx λe=>by rw[e]at s2;cases s2),s2,Repf.wide hp fs r,z⟩
theorem Reps.wide(hp:∀ a,B a->A a\/H a=Af):∀{vs:Ac V}(ds:Ac D),Reps K CL H A vs ds->Reps K CL H B vs ds
 |[],[],h=>h
 |_::_,d::ds,h=>⟨Rep.wide hp d h.1,Reps.wide hp ds h.2⟩
 |[],_::_,h=>h.elim
 |_::_,[],h=>h.elim
theorem Repf.wide(hp:∀ a,B a->A a\/H a=Af):∀{vs:Ac (An×V)}(ds:Ac (An×D)),Repf K CL H A vs ds->Repf K CL H B vs ds
 |[],[],h=>h
 |_::_,d::ds,h=>⟨Repp.wide hp d h.1,Repf.wide hp ds h.2⟩
 |[],_::_,h=>h.elim
 |_::_,[],h=>h.elim
theorem Repp.wide(hp:∀ a,B a->A a\/H a=Af):∀{v:An×V}(d:An×D),Repp K CL H A v d->Repp K CL H B v d
 |_,(_,d),h=>⟨h.1,Rep.wide hp d h.2⟩
theorem Repk.wide(hp:∀ a,B a->A a\/H a=Af):∀{vs:Ac (Ac Ad×Ak×V)}(ds:Ac (Ac Ad×D)),Repk K CL H A vs ds->Repk K CL H B vs ds
 |[],[],h=>h
 |_::_,d::ds,h=>⟨Repe.wide hp d h.1,Repk.wide hp ds h.2⟩
 |[],_::_,h=>h.elim
 |_::_,[],h=>h.elim
theorem Repe.wide(hp:∀ a,B a->A a\/H a=Af):∀{v:Ac Ad×Ak×V}(d:Ac Ad×D),Repe K CL H A v d->Repe K CL H B v d
 |_,(_,d),h=>⟨h.1,D8.wide hp h.2.1,Rep.wide hp d h.2.2⟩
end
theorem Rep.same(s:AH H H')(h:Rep K CL H A v d):Rep K CL H' A v d:=Rep.kp (Kp.of s) d h
theorem Reps.same{v:Ac V}{d:Ac D}(s:AH H H')(h:Reps K CL H A v d):Reps K CL H' A v d:=Reps.kp (Kp.of s) d h
theorem Ds.map(f:∀{vs:Ac V}{ds:Ac D},Reps K CL H A vs ds->Reps K CL H' A' vs ds)(g:∀{vs:Ac (Ac Ad×Ak×V)}{ds:Ac (Ac Ad×D)},Repk K CL H A vs ds->Repk K CL H' A' vs ds)(h:Ds K CL H A a o d):Ds K CL H' A' a o d:=
 h.imp (λ⟨xs,ds,e1,e2,r⟩=>⟨xs,ds,e1,e2,f r⟩) λ⟨xs,ds,e1,e2,r⟩=>⟨xs,ds,e1,e2,g r⟩
theorem Ds.kp{a:Ak}{o:HO}{d:D}(k:Kp A H H')(h:Ds K CL H A a o d):Ds K CL H' A a o d:=h.map (Reps.kp k _) (Repk.kp k _)
theorem Ds.sub{a:Ak}{o:HO}{d:D}(k:∀ a,B a->A a)(h:Ds K CL H A a o d):Ds K CL H B a o d:=h.map (Reps.sub k _) (Repk.sub k _)
theorem Ds.wide{a:Ak}{o:HO}{d:D}(k:∀ a,B a->A a\/H a=Af)(h:Ds K CL H A a o d):Ds K CL H B a o d:=h.map (Reps.wide k _) (Repk.wide k _)
theorem Ds.same(s:AH H H')(h:Ds K CL H A a o d):Ds K CL H' A a o d:=h.kp (Kp.of s)
theorem Ds.owk(h:Ds K CL H A a o d):OwK a o:=h.imp (λ⟨xs,_,e,_⟩=>⟨xs,e⟩) λ⟨xs,_,e,_⟩=>⟨xs,e⟩
theorem Ds.lst{ds:Ac D}(h:Reps K CL H A xs ds):Ds K CL H A a (.lst xs) (.lst ds):=.inl ⟨xs,ds,rfl,rfl,h⟩
theorem Ds.dic{xs:Ac (Ac Ad×Ak×V)}{ds:Ac (Ac Ad×D)}(h:Repk K CL H A xs ds):Ds K CL H A a (.ext (DS a xs)) (.dic ds):=.inr ⟨xs,ds,rfl,rfl,h⟩
theorem Ds.lst_of{ds:Ac D}(h:Ds K CL H A a o (.lst ds)):∃ xs,o=.lst xs/\Reps K CL H A xs ds:=by
 rcases h with ⟨xs,ds',e,e2,r⟩|⟨_,_,_,e,_⟩
 .cases e2;exact⟨xs,e,r⟩
 .cases e
theorem Ds.dic_of{ds:Ac (Ac Ad×D)}(h:Ds K CL H A a o (.dic ds)):∃ xs,o=.ext (DS a xs)/\Repk K CL H A xs ds:=by
 rcases h with ⟨_,_,_,e,_⟩|⟨xs,ds',e,e2,r⟩
 .cases e
 .cases e2;exact⟨xs,e,r⟩
theorem C4.same{v:V}{d:D}(s:AH H H')(h:C4 K CL H A v d):C4 K CL H' A v d:=by
 rcases h with h|⟨a,o,e,q,r⟩
 .exact .inl (h.same s)
 .exact .inr ⟨a,o,e,s _ _ q,r.same s⟩
theorem Reps.length:∀{vs:Ac V}{ds:Ac D},Reps K CL H A vs ds->vs.length=ds.length
 |[],[],_=>rfl
 |_::_,_::_,h=>congrArg (· + 1) (Reps.length h.2)
 |[],_::_,h=>h.elim
 |_::_,[],h=>h.elim
theorem Reps.append:∀{vs ws:Ac V}{ds es:Ac D},Reps K CL H A vs ds->Reps K CL H A ws es->Reps K CL H A (vs++ws) (ds++es)
 |[],_,[],_,_,h=>h
 |_::_,_,_::_,_,h,g=>⟨h.1,Reps.append h.2 g⟩
 |[],_,_::_,_,h,_=>h.elim
 |_::_,_,[],_,h,_=>h.elim
theorem Reps.get:∀{vs:Ac V}{ds:Ac D}{i:Ag}{d:D},Reps K CL H A vs ds->ds[i]?=Ab d->∃ v,vs[i]?=Ab v/\Rep K CL H A v d
 |[],[],_,_,_,e=>by simp at e
 |v::_,_::_,0,_,h,e=>by simp at e;subst e;exact⟨v,rfl,h.1⟩
 |_::_,_::_,i+1,_,h,e=>by
  obtain⟨v,q,r⟩:=Reps.get (i:=i) h.2 (by simpa using e)
  exact⟨v,by simpa using q,r⟩
 |[],_::_,_,_,h,_=>h.elim
 |_::_,[],_,_,h,_=>h.elim
theorem Reps.take:∀{vs:Ac V}{ds:Ac D}(n:Ag),Reps K CL H A vs ds->Reps K CL H A (vs.take n) (ds.take n)
 |_,_,0,_=>trivial
 |[],[],_+1,_=>trivial
 |_::_,_::_,n+1,h=>⟨h.1,Reps.take n h.2⟩
 |[],_::_,_+1,h=>h.elim
 |_::_,[],_+1,h=>h.elim
theorem Reps.drop:∀{vs:Ac V}{ds:Ac D}(n:Ag),Reps K CL H A vs ds->Reps K CL H A (vs.drop n) (ds.drop n)
 |_,_,0,h=>h
 |[],[],_+1,_=>trivial
 |_::_,_::_,n+1,h=>Reps.drop n h.2
 |[],_::_,_+1,h=>h.elim
 |_::_,[],_+1,h=>h.elim
theorem Reps.set{x:V}{e:D}(r:Rep K CL H A x e):∀{vs:Ac V}{ds:Ac D}(n:Ag),Reps K CL H A vs ds->Reps K CL H A (vs.set n x) (ds.set n e)
 |[],[],_,_=>trivial
 |_::_,_::_,0,h=>⟨r,h.2⟩
 |_::_,_::_,n+1,h=>⟨h.1,Reps.set r n h.2⟩
 |[],_::_,_,h=>h.elim
 |_::_,[],_,h=>h.elim
end
structure Good (K:Fg) (CL:ClA) (A:Ak->Prop) (Y:Rho) (U:L2.St) (H:Hp):Prop where
 sh:∀(i:Ag)(d:D),Y[i]?=Ab (Ab (d,Ae))->∃ v,U[i]?=Ab (Ab v)/\Rep K CL H A v d
 ow:∀(i:Ag)(d:D),Y[i]?=Ab (Ab (d,Aa))->∃ a o,U[i]?=Ab (Ab (.ref a))/\A a/\H a=Ab o/\Ds K CL H A a o d
 len:Y.length=U.length
theorem Good.same{K:Fg}{CL:ClA}{A:Ak->Prop}{Y:Rho}{U:L2.St}{H H':Hp}(g:Good K CL A Y U H)(s:AH H H'):Good K CL A Y U H':=
 ⟨λi d e=>let ⟨v,q,r⟩:=g.sh i d e;⟨v,q,r.same s⟩,λi d e=>let ⟨a,o,q,na,h,r⟩:=g.ow i d e;⟨a,o,q,na,s _ _ h,r.same s⟩,g.len⟩
theorem Good.owL(g:Good K CL A Y U H){ds:Ac D}(e:Y[i]?=Ab (Ab (.lst ds,Aa))):∃ a xs ds',U[i]?=Ab (Ab (.ref a))/\D.lst ds=.lst ds'/\A a/\H a=Ab (.lst xs)/\Reps K CL H A xs ds':=by
 obtain⟨a,o,q,na,h,r⟩:=g.ow i _ e;obtain⟨xs,rfl,r'⟩:=r.lst_of;exact⟨a,xs,ds,q,rfl,na,h,r'⟩
theorem Good.owK(g:Good K CL A Y U H){ds:Ac (Ac Ad×D)}(e:Y[i]?=Ab (Ab (.dic ds,Aa))):∃ a xs,U[i]?=Ab (Ab (.ref a))/\A a/\H a=Ab (.ext (DS a xs))/\Repk K CL H A xs ds:=by
 obtain⟨a,o,q,na,h,r⟩:=g.ow i _ e;obtain⟨xs,rfl,r'⟩:=r.dic_of;exact⟨a,xs,q,na,h,r'⟩
abbrev XW:=Ex->Hp->Prop
variable{W:XW}
def Br(Rp:Hp->V->D->Prop)(W:XW)(H:Hp)(r:R D)(Q:VK):Prop:=match r with
  |.ok d=>∀ v H',AH H H'->Rp H' v d->Q v H'
  |.exn x=>∀ H',AH H H'->W x H'
  |.bad=>Bu
def Ie(Rp:Hp->Ac V->Ac D->Prop)(W:XW)(H:Hp)(r:R (Ac D))(Q:Ac V->Hp->Prop):Prop:=match r with
  |.ok d=>∀ v H',AH H H'->Rp H' v d->Q v H'
  |.exn x=>∀ H',AH H H'->W x H'
  |.bad=>Bu
def DG(W:XW)(H:Hp)(r:R Al)(Q:Al->Hp->Prop):Prop:=match r with
  |.ok b=>∀ H',AH H H'->Q b H'
  |.exn x=>∀ H',AH H H'->W x H'
  |.bad=>Bu
theorem Br.same(s:AH H H')(h:Br Rp W H r Q):Br Rp W H' r Q:=by
 cases r with
 |ok d=>exact λv H2 s2 q=>h v H2 (s.trans s2) q
 |exn x=>exact λH2 s2=>h H2 (s.trans s2)
 |bad=>exact h
theorem DG.same{r:R Al}{Q:Al->Hp->Prop}(s:AH H H')(h:DG W H r Q):DG W H' r Q:=by
 cases r with
 |ok d=>exact λH2 s2=>h H2 (s.trans s2)
 |exn x=>exact λH2 s2=>h H2 (s.trans s2)
 |bad=>exact h
theorem Br.bind{f:D->R D}{Q':VK}(h:Br Rq W H (r.bind f) Q)(k:∀ d v H',r=.ok d->AH H H'->Rp H' v d->Br Rq W H' (f d) Q->Q' v H'):Br Rp W H r Q':=by
 cases r with
 |ok d=>exact λv H2 s2 q=>k d v H2 rfl s2 q (Br.same s2 h)
 |exn x=>exact h
 |bad=>exact h
section
variable(X:Cx)(CL:ClA)(W:XW)
def SE(e:Ao)(f:Rho->R D):Prop:=∀ A,PE X e (λU H Q=>AOk H A/\∃ Y,Good X.K CL A Y U H/\Br (λH=>Rep X.K CL H A) W H (f Y) Q)
def ST(e:Ao)(f:Rho->R D):Prop:=∀ A,PE X e (λU H Q=>AOk H A/\∃ Y,Good X.K CL A Y U H/\Br (λH=>C4 X.K CL H A) W H (f Y) Q)
def SB(e:Ao)(f:Rho->R Al):Prop:=∀ A,PT X e (λU H Q=>AOk H A/\∃ Y,Good X.K CL A Y U H/\DG W H (f Y) Q)
def SA(es:Ac Ao)(f:Rho->R (Ac D)):Prop:=∀ A,PA X es (λU H Q=>AOk H A/\∃ Y,Good X.K CL A Y U H/\Ie (λH=>Reps X.K CL H A) W H (f Y) Q)
end
theorem PE.weak{t t':TE}(h:PE X e t)(k:∀ U H Q,t' U H Q->t U H Q):PE X e t':=λpI s U H Q I q=>h pI s U H Q I (k _ _ _ q)
theorem PT.weak{t t':TT}(h:PT X e t)(k:∀ U H Q,t' U H Q->t U H Q):PT X e t':=λpI s U H Q I q=>h pI s U H Q I (k _ _ _ q)
theorem PA.weak{e:Ac Ao}{t t':TA}(h:PA X e t)(k:∀ U H Q,t' U H Q->t U H Q):PA X e t':=λpos pI s U H Q I q=>h pos pI s U H Q I (k _ _ _ q)
noncomputable def OpD(X:Cx)(CL:ClA)(W:XW)(f:Ai->Ai->Hr Ai)(g:D->D->R D):Prop:=
 ∀ A,OpR X f (λx y H Q=>AOk H A/\∃ dx dy,C4 X.K CL H A x dx/\C4 X.K CL H A y dy/\Br (λH=>Rep X.K CL H A) W H (g dx dy) Q)
section
variable{X:Cx}{CL:ClA}{W:XW}{a b c:Ao}{fa fb fc:Rho->R D}{pos:AX}
theorem SE.st(h:SE X CL W a fa):ST X CL W a fa:=λA=>PE.weak (h A) λU H Q ⟨hA,Y,g,p⟩=>⟨hA,Y,g,by
 cases e:fa Y with
 |ok d=>rw[e]at p;exact λv H' s r=>p v H' s (.inl r)
 |exn x=>rw[e]at p;exact p
 | bad=>rw[e]at p;exact p⟩
theorem SE.congr{f g:Rho->R D}(h:SE X CL W a f)(e:∀ Y,g Y=f Y):SE X CL W a g:=λA=>PE.weak (h A) λU H Q ⟨hA,Y,q,p⟩=>⟨hA,Y,q,by rw[<-e];exact p⟩
theorem On(h:PE X a (tC v))(r:∀ H A,AOk H A->Rep X.K CL H A v d):SE X CL W a (λ_=>.ok d):=λA=>PE.weak h λU H Q ⟨hA,Y,g,p⟩=>p v H (AH.refl H) (r H A hA)
theorem yK{i j}:SE X CL W (.Constant (.int i) j pos) (λ_=>.ok (.int i)):=On b9 λ_ _ _=>rfl
theorem oq{b j}:SE X CL W (.Constant (.bool b) j pos) (λ_=>.ok (.bl b)):=On bG λ_ _ _=>rfl
theorem yH{j}:SE X CL W (.Constant .none j pos) (λ_=>.ok .non):=On b7 λ_ _ _=>rfl
theorem yF{x j}:SE X CL W (.Constant (.str x) j pos) (λ_=>.ok (.str x)):=On ar λ_ _ _=>rfl
theorem oQ(h:Gb Y i=.ok d):Y[i]?=Ab (Ab (d,Ae)):=by
 unfold Gb at h;split at h
 .rename_i e;cases h;exact e
 .cases h
theorem Vj(h:EN Y i=.ok d):∃ o,Y[i]?=Ab (Ab (d,o)):=by
 unfold EN at h;split at h
 .rename_i e;cases h;exact⟨_,e⟩
 .cases h
theorem kG(h:Gb Y i=.exn x):Bu:=by
 unfold Gb at h;split at h<;>cases h
theorem Uj(h:EN Y i=.exn x):Bu:=by
 unfold EN at h;split at h<;>cases h
theorem yD(h:PE X a (HE i)):SE X CL W a (λY=>Gb Y i):=λA=>PE.weak h λU H Q ⟨hA,Y,g,p⟩=>by
 dsimp only at p;cases e:Gb Y i with
 |ok d=>
  rw[e]at p;obtain⟨v,q,r⟩:=g.sh i d (oQ e);exact⟨v,q,p v H (AH.refl H) r⟩
 |exn x=>exact(kG e).elim
 |bad=>rw[e]at p;exact p.elim
theorem Wo(h:PE X a (HE i)):ST X CL W a (λY=>EN Y i):=λA=>PE.weak h λU H Q ⟨hA,Y,g,p⟩=>by
 dsimp only at p;cases e:EN Y i with
 |ok d=>
  rw[e]at p;obtain⟨o,e⟩:=Vj e;cases o with
  |false=>
   obtain⟨v,q,r⟩:=g.sh i d e;exact⟨v,q,p v H (AH.refl H) (.inl r)⟩
  |true=>
   obtain⟨x,o,q,ha,hh,r⟩:=g.ow i d e;exact⟨_,q,p _ H (AH.refl H) (.inr ⟨x,o,rfl,hh,r⟩)⟩
 |exn x=>exact(Uj e).elim
 |bad=>rw[e]at p;exact p.elim
theorem op2(h:AOk H A/\∃ Y,Good X.K CL A Y U H/\Br Rq W H ((fa Y).bind λx=>(fb Y).bind λy=>g x y) Q):AOk H A/\∃ Y,Good X.K CL A Y U H/\Br (λH=>C4 X.K CL H A) W H (fa Y) (λx H1=>AOk H1 A/\∃ Y,Good X.K CL A Y U H1/\Br (λH=>C4 X.K CL H A) W H1 (fb Y) (λy H2=>AOk H2 A/\∃ dx dy,C4 X.K CL H2 A x dx/\C4 X.K CL H2 A y dy/\Br Rq W H2 (g dx dy) Q)):=by
 obtain⟨hA,Y,gd,p⟩:=h;refine⟨hA,Y,gd,Br.bind p λdx x H1 _ s1 r1 p1=>⟨hA.same s1,Y,gd.same s1,Br.bind p1 λdy y H2 _ s2 r2 p2=>⟨(hA.same s1).same s2,dx,dy,r1.same s2,r2,p2⟩⟩⟩
theorem Ws{op:Gu}(ho:OpD X CL W (Cw op) g)(ha:ST X CL W a fa)(hb:ST X CL W b fb):SE X CL W (.BinOp a op b pos) (λY=>(fa Y).bind λx=>(fb Y).bind λy=>g x y):=
 λA=>PE.weak (Xa (ho A) (ha A) (hb A)) λU H Q h=>op2 h
theorem xK(ho:OpD X CL W (CO op) g)(ha:ST X CL W a fa)(hb:ST X CL W b fb)(hm:Hs op b=Ae):SE X CL W (.Compare a [op] [b] pos) (λY=>(fa Y).bind λx=>(fb Y).bind λy=>g x y):=
 λA=>PE.weak (sV (ho A) (ha A) (hb A) hm) λU H Q h=>op2 h
theorem C4.int_of{i:Ad}(h:C4 K CL H A v (.int i)):v=.int i:=by
 rcases h with h|⟨_,_,_,_,⟨_,_,_,e,_⟩|⟨_,_,_,e,_⟩⟩
 .exact h
 .cases e
 .cases e
theorem C4.str_of{i:An}(h:C4 K CL H A v (.str i)):v=.str i:=by
 rcases h with h|⟨_,_,_,_,⟨_,_,_,e,_⟩|⟨_,_,_,e,_⟩⟩
 .exact h
 .cases e
 .cases e
theorem C4.bl_of{i:Al}(h:C4 K CL H A v (.bl i)):v=.bl i:=by
 rcases h with h|⟨_,_,_,_,⟨_,_,_,e,_⟩|⟨_,_,_,e,_⟩⟩
 .exact h
 .cases e
 .cases e
theorem C4.non_of(h:C4 K CL H A v .non):v=.non:=by
 rcases h with h|⟨_,_,_,_,⟨_,_,_,e,_⟩|⟨_,_,_,e,_⟩⟩
 .exact h
 .cases e
 .cases e
theorem C4.lst_of{K:Fg}{H:Hp}{A:Ak->Prop}{v:V}{ds:Ac D}(h:C4 K CL H A v (.lst ds)):∃ a xs,v=.ref a/\SqL K H a xs/\Reps K CL H A xs ds:=by
 rcases h with ⟨a,xs,e,_,s,r⟩|⟨a,o,rfl,s,r⟩
 .exact⟨a,xs,e,s,r⟩
 .obtain⟨xs,rfl,r'⟩:=r.lst_of;exact⟨a,xs,rfl,SqL.of s,r'⟩
theorem C4.dic_of{K:Fg}{H:Hp}{A:Ak->Prop}{v:V}{ds:Ac (Ac Ad×D)}(h:C4 K CL H A v (.dic ds)):∃ a es,v=.ref a/\H a=Ab (.ext (DS a es))/\Repk K CL H A es ds:=by
 rcases h with ⟨a,xs,e,_,s,r⟩|⟨a,o,rfl,s,r⟩
 .exact⟨a,xs,e,s,r⟩
 .obtain⟨xs,rfl,r'⟩:=r.dic_of;exact⟨a,xs,rfl,s,r'⟩
theorem C4.tup_of{ds:Ac D}(h:C4 K CL H A v (.tup ds)):∃ a xs,v=.ref a/\(¬ A a\/KT K a xs)/\SqT K H a xs/\Reps K CL H A xs ds:=by
 rcases h with ⟨a,xs,e,n,s,r⟩|⟨_,_,_,_,⟨_,_,_,e,_⟩|⟨_,_,_,e,_⟩⟩
 .exact⟨a,xs,e,n,s,r⟩
 .cases e
 .cases e
theorem sN{i j:Ad}(h:DZ i j=Aa):OH i j:=by
 unfold DZ at h;simp only[C7,Ap,Bj]at h;unfold OH;omega
theorem V8{a:Ad}(h:a.natAbs<2 ^ 2000):YK a<=2 ^ 20:=by
 unfold YK;split
 .omega
 .rename_i hz;have h0:a.natAbs≠0:=by intro z;exact hz (by rw[Int.natAbs_eq_zero.mp z];rfl)
  have:=(Nat.log2_lt h0).mpr h;omega
theorem sK{i j:Ad}(h:(DZ i j||Fh i j)=Aa):L9 i j:=by
 rcases Bool.or_eq_true_iff.mp h with h|h
 .exact(sN h).ok
 .unfold Fh at h;rw[Ap,Bj,Bj]at h;exact .of_bits (V8 h.1) (V8 h.2)
theorem tM:OpR X (Cw .Mult) (rI L9 λi j=>.int (i*j)):=opI λ_ _ _ _ _ _ _ hc q=>mul_int q hc
theorem Hv(h:CN n=Aa):n<=sizeLine:=by
 unfold CN at h;rw[E1];have:=Yy h;omega
theorem Vw{p:Ak}{ds:Ac D}(hA:AOk H A)(hp:H p=Af)(r:Reps K CL H A xs ds):Rep K CL (upd H p (.lst xs)) A (.ref p) (.lst ds):=
 ⟨p,xs,rfl,.inl (hA.new hp),SqL.of Iw,r.same λb o e=>by rw[DF (Gw e hp)];exact e⟩
theorem Li{p:Ak}{ds:Ac D}(hA:AOk H A)(hp:H p=Af)(r:Reps K CL H A xs ds):Rep K CL (upd H p (.tup xs)) A (.ref p) (.tup ds):=
 ⟨p,xs,rfl,.inl (hA.new hp),SqT.of Iw,r.same λb o e=>by rw[DF (Gw e hp)];exact e⟩
theorem Gv{p:Ak}(h:H p=Af)(o:HO):AH H (upd H p o):=λb u q=>by rw[DF (Gw q h)];exact q
def ma(K:Fg):R2:=λx y H Q=>∃ l b xs zs,x=.ref l/\y=.ref b/\SqL K H l xs/\SqL K H b zs/\xs.length+zs.length<=sizeLine/\∀ p,H p=Af->Q (.ref p) (upd H p (.lst (xs++zs)))
end
section
variable{P:AT}{w:AD}{a:Ak}{xs:Ac (Ac Ad×Ak×Ai)}{h:AJ}
theorem GZ.of(d:GZ P w a xs h)(k:∀ x∈xs,(TK P w).is h x.1 x.2.1):h.DictOfH (TK P w) a xs:=by
 obtain⟨_,o,es,ep,h1,h2,h3,h4,h5⟩:=d;exact⟨o,es,ep,h1,h2,h3,h4,k,h5⟩
theorem GZ.to(hs:(a==Ez)=Ae)(d:h.DictOfH (TK P w) a xs):GZ P w a xs h:=by
 obtain⟨o,es,ep,h1,h2,h3,h4,k,h5⟩:=d;exact⟨hs,o,es,ep,h1,h2,h3,h4,h5⟩
theorem GZ.keep(d:GZ P w a xs h)(k:∀ o,h.get? a=Ab o->h'.get? a=Ab o):GZ P w a xs h':=by
 obtain⟨hs,o,es,ep,h1,r⟩:=d;exact⟨hs,o,es,ep,k o h1,r⟩
theorem GZ.any(d:GZ P w a xs h):∀ P w,GZ P w a xs h:=λ_ _=>d
theorem DS.keep{h':AJ}{es:Ac (Ac Ad×Ak×V)}(d:DS a es h)(k:∀ o,h.get? a=Ab o->h'.get? a=Ab o):DS a es h':=let ⟨ys,v,d⟩:=d;⟨ys,v,λP w=>(d P w).keep k⟩
theorem ValE.length{es:Ac (Ac Ad×Ak×V)}(v:ValE es ys):es.length=ys.length:=by
 induction v with
 |nil=>rfl
 |cons _ _ ih=>exact congrArg (· + 1) ih
theorem jC:∀{k:Ac Ad}{its:Ac Ai},Bk (k.map V.int) its->ItemsAre (intKind P w) k its:=by
 intro k
 induction k with
 |nil=>intro its v;cases v;exact .nil
 |cons i k ih=>
  intro its v;cases v with
  |cons v1 v2=>
   obtain⟨t,rfl⟩:=v1;exact .cons (intKind_is _ _ _ _) (ih v2)
end
section
variable{K:Fg}{CL:ClA}{H:Hp}{A:Ak->Prop}
theorem kP:∀{ds:Ac D}{k:Ac Ad}{xs:Ac V},EQ.keyDs ds=Ab k->Reps K CL H A xs ds->xs=k.map V.int:=by
 intro ds
 induction ds with
 |nil=>
  intro k xs e r;cases e;cases xs with
  |nil=>rfl
  |cons=>exact r.elim
 |cons d ds ih=>
  intro k xs e r;cases xs with
  |nil=>exact r.elim
  |cons x xs=>
   cases d with
   |int i=>
    have e':(EQ.keyDs ds).map (i :: ·)=Ab k:=e;cases e1:EQ.keyDs ds with
    |none=>rw[e1]at e';cases e'
    |some k'=>
     rw[e1]at e';cases e';have ex:x=.int i:=r.1;rw[ex,ih e1 r.2];rfl
   |_=>exact nomatch (show Af=Ab k from e)
theorem qC(r:Rep K CL H A v d)(e:EQ d=Ab k):∃ a,v=.ref a/\D8 K H A a k:=by
 cases d with
 |tup ds=>
  obtain⟨a,xs,ev,na,sq,rs⟩:=r;exact⟨a,ev,xs,na,sq,kP e rs⟩
 |_=>exact nomatch (show Af=Ab k from e)
theorem Lj(r:C4 K CL H A v d)(e:EQ d=Ab k):∃ a,v=.ref a/\D8 K H A a k:=by
 rcases r with r|⟨_,_,_,_,⟨_,_,_,rfl,_⟩|⟨_,_,_,rfl,_⟩⟩
 .exact qC r e
 .exact nomatch (show Af=Ab k from e)
 .exact nomatch (show Af=Ab k from e)
theorem Repk.length:∀{es:Ac (Ac Ad×Ak×V)}{kvs:Ac (Ac Ad×D)},Repk K CL H A es kvs->es.length=kvs.length
 |[],[],_=>rfl
 |_::_,_::_,h=>congrArg (· + 1) (Repk.length h.2)
 |[],_::_,h=>h.elim
 |_::_,[],h=>h.elim
theorem KG{es:Ac (Ac Ad×Ak×V)}(v:ValE es ys)(k:Ac Ad):∀{kvs:Ac (Ac Ad×D)},Repk K CL H A es kvs->(Hk ys k=Af/\Dl kvs k=Af/\(kvs.any λp=>p.1==k)=Ae)\/∃ p x d,Hk ys k=Ab p/\Dl kvs k=Ab d/\(kvs.any λp=>p.1==k)=Aa/\BP x p.2/\Rep K CL H A x d:=by
 induction v with
 |nil=>
  intro kvs r;cases kvs with
  |nil=>exact .inl ⟨rfl,rfl,rfl⟩
  |cons=>exact r.elim
 | @cons k' a x y xs ys rv _ ih=>
  intro kvs r;cases kvs with
  |nil=>exact r.elim
  |cons q kvs=>
   obtain⟨k2,d⟩:=q;obtain⟨⟨e1,_,rd⟩,r2⟩:=r;cases (show k'=k2 from e1)
   by_cases hk:k'=k
   .refine .inr ⟨(a,y),x,d,?_,?_,?_,rv,rd⟩
    .simp[Hk,hk]
    .simp[Dl,hk]
    .simp[hk]
   .have h0:(k'==k)=Ae:=D6.mpr hk;rcases ih r2 with ⟨z1,z2,z3⟩|⟨p,x',d',z1,z2,z3,z4⟩
    .refine .inl ⟨?_,?_,?_⟩
     .simpa [Hk,Eg,hk] using z1
     .simpa [Dl,Eg,h0] using z2
     .rw[Go,z3];simp[h0]
    .refine .inr ⟨p,x',d',?_,?_,?_,z4⟩
     .simpa [Hk,Eg,hk] using z1
     .simpa [Dl,Eg,h0] using z2
     .rw[Go,z3];simp
theorem Vh{es:Ac (Ac Ad×Ak×V)}(v:ValE es ys){x:V}(kr:D8 K H A ka k)(rx:BP x y)(rd:Rep K CL H A x d):∀{kvs:Ac (Ac Ad×D)},Repk K CL H A es kvs->∃ es',ValE es' (ys++[(k,ka,y)])/\Repk K CL H A es' (kvs++[(k,d)]):=by
 induction v with
 |nil=>
  intro kvs r;cases kvs with
  |nil=>exact⟨[(k,ka,x)],.cons rx .nil,⟨rfl,kr,rd⟩,trivial⟩
  |cons=>exact r.elim
 | @cons k' a x y xs ys rv _ ih=>
  intro kvs r;cases kvs with
  |nil=>exact r.elim
  |cons q kvs=>
   obtain⟨es',h1,h2⟩:=ih r.2;exact⟨(k',a,x)::es',.cons rv h1,r.1,h2⟩
theorem qB{es:Ac (Ac Ad×Ak×V)}(v:ValE es ys){x:V}(rx:BP x y)(rd:Rep K CL H A x d):∀{kvs:Ac (Ac Ad×D)},Repk K CL H A es kvs->∃ es',ValE es' (ys.map (putAt k y))/\Repk K CL H A es' (kvs.map λp=>if (p.1==k)=Aa then (k,d) else p):=by
 induction v with
 |nil=>
  intro kvs r;cases kvs with
  |nil=>exact⟨[],.nil,trivial⟩
  |cons=>exact r.elim
 | @cons k' a x' y' xs ys rv _ ih=>
  intro kvs r;cases kvs with
  |nil=>exact r.elim
  |cons q kvs=>
   obtain⟨es',h1,h2⟩:=ih r.2;obtain⟨k2,d'⟩:=q;obtain⟨⟨e1,kr,rd'⟩,r2⟩:=r;cases (show k'=k2 from e1)
   by_cases hk:k'=k
   .refine⟨(k',a,x)::es',?_,?_⟩
    .rw[Bm,show putAt k y (k',a,y')=(k',a,y) from AF hk]
     exact .cons rx h1
    .rw[Bm,AF (show ((k'==k)=Aa) from BK.mpr hk)]
     exact⟨⟨hk,hk ▸ kr,rd⟩,h2⟩
   .refine⟨(k',a,x')::es',?_,?_⟩
    .rw[Bm,show putAt k y (k',a,y')=(k',a,y') from AN hk]
     exact .cons rv h1
    .rw[Bm,AN (show ¬ ((k'==k)=Aa) from λz=>hk (beq_iff_eq.mp z))]
     exact⟨⟨rfl,kr,rd'⟩,h2⟩
theorem qA{es:Ac (Ac Ad×Ak×V)}(v:ValE es ys){x:V}(kr:D8 K H A ka k)(rx:BP x y)(rd:Rep K CL H A x d){kvs:Ac (Ac Ad×D)}(r:Repk K CL H A es kvs):∃ es',ValE es' (storedH ys k ka y)/\Repk K CL H A es' (Gx kvs k d):=by
 unfold Gx;rcases KG v k r with ⟨z1,_,z3⟩|⟨p,_,_,z1,_,z3,_⟩
 .rw[storedH_new z1,AN (by rw[z3];exact AM)]
  exact Vh v kr rx rd r
 .rw[storedH_old z1,AF z3];exact qB v rx rd r
end
section
variable{X:Cx}{pI:Pn}{U:L2.St}{H:Hp}{s:As}{a ka:Ak}{k:Ac Ad}{CL:ClA}{A:Ak->Prop}{es:Ac (Ac Ad×Ak×V)}{kvs:Ac (Ac Ad×D)}
theorem KD(I:Inv X pI U H s)(r:D8 X.K H A ka k):(TK X.prog X.w).is s.heap k ka:=by
 obtain⟨xs,_,sq,rfl⟩:=r;obtain⟨its,vs,⟨o,ho,hc,n,hd⟩,_⟩:=I.tuple sq;exact⟨o,its.toArray,n,ho,hc,hd,jC vs⟩
theorem sB(I:Inv X pI U H s)(v:ValE es ys):∀{kvs:Ac (Ac Ad×D)},Repk X.K CL H A es kvs->∀ x∈ys,(TK X.prog X.w).is s.heap x.1 x.2.1:=by
 induction v with
 |nil=>intro kvs r x hx;cases hx
 | @cons k' a x y xs ys rv _ ih=>
  intro kvs r z hz;cases kvs with
  |nil=>exact r.elim
  |cons q kvs=>
   obtain⟨k2,d⟩:=q;obtain⟨⟨e1,kr,rd⟩,r2⟩:=r;cases (show k'=k2 from e1)
   rcases Au.mp hz with rfl|hz
   .exact KD I kr
   .exact ih r2 z hz
theorem dic_of(I:Inv X pI U H s)(hH:H a=Ab (.ext (DS a es)))(r:Repk X.K CL H A es kvs):∃ ys,ValE es ys/\(a==Ez)=Ae/\s.heap.DictOfH (TK X.prog X.w) a ys:=by
 obtain⟨ys,ve,d⟩:=(I.hok a _ hH).1;have d:=d X.prog X.w;exact⟨ys,ve,d.1,d.of (sB I ve r)⟩
theorem uB{x:V}{v:Ai}{Q:Jc->As->Prop}{E:Vq}(hu:X.A.units+1<BV)(I:Inv X pI U H s)(hH:H a=Ab (.ext (DS a es)))(r:Repk X.K CL H A es kvs)(hk:D8 X.K H A ka k)(rx:BP x v)(rd:Rep X.K CL H A x d)(hz:kvs.length<=sizeLine)(q:∀ s' es',Repk X.K CL H A es' (Gx kvs k d)->Inv X pI U (upd H a (.ext (DS a es'))) s'->Q () s'):Az (model X.prog X.w) X.A (J9 (.ref a) (.ref ka) v) Q E s:=by
 obtain⟨ys,ve,hs,m⟩:=dic_of I hH r;obtain⟨es',ve',r'⟩:=qA ve hk rx rd r;refine wpAny_setItem_heap (knd:=TK X.prog X.w) (hsz:=by rw[<-ve.length,r.length];exact hz) (Ed hu) (KD I hk) m λh' m sb=>q _ es' r' ?_
 obtain⟨o,_,_,h1,_⟩:=id m;exact I.write (x:=a) (e:=a) (by rw[hH];exact trivial) (.inl rfl) (λb u hb hu=>(sb.2 b hb).trans hu) ⟨o,h1⟩ ⟨⟨_,ve',(GZ.to hs m).any⟩,⟨o,h1⟩,λh1 h2 d k=>d.keep k⟩
theorem d8{Q:Vq}{E:Vq}(hu:X.A.units+1<BV)(I:Inv X pI U H s)(hH:H a=Ab (.ext (DS a es)))(r:Repk X.K CL H A es kvs)(hk:D8 X.K H A ka k)(q:∀ s',Inv X pI U H s'->Q (.bool (kvs.any λp=>p.1==k)) s'):Az (model X.prog X.w) X.A (CO .In (.ref ka) (.ref a)) Q E s:=by
 obtain⟨ys,ve,hs,m⟩:=dic_of I hH r;refine wpAny_in_heap (knd:=TK X.prog X.w) (Ed hu) (KD I hk) hs m ?_;have e:(Hk ys k).isSome=(kvs.any λp=>p.1==k):=by
  rcases KG ve k r with ⟨z1,_,z3⟩|⟨p,_,_,z1,_,z3,_⟩<;>rw[z1,z3]<;>rfl
 rw[e];exact q _ (I.kept λb o e=>e)
theorem uC{Q:Vq}{E:Vq}(hu:X.A.units+1<BV)(I:Inv X pI U H s)(hH:H a=Ab (.ext (DS a es)))(r:Repk X.K CL H A es kvs)(hk:D8 X.K H A ka k)(q:∀ s',Inv X pI U H s'->Q (.bool (!(kvs.any λp=>p.1==k))) s'):Az (model X.prog X.w) X.A (CO .NotIn (.ref ka) (.ref a)) Q E s:=by
 obtain⟨ys,ve,hs,m⟩:=dic_of I hH r;refine wpAny_notIn_heap (knd:=TK X.prog X.w) (Ed hu) (KD I hk) hs m ?_;have e:(Hk ys k).isSome=(kvs.any λp=>p.1==k):=by
  rcases KG ve k r with ⟨z1,_,z3⟩|⟨p,_,_,z1,_,z3,_⟩<;>rw[z1,z3]<;>rfl
 rw[e];exact q _ (I.kept λb o e=>e)
theorem iS(d:Ak)(hd:(d==Ez)=Ae):MeetsIn X.prog X.w (Builtin.«dict.__len__» ⟨[.ref d],[]⟩) (λ_ R s=>∃ ys,s.heap.DictOfH (TK X.prog X.w) d ys/\R (.ok (.ret (.int ys.length s.toks))) {s with toks:=s.toks+1}):=
 .of_wp λA R s ⟨ys,hm,h⟩=>by
  obtain⟨o,es,ep,ho,hc,hdat,hk,_,_⟩:=hm;show Az _ _ (dictSize d >>= _) _ _ s;unfold dictSize;refine Ah (Ah (aI ho hdat (Ax ?_)));show Az _ _ (Builtin.Dict.pendingCount d >>= _) _ _ s;refine Ah (wpAny_pendingCount_other hd ?_);refine wpAny_ret_mkInt ?_;have:es.size=ys.length:=by rw[<-D0,hk,AV]
  rw[Nat.add_zero,this];exact h
theorem uE{Q:Vq}{E:Vq}(I:Inv X pI U H s)(hH:H a=Ab (.ext (DS a es)))(r:Repk X.K CL H A es kvs)(hz:kvs.length<=sizeLine)(q:∀ s' t,Inv X pI U H s'->Q (.int kvs.length t) s'):Az (model X.prog X.w) X.A (call (.builtin "len") [.ref a]) Q E s:=by
 obtain⟨ys,ve,hs,m⟩:=dic_of I hH r;have el:ys.length=kvs.length:=by rw[<-ve.length,r.length]
 have hf:(ys.length:Ad)<2 ^ 63:=by have:=KC;omega
 refine Calls.call_function_entry kind_len plain_len entry_len (args_len1 _) ?_;unfold Builtin.«len»;refine Ah (m:=oneArg "len" _) (Ax ?_);refine Ah (m:=JF (.ref a) (By "__len__")) (BW (name:=By "__len__") m.typeIs Zx
  (JH Zx m.typeIs F.entry_dict_len (F.args_dict_len_1 _) (iS a hs) ⟨ys,m,?_⟩))
 show Az _ _ _ _ _ {s with toks:=s.toks+1}
 refine Ah (Dj (Ax ?_));refine Ah (FH ?_);show Az _ _ (if ((ys.length:Ag):Ad)<0 then _ else _) _ _ _
 rw[AN (by omega)]
 show Az _ _ (if ((ys.length:Ag):Ad) ≥ 2 ^ 63 then _ else _) _ _ _
 rw[AN (by omega)]
 refine Ah (wpAny_mkInt (Ax ⟨_,rfl,?_⟩));rw[el];exact q _ _ (I.kept λb o e=>e)
theorem uD:PE X (.Dict [] [] pos) (λ_ H Q=>∀ a,H a=Af->Q (.ref a) (upd H a (.ext (DS a [])))):=λpI s U H Q I h=>by
 have big:Ez<s.heap.objs.size:=JB (by decide) (I.mod.glob.keeps I.bk).lt
 have at0:(s.heap.push { cls:=.type "dict",data:=.dict #[] }).get? s.heap.objs.size=Ab { cls:=.type "dict",data:=.dict #[] }:=Ay _ rfl;refine wpAny_Dict_empty ⟨.ref s.heap.objs.size,_,I.laid (a:=s.heap.objs.size) (t':=s.toks) (λ_ _ q=>Ar _ q) (A1 _) ?_,rfl,h _ (I.hok.fresh (A1 _))⟩
 exact⟨⟨[],.nil,GZ.any (P:=X.prog) (w:=X.w) ⟨D6.mpr (CK (Bb big)),_,#[],0,at0,⟨rfl,rfl,rfl⟩,rfl,rfl,DM⟩⟩,⟨_,at0⟩,λh1 h2 d k=>d.keep k⟩
def Sj(K:Fg)(CL:ClA)(A:Ak->Prop):R2:=λx y H Q=>∃ a ka es kvs k d,x=.ref a/\y=.ref ka/\H a=Ab (.ext (DS a es))/\Repk K CL H A es kvs/\D8 K H A ka k/\Dl kvs k=Ab d/\∀ v,Rep K CL H A v d->Q v H
theorem im(hu:X.A.units+1<BV):IxR X (Sj X.K CL A):=by
 intro value slice pI s U H x y v u Q I rx ry h hs;obtain⟨a,ka,es,kvs,k,d,rfl,rfl,hH,r,hk,hp,q⟩:=h;cases rx;cases ry;obtain⟨ys,ve,_,m⟩:=dic_of I hH r;rcases KG ve k r with ⟨_,z2,_⟩|⟨p,x,d',z1,z2,_,z4,z5⟩
 .rw[hp]at z2;cases z2
 .rw[hp]at z2;cases z2;exact Gi m.typeIs slot_dict_getitem.lookup (wpAny_getItem_heap (knd:=TK X.prog X.w) (Q:=λr s'=>r=p.2/\EP X pI U Q r s') (Ed hu) (KD I hk) m z1 ⟨rfl,x,H,I.kept λb o e=>e,z4,q x z5⟩) hs
end
section
variable{X:Cx}{CL:ClA}{W:XW}
theorem VM:OpR X (Cw .Add) (ma X.K):=by
 intro pI s U H x y v u Q I rx ry h;obtain⟨l,b,xs,zs,rfl,rfl,hH,hB,hz,q⟩:=h;cases rx;cases ry;obtain⟨its,r,⟨o,n,e,c,dd,dt⟩,z⟩:=I.list hH;obtain⟨its2,r2,⟨o2,n2,e2,c2,dd2,dt2⟩,z2⟩:=I.list hB;have hl:=r.length;have hl2:=r2.length;obtain⟨cls,dd0,data,sl⟩:=o;obtain⟨cls2,dd02,data2,sl2⟩:=o2;simp only at c dd dt c2 dd2 dt2;subst c dd dt c2 dd2 dt2;have ea:its.toArray++its2.toArray=(its++its2).toArray:=by simp
 refine JJ ⟨_,e,rfl⟩ ⟨_,e2,rfl⟩ noFill_list_add seq_list_add PySem.F.slot_list_add PySem.F.entry_list_add (PySem.F.args_list_add_2 _ _) (list_addW l b its.toArray its2.toArray n n2 Af Af sl sl2 (by simp;omega)) ⟨e,e2,?_⟩
 rw[ea];exact⟨.ref _,_,I.lnew (t':=s.toks) (r.append r2) (by rw[A4];omega),rfl,q _ I.fresh⟩
theorem VL:OpD X CL W (Cw .Add) (Dg .Add):=by
 intro A pI s U H x y v u Q I rx ry ⟨hA,dx,dy,hx,hy,p⟩;cases dx with
 |int i=>
  cases dy with
  |int j=>
   have ex:=hx.int_of;have ey:=hy.int_of
   subst ex ey;exact zS pI s U H _ _ v u Q I rx ry ⟨i,j,rfl,rfl,p _ H (AH.refl H) rfl⟩
  |_=>exact p.elim
 |str i=>
  cases dy with
  |str j=>
   have ex:=hx.str_of;have ey:=hy.str_of
   subst ex ey;simp only[WR]at p;split at p
   .rename_i h;exact iF pI s U H _ _ v u Q I rx ry ⟨i,j,rfl,rfl,Hv h,p _ H (AH.refl H) rfl⟩
   .exact p.elim
  |_=>exact p.elim
 |lst ds=>
  cases dy with
  |lst es=>
   obtain⟨a,xs,rfl,s1,r1⟩:=hx.lst_of;obtain⟨b,ys,rfl,s2,r2⟩:=hy.lst_of;simp only[WS]at p;split at p
   .rename_i h;refine VM pI s U H _ _ v u Q I rx ry ⟨a,b,xs,ys,rfl,rfl,s1,s2,by rw[r1.length,r2.length];exact Hv h,λq hq=>?_⟩
    exact p _ _ (Gv hq _) (Vw hA hq (r1.append r2))
   .exact p.elim
  |_=>exact p.elim
 |tup ds=>
  cases dy with
  |tup es=>
   obtain⟨a,xs,rfl,na1,s1,r1⟩:=hx.tup_of;obtain⟨b,ys,rfl,_,s2,r2⟩:=hy.tup_of;simp only[WQ]at p;split at p
   .rename_i h;simp only[Ap]at h;refine tO pI s U H _ _ v u Q I rx ry ⟨a,b,xs,ys,rfl,rfl,s1,s2,?_,by rw[r1.length,r2.length];exact Hv h.2,λhy0=>?_,λ_ q hq=>?_⟩
    .rintro rfl;cases ds with
     |nil=>cases h.1
     |cons _ _=>exact r1.elim
    .subst hy0;cases es with
     |nil=>rw[Du]at p;exact p _ H (AH.refl H) ⟨a,xs,rfl,na1,s1,r1⟩
     |cons _ _=>exact r2.elim
    .exact p _ _ (Gv hq _) (Li hA hq (r1.append r2))
   .exact p.elim
  |_=>exact p.elim
 |_=>exact p.elim
theorem NJ{op:Gu}{C:Ad->Ad->Prop}{g:Ad->Ad->Ad}(ho:OpR X (Cw op) (rI C λi j=>.int (g i j)))(hg:∀ dx dy,(∃ i j,dx=.int i/\dy=.int j/\((C i j/\Dg op dx dy=.ok (.int (g i j)))\/Dg op dx dy=.bad))\/Dg op dx dy=.bad):OpD X CL W (Cw op) (Dg op):=by
 intro A pI s U H x y v u Q I rx ry ⟨hA,dx,dy,hx,hy,p⟩;rcases hg dx dy with ⟨i,j,rfl,rfl,⟨c,e⟩|e⟩|e
 .have ex:=hx.int_of;have ey:=hy.int_of
  subst ex ey;rw[e]at p;exact ho pI s U H _ _ v u Q I rx ry ⟨i,j,rfl,rfl,c,p _ H (AH.refl H) rfl⟩
 .rw[e]at p;exact p.elim
 .rw[e]at p;exact p.elim
theorem tH:OpD X CL W (Cw .Sub) (Dg .Sub):=by
 intro A pI s U H x y v u Q I rx ry ⟨hA,dx,dy,hx,hy,p⟩;cases dx with
 |int i=>
  cases dy with
  |int j=>
   have ex:=hx.int_of;have ey:=hy.int_of
   subst ex ey;exact zK pI s U H _ _ v u Q I rx ry ⟨i,j,rfl,rfl,p _ H (AH.refl H) rfl⟩
  |_=>exact p.elim
 |_=>exact p.elim
theorem tJ:OpD X CL W (Cw .Mult) (Dg .Mult):=NJ tM λdx dy=>by
 cases dx with
 |int i=>
  cases dy with
  |int j=>
   refine .inl ⟨i,j,rfl,rfl,?_⟩;rw[gv];split
   .rename_i h;exact .inl ⟨sK h,rfl⟩
   .exact .inr rfl
  |_=>exact .inr rfl
 |_=>exact .inr rfl
theorem kX:OpD X CL W (Cw .FloorDiv) (Dg .FloorDiv):=NJ tN λdx dy=>by
 cases dx with
 |int i=>
  cases dy with
  |int j=>
   refine .inl ⟨i,j,rfl,rfl,?_⟩;rw[vQ];split
   .rename_i h;exact .inl ⟨h,rfl⟩
   .exact .inr rfl
  |_=>exact .inr rfl
 |_=>exact .inr rfl
theorem tK:OpD X CL W (Cw .Mod) (Dg .Mod):=NJ zP λdx dy=>by
 cases dx with
 |int i=>
  cases dy with
  |int j=>
   refine .inl ⟨i,j,rfl,rfl,?_⟩;rw[gy];split
   .rename_i h;exact .inl ⟨h,rfl⟩
   .exact .inr rfl
  |_=>exact .inr rfl
 |_=>exact .inr rfl
theorem tI:OpD X CL W (Cw .Pow) (Dg .Pow):=NJ zL λdx dy=>by
 cases dx with
 |int i=>
  cases dy with
  |int j=>
   refine .inl ⟨i,j,rfl,rfl,?_⟩;rw[ah];split
   .rename_i h;exact .inl ⟨⟨h.1.1,h.1.2,by omega⟩,rfl⟩
   .exact .inr rfl
  |_=>exact .inr rfl
 |_=>exact .inr rfl
theorem VJ(op:Gu):OpD X CL W (Cw op) (Dg op):=by
 cases op with
 |Add=>exact VL
 |Sub=>exact tH
 |Mult=>exact tJ
 |FloorDiv=>exact kX
 |Mod=>exact tK
 |Pow=>exact tI
 |_=>
  intro A pI s U H x y v u Q I rx ry ⟨hA,dx,dy,hx,hy,p⟩;exact p.elim
noncomputable abbrev A0:Ak->Prop:=λ_=>Bu
theorem C4.plain(h:C4 K CL H A v d):Rep K CL H A0 v d:=by
 rcases h with h|⟨a,o,rfl,e,⟨xs,ds,rfl,rfl,r⟩|⟨es,ds,rfl,rfl,r⟩⟩
 .exact Rep.sub (λ_ z=>z.elim) d h
 .exact⟨a,xs,rfl,.inl λz=>z.elim,SqL.of e,Reps.sub (λ_ z=>z.elim) ds r⟩
 .exact⟨a,es,rfl,λz=>z.elim,e,Repk.sub (λ_ z=>z.elim) ds r⟩
mutual
theorem UG:∀(n:Ag)(d:D),flD n d=Aa->eqD d d=Aa
 |_,.non,_=>rfl
 |_,.bl b,_=>by simp
 |_,.int i,_=>by simp
 |_,.str x,_=>by simp
 |n+1,.tup ds,h=>by
  show eqDs ds ds=Aa;exact eqDs_refl n ds h
 |n+1,.lst ds,h=>by
  show eqDs ds ds=Aa;exact eqDs_refl n ds h
 |0,.tup ds,h=>by cases h
 |0,.lst ds,h=>by cases h
 |n,.obj _ _,h=>by cases n<;>cases h
 |n,.exc _ _,h=>by cases n<;>cases h
 |n,.dic _,h=>by cases n<;>cases h
theorem eqDs_refl:∀(n:Ag)(ds:Ac D),ds.all (flD n)=Aa->eqDs ds ds=Aa
 |_,[],_=>rfl
 |n,d::ds,h=>by
  simp only[Hq,Ap]at h;simp only[Qe,Ap];exact⟨UG n d h.1,eqDs_refl n ds h.2⟩
end
theorem Tt{ys:Ac V}(I:Inv X pI U H s)(h:SqL X.K H a xs)(h':SqT X.K H a ys):Bu:=by
 obtain⟨its,r,⟨o,n,e,c,_,_⟩,_⟩:=I.list h;obtain⟨its',r',⟨o',e',c',_⟩,_⟩:=I.tuple h';rw[e]at e';cases e';rw[c]at c'
 injection c' with z
 exact absurd z (by decide)
mutual
theorem NG{pI:Pn}{U:L2.St}{H:Hp}{s:As}(I:Inv X pI U H s):∀(n:Ag)(d e:D){v:V},flD n d=Aa->flD n e=Aa->Rep X.K CL H A0 v d->Rep X.K CL H A0 v e->d=e
 |n,.tup ds,e,v,hd,he,r,q=>by
  obtain⟨a,xs,rfl,_,s1,r1⟩:=r;cases e with
  |tup es=>
   obtain⟨b,ys,e,_,s2,r2⟩:=q;cases e;have z:=I.tuple_inj s1 s2;subst z;cases n with
   |zero=>cases hd
   |succ n=>rw[reps_inj I n ds es hd he r1 r2]
  |lst es=>
   obtain⟨b,ys,e,_,s2,r2⟩:=q;cases e;exact(Tt I s2 s1).elim
  |obj=>cases n<;>cases he
  |exc=>cases n<;>cases he
  |dic=>cases n<;>cases he
  |_=>cases q
 |n,.lst ds,e,v,hd,he,r,q=>by
  obtain⟨a,xs,rfl,_,s1,r1⟩:=r;cases e with
  |lst es=>
   obtain⟨b,ys,e,_,s2,r2⟩:=q;cases e;have z:=I.list_inj s1 s2;subst z;cases n with
   |zero=>cases hd
   |succ n=>rw[reps_inj I n ds es hd he r1 r2]
  |tup es=>
   obtain⟨b,ys,e,_,s2,r2⟩:=q;cases e;exact(Tt I s1 s2).elim
  |obj=>cases n<;>cases he
  |exc=>cases n<;>cases he
  |dic=>cases n<;>cases he
  |_=>cases q
 |n,.obj _ _,e,v,hd,he,r,q=>by cases n<;>cases hd
 |n,.exc _ _,e,v,hd,he,r,q=>by cases n<;>cases hd
 |n,.dic _,e,v,hd,he,r,q=>by cases n<;>cases hd
 |n,.non,e,v,hd,he,r,q=>by
  cases r;cases e with
  |tup=>obtain⟨_,_,z,_⟩:=q;cases z
  |lst=>obtain⟨_,_,z,_⟩:=q;cases z
  |obj=>cases n<;>cases he
  |exc=>cases n<;>cases he
  |dic=>cases n<;>cases he
  |_=>cases q<;>rfl
 |n,.bl b,e,v,hd,he,r,q=>by
  cases r;cases e with
  |tup=>obtain⟨_,_,z,_⟩:=q;cases z
  |lst=>obtain⟨_,_,z,_⟩:=q;cases z
  |obj=>cases n<;>cases he
  |exc=>cases n<;>cases he
  |dic=>cases n<;>cases he
  |_=>cases q<;>rfl
 |n,.int b,e,v,hd,he,r,q=>by
  cases r;cases e with
  |tup=>obtain⟨_,_,z,_⟩:=q;cases z
  |lst=>obtain⟨_,_,z,_⟩:=q;cases z
  |obj=>cases n<;>cases he
  |exc=>cases n<;>cases he
  |dic=>cases n<;>cases he
  |_=>cases q<;>rfl
 |n,.str b,e,v,hd,he,r,q=>by
  cases r;cases e with
  |tup=>obtain⟨_,_,z,_⟩:=q;cases z
  |lst=>obtain⟨_,_,z,_⟩:=q;cases z
  |obj=>cases n<;>cases he
  |exc=>cases n<;>cases he
  |dic=>cases n<;>cases he
  |_=>cases q<;>rfl
theorem reps_inj{pI:Pn}{U:L2.St}{H:Hp}{s:As}(I:Inv X pI U H s):∀(n:Ag)(ds es:Ac D){xs:Ac V},ds.all (flD n)=Aa->es.all (flD n)=Aa->Reps X.K CL H A0 xs ds->Reps X.K CL H A0 xs es->ds=es
 |_,[],[],_,_,_,_,_=>rfl
 |n,d::ds,e::es,x::xs,hd,he,r,q=>by
  simp only[Hq,Ap]at hd he;rw[NG I n d e hd.1 he.1 r.1 q.1,reps_inj I n ds es hd.2 he.2 r.2 q.2]
 |_,[],_::_,[],_,_,_,q=>q.elim
 |_,[],_::_,_::_,_,_,r,_=>r.elim
 |_,_::_,[],[],_,_,r,_=>r.elim
 |_,_::_,[],_::_,_,_,_,q=>q.elim
 |_,_::_,_::_,[],_,_,r,_=>r.elim
end
theorem Mq:∀{ds es:Ac D},ds.length≠es.length->eqDs ds es=Ae
 |[],[],h=>absurd rfl h
 |[],_::_,_=>rfl
 |_::_,[],_=>rfl
 |d::ds,e::es,h=>by
  simp only[Qe,Mq (ds:=ds) (es:=es) (by simpa using h),FX]
theorem S4(n:Ag)(f:Ag->Al):(AZ (n+1)).all f=(f 0&&(AZ n).all λj=>f (j+1)):=by
 rw[EZ,Hq,List.all_map];rfl
theorem Mr:∀{ds es:Ac D},ds.length=es.length->eqDs ds es=(AZ ds.length).all λj=>eqD (ds.getD j .non) (es.getD j .non)
 |[],[],_=>rfl
 |d::ds,e::es,h=>by
  rw[Qe,Mr (ds:=ds) (es:=es) (by simpa using h),Bl,S4]
  rfl
 |[],_::_,h=>by cases h
 |_::_,[],h=>by cases h
theorem KF{ds:Ac D}{its:Ac Ai}(r:Reps K CL H A0 xs ds)(rv:Bk xs its)(h:j<its.length):∃ x,Rep K CL H A0 x (ds.getD j .non)/\BP x its[j]:=by
 have e1:=rv.length;have e2:=r.length;have hd:ds[j]?=Ab (ds.getD j .non):=by
  rw[Ek,Cm (by omega)];rfl
 obtain⟨x,hx,q⟩:=r.get hd;obtain⟨u,hu,ru⟩:=rv.get hx;refine⟨x,q,?_⟩;rw[Cm h]at hu;cases hu;exact ru
theorem Kw{ds:Ac D}(h:ds.all (flD n)=Aa)(j:Ag):flD n (ds.getD j .non)=Aa:=by
 rw[Ek];cases e:ds[j]? with
 |none=>cases n<;>rfl
 |some d=>exact List.all_eq_true.mp h d (DT e)
def C5(B:Bc)(s:As)(u t:Ai)(k:Al):Prop:=KU B s u t k/\GO B s u t k/\JE B s u t (!k)
section
variable{B:Bc}{s:As}
open SeqAt
theorem mo:C5 B s .none .none Aa:=⟨RcAt.none_none,EqAt.same _,RcNeAt.none_none⟩
theorem og(a b:Al):C5 B s (.bool a) (.bool b) (a==b):=⟨RcAt.bool_bool _ _,EqAt.bool_bool _ _,RcNeAt.bool_bool _ _⟩
theorem ms(b:Al):C5 B s .none (.bool b) Ae:=⟨RcAt.none_bool _,EqAt.none_bool _,RcNeAt.none_bool _⟩
theorem o0(b:Al):C5 B s (.bool b) .none Ae:=⟨RcAt.bool_none _,EqAt.bool_none _,RcNeAt.bool_none _⟩
theorem nq(a:Ad)(t:DV)(b:Ad)(u:DV):C5 B s (.int a t) (.int b u) (a==b):=⟨RcAt.int_int _ _ _ _,EqAt.int_int _ _ _ _,RcNeAt.int_int _ _ _ _⟩
theorem pq(a:An)(t:DV)(b:An)(u:DV):C5 B s (.str a t) (.str b u) (a==b):=⟨RcAt.str_str _ _ _ _,EqAt.str_str _ _ _ _,RcNeAt.str_str _ _ _ _⟩
theorem nh(a:Ad)(t:DV)(b:An)(u:DV):C5 B s (.int a t) (.str b u) Ae:=⟨RcAt.int_str _ _ _ _,EqAt.int_str _ _ _ _,RcNeAt.int_str _ _ _ _⟩
theorem qa(a:An)(t:DV)(b:Ad)(u:DV):C5 B s (.str a t) (.int b u) Ae:=⟨RcAt.str_int _ _ _ _,EqAt.str_int _ _ _ _,RcNeAt.str_int _ _ _ _⟩
theorem mr(b:Ad)(u:DV):C5 B s .none (.int b u) Ae:=⟨RcAt.none_int _ _,EqAt.none_int _ _,RcNeAt.none_int _ _⟩
theorem nj(b:Ad)(u:DV):C5 B s (.int b u) .none Ae:=⟨RcAt.int_none _ _,EqAt.int_none _ _,RcNeAt.int_none _ _⟩
theorem qd(b:An)(u:DV):C5 B s .none (.str b u) Ae:=⟨RcAt.none_str _ _,EqAt.none_str _ _,RcNeAt.none_str _ _⟩
theorem pv(b:An)(u:DV):C5 B s (.str b u) .none Ae:=⟨RcAt.str_none _ _,EqAt.str_none _ _,RcNeAt.str_none _ _⟩
theorem o9(a:Al)(b:Ad)(u:DV):C5 B s (.bool a) (.int b u) (b2i a==b):=⟨RcAt.bool_int _ _ _,EqAt.bool_int _ _ _,RcNeAt.bool_int _ _ _⟩
theorem nr(a:Al)(b:Ad)(u:DV):C5 B s (.int b u) (.bool a) (b==b2i a):=⟨RcAt.int_bool _ _ _,EqAt.int_bool _ _ _,RcNeAt.int_bool _ _ _⟩
theorem nv(a:Al)(b:An)(u:DV):C5 B s (.bool a) (.str b u) Ae:=⟨RcAt.bool_str _ _ _,EqAt.bool_str _ _ _,RcNeAt.bool_str _ _ _⟩
theorem qb(a:Al)(b:An)(u:DV):C5 B s (.str b u) (.bool a) Ae:=⟨RcAt.str_bool _ _ _,EqAt.str_bool _ _ _,RcNeAt.str_bool _ _ _⟩
variable{l:Ak}{items:A6 Ai}
theorem n5(h:s.heap.IsList l items)(hu:B.units<BV):C5 B s (.ref l) .none Ae:=⟨RcAt.list_none h hu,EqAt.list_none h hu,RcNeAt.list_none h hu⟩
theorem mq(h:s.heap.IsList l items)(hu:B.units<BV):C5 B s .none (.ref l) Ae:=⟨RcAt.none_list h hu,EqAt.none_list h hu,RcNeAt.none_list h hu⟩
theorem n8(b:Al)(h:s.heap.IsList l items)(hu:B.units<BV):C5 B s (.ref l) (.bool b) Ae:=⟨RcAt.list_bool b h hu,EqAt.list_bool b h hu,RcNeAt.list_bool b h hu⟩
theorem o8(b:Al)(h:s.heap.IsList l items)(hu:B.units<BV):C5 B s (.bool b) (.ref l) Ae:=⟨RcAt.bool_list b h hu,EqAt.bool_list b h hu,RcNeAt.bool_list b h hu⟩
theorem n6(b:Ad)(u:DV)(h:s.heap.IsList l items)(hu:B.units<BV):C5 B s (.ref l) (.int b u) Ae:=⟨RcAt.list_int b u h hu,EqAt.list_int b u h hu,RcNeAt.list_int b u h hu⟩
theorem nk(b:Ad)(u:DV)(h:s.heap.IsList l items)(hu:B.units<BV):C5 B s (.int b u) (.ref l) Ae:=⟨RcAt.int_list b u h hu,EqAt.int_list b u h hu,RcNeAt.int_list b u h hu⟩
theorem mz(b:An)(u:DV)(h:s.heap.IsList l items)(hu:B.units<BV):C5 B s (.ref l) (.str b u) Ae:=⟨RcAt.list_str b u h hu,EqAt.list_str b u h hu,RcNeAt.list_str b u h hu⟩
theorem pz(b:An)(u:DV)(h:s.heap.IsList l items)(hu:B.units<BV):C5 B s (.str b u) (.ref l) Ae:=⟨RcAt.str_list b u h hu,EqAt.str_list b u h hu,RcNeAt.str_list b u h hu⟩
theorem oz(h:s.heap.IsTuple l items)(hu:B.units<BV):C5 B s (.ref l) .none Ae:=⟨RcAt.tuple_none h hu,EqAt.tuple_none h hu,RcNeAt.tuple_none h hu⟩
theorem qc(h:s.heap.IsTuple l items)(hu:B.units<BV):C5 B s .none (.ref l) Ae:=⟨RcAt.none_tuple h hu,EqAt.none_tuple h hu,RcNeAt.none_tuple h hu⟩
theorem pf(b:Al)(h:s.heap.IsTuple l items)(hu:B.units<BV):C5 B s (.ref l) (.bool b) Ae:=⟨RcAt.tuple_bool b h hu,EqAt.tuple_bool b h hu,RcNeAt.tuple_bool b h hu⟩
theorem nu(b:Al)(h:s.heap.IsTuple l items)(hu:B.units<BV):C5 B s (.bool b) (.ref l) Ae:=⟨RcAt.bool_tuple b h hu,EqAt.bool_tuple b h hu,RcNeAt.bool_tuple b h hu⟩
theorem pe(b:Ad)(u:DV)(h:s.heap.IsTuple l items)(hu:B.units<BV):C5 B s (.ref l) (.int b u) Ae:=⟨RcAt.tuple_int b u h hu,EqAt.tuple_int b u h hu,RcNeAt.tuple_int b u h hu⟩
theorem n9(b:Ad)(u:DV)(h:s.heap.IsTuple l items)(hu:B.units<BV):C5 B s (.int b u) (.ref l) Ae:=⟨RcAt.int_tuple b u h hu,EqAt.int_tuple b u h hu,RcNeAt.int_tuple b u h hu⟩
theorem oy(b:An)(u:DV)(h:s.heap.IsTuple l items)(hu:B.units<BV):C5 B s (.ref l) (.str b u) Ae:=⟨RcAt.tuple_str b u h hu,EqAt.tuple_str b u h hu,RcNeAt.tuple_str b u h hu⟩
theorem pk(b:An)(u:DV)(h:s.heap.IsTuple l items)(hu:B.units<BV):C5 B s (.str b u) (.ref l) Ae:=⟨RcAt.str_tuple b u h hu,EqAt.str_tuple b u h hu,RcNeAt.str_tuple b u h hu⟩
theorem mw(h:s.heap.IsList l items)(h2:s.heap.IsTuple b items2)(hu:B.units<BV):C5 B s (.ref l) (.ref b) Ae:=⟨RcAt.list_tuple h h2 hu,EqAt.list_tuple h h2 hu,RcNeAt.list_tuple h h2 hu⟩
theorem pd(h:s.heap.IsTuple l items)(h2:s.heap.IsList b items2)(hu:B.units<BV):C5 B s (.ref l) (.ref b) Ae:=⟨RcAt.tuple_list h h2 hu,EqAt.tuple_list h h2 hu,RcNeAt.tuple_list h h2 hu⟩
end
end
section
variable{X:Cx}{CL:ClA}{W:XW}
theorem IA(x:PlainL h a its):h.IsList a its:=let ⟨o,n,e,c,_,d⟩:=x;⟨o,e,c,n,d⟩
def eP(X:Cx)(CL:ClA)(H:Hp)(s:As)(d:D)(u:Ai):Prop:=match d with
  |.non=>u=.none
  |.bl b=>u=.bool b
  |.int i=>∃ t,u=.int i t
  |.str x=>∃ t,u=.str x t
  |.tup ds=>∃ a xs its,u=.ref a/\Reps X.K CL H A0 xs ds/\Bk xs its/\s.heap.IsTuple a its.toArray
  |.lst ds=>∃ a xs its,u=.ref a/\Reps X.K CL H A0 xs ds/\Bk xs its/\s.heap.IsList a its.toArray
  |_=>Bu
theorem Vf(I:Inv X pI U H s)(hd:flD n d=Aa)(r:Rep X.K CL H A0 v d)(q:BP v u):eP X CL H s d u:=by
 cases d with
 |non=>cases r;exact q
 |bl b=>cases r;exact q
 |int b=>cases r;exact q
 |str b=>cases r;exact q
 |tup ds=>
  obtain⟨a,xs,rfl,_,sq,r⟩:=r;obtain⟨its,rv,p,_⟩:=I.tuple sq;cases q;exact⟨a,xs,its,rfl,r,rv,p⟩
 |lst ds=>
  obtain⟨a,xs,rfl,_,sq,r⟩:=r;obtain⟨its,rv,p,_⟩:=I.list sq;cases q;exact⟨a,xs,its,rfl,r,rv,IA p⟩
 |obj=>cases n<;>cases hd
 |exc=>cases n<;>cases hd
 |dic=>cases n<;>cases hd
theorem rX{B:Bc}{its:Ac Ai}{ds es:Ac D}(hl:s.heap.IsList l its.toArray)(hb:s.heap.IsList b its2.toArray)(e1:its.length=ds.length)(e2:its2.length=es.length)(hu:B.units<BV)(hs:l=b->eqDs ds es=Aa)(he:∀ j (h1:j<its.length) (h2:j<its2.length),GO B.in1 s its[j] its2[j] (eqD (ds.getD j .non) (es.getD j .non))):C5 B s (.ref l) (.ref b) (eqDs ds es):=by
 have rc:KU B s (.ref l) (.ref b) (eqDs ds es):=by
  by_cases hz:its.length=its2.length
  .have q:=SeqAt.RcAt.lists (e:=λj=>eqD (ds.getD j .non) (es.getD j .non)) hl hb (by simpa using hz) hu (λj h1 h2=>by simpa using he j (by simpa using h1) (by simpa using h2))
   rw[Mr (by omega)]
   have e:its.toArray.size=ds.length:=by simpa using e1
   rw[e]at q;exact q
  .rw[Mq (by omega)]
   exact SeqAt.RcAt.lists_lengths hl hb (by simpa using hz) hu
 have ne:JE B s (.ref l) (.ref b) (!eqDs ds es):=by
  by_cases hz:its.length=its2.length
  .have q:=SeqAt.RcNeAt.lists (e:=λj=>eqD (ds.getD j .non) (es.getD j .non)) hl hb (by simpa using hz) hu (λj h1 h2=>by simpa using he j (by simpa using h1) (by simpa using h2))
   rw[Mr (by omega)]
   have e:its.toArray.size=ds.length:=by simpa using e1
   rw[e]at q;exact q
  .rw[Mq (by omega)]
   exact SeqAt.RcNeAt.lists_lengths hl hb (by simpa using hz) hu
 refine⟨rc,?_,ne⟩;by_cases hlb:l=b
 .rw[hs hlb,hlb];exact ZH _
 .exact ZG hlb rc
theorem rW{B:Bc}{its:Ac Ai}{ds es:Ac D}(hl:s.heap.IsTuple l its.toArray)(hb:s.heap.IsTuple b its2.toArray)(e1:its.length=ds.length)(e2:its2.length=es.length)(hu:B.units<BV)(hs:l=b->eqDs ds es=Aa)(he:∀ j (h1:j<its.length) (h2:j<its2.length),GO B.in1 s its[j] its2[j] (eqD (ds.getD j .non) (es.getD j .non))):C5 B s (.ref l) (.ref b) (eqDs ds es):=by
 have rc:KU B s (.ref l) (.ref b) (eqDs ds es):=by
  have q:=SeqAt.RcAt.tuples (e:=λj=>eqD (ds.getD j .non) (es.getD j .non)) hl hb hu (λj h1 h2=>by simpa using he j (by simpa using h1) (by simpa using h2))
  have e:its.toArray.size=ds.length:=by simpa using e1
  have e':its2.toArray.size=es.length:=by simpa using e2
  rw[e,e']at q;by_cases hz:ds.length=es.length
  .rw[Mr hz];rw[hz,YA,D9,XS]at q;rw[hz];exact q
  .rw[Mq hz];rw[D6.mpr hz,FX]at q;exact q
 have ne:JE B s (.ref l) (.ref b) (!eqDs ds es):=by
  have q:=SeqAt.RcNeAt.tuples (e:=λj=>eqD (ds.getD j .non) (es.getD j .non)) hl hb hu (λj h1 h2=>by simpa using he j (by simpa using h1) (by simpa using h2))
  have e:its.toArray.size=ds.length:=by simpa using e1
  have e':its2.toArray.size=es.length:=by simpa using e2
  rw[e,e']at q;by_cases hz:ds.length=es.length
  .rw[Mr hz];rw[hz,YA,D9,XS]at q;rw[hz];exact q
  .rw[Mq hz];rw[D6.mpr hz,FX]at q;exact q
 refine⟨rc,?_,ne⟩;by_cases hlb:l=b
 .rw[hs hlb,hlb];exact ZH _
 .exact ZG hlb rc
theorem MH{pI:Pn}{U:L2.St}{H:Hp}{s:As}(I:Inv X pI U H s):∀(n:Ag)(d e:D)(v w':V)(u t:Ai)(B:Bc),flD n d=Aa->flD n e=Aa->Rep X.K CL H A0 v d->Rep X.K CL H A0 w' e->BP v u->BP w' t->B.units+n<BV->C5 B s u t (eqD d e)
  |n,d,e,v,w',u,t,B,hd,he,r,q,rv,rw',hu=>by
    have hu0:B.units<BV:=by omega
    have sd:=Vf I hd r rv;have se:=Vf I he q rw'
    match d,e,sd,se with
    |.non,.non,s1,s2=>cases s1;cases s2;exact mo
    |.non,.bl b,s1,s2=>cases s1;cases s2;exact ms b
    |.non,.int b,s1,s2=>cases s1;obtain⟨_,rfl⟩:=s2;exact mr b _
    |.non,.str b,s1,s2=>cases s1;obtain⟨_,rfl⟩:=s2;exact qd b _
    |.non,.tup es,s1,s2=>cases s1;obtain⟨_,_,_,rfl,_,_,p⟩:=s2;exact qc p hu0
    |.non,.lst es,s1,s2=>cases s1;obtain⟨_,_,_,rfl,_,_,p⟩:=s2;exact mq p hu0
    |.bl a,.non,s1,s2=>cases s1;cases s2;exact o0 a
    |.bl a,.bl b,s1,s2=>cases s1;cases s2;exact og a b
    |.bl a,.int b,s1,s2=>cases s1;obtain⟨_,rfl⟩:=s2;exact o9 a b _
    |.bl a,.str b,s1,s2=>cases s1;obtain⟨_,rfl⟩:=s2;exact nv a b _
    |.bl a,.tup es,s1,s2=>cases s1;obtain⟨_,_,_,rfl,_,_,p⟩:=s2;exact nu a p hu0
    |.bl a,.lst es,s1,s2=>cases s1;obtain⟨_,_,_,rfl,_,_,p⟩:=s2;exact o8 a p hu0
    |.int a,.non,s1,s2=>obtain⟨_,rfl⟩:=s1;cases s2;exact nj a _
    |.int a,.bl b,s1,s2=>obtain⟨_,rfl⟩:=s1;cases s2;exact nr b a _
    |.int a,.int b,s1,s2=>obtain⟨_,rfl⟩:=s1;obtain⟨_,rfl⟩:=s2;exact nq a _ b _
    |.int a,.str b,s1,s2=>obtain⟨_,rfl⟩:=s1;obtain⟨_,rfl⟩:=s2;exact nh a _ b _
    |.int a,.tup es,s1,s2=>obtain⟨_,rfl⟩:=s1;obtain⟨_,_,_,rfl,_,_,p⟩:=s2;exact n9 a _ p hu0
    |.int a,.lst es,s1,s2=>obtain⟨_,rfl⟩:=s1;obtain⟨_,_,_,rfl,_,_,p⟩:=s2;exact nk a _ p hu0
    |.str a,.non,s1,s2=>obtain⟨_,rfl⟩:=s1;cases s2;exact pv a _
    |.str a,.bl b,s1,s2=>obtain⟨_,rfl⟩:=s1;cases s2;exact qb b a _
    |.str a,.int b,s1,s2=>obtain⟨_,rfl⟩:=s1;obtain⟨_,rfl⟩:=s2;exact qa a _ b _
    |.str a,.str b,s1,s2=>obtain⟨_,rfl⟩:=s1;obtain⟨_,rfl⟩:=s2;exact pq a _ b _
    |.str a,.tup es,s1,s2=>obtain⟨_,rfl⟩:=s1;obtain⟨_,_,_,rfl,_,_,p⟩:=s2;exact pk a _ p hu0
    |.str a,.lst es,s1,s2=>obtain⟨_,rfl⟩:=s1;obtain⟨_,_,_,rfl,_,_,p⟩:=s2;exact pz a _ p hu0
    |.tup ds,.non,s1,s2=>cases s2;obtain⟨_,_,_,rfl,_,_,p⟩:=s1;exact oz p hu0
    |.tup ds,.bl b,s1,s2=>cases s2;obtain⟨_,_,_,rfl,_,_,p⟩:=s1;exact pf b p hu0
    |.tup ds,.int b,s1,s2=>obtain⟨_,rfl⟩:=s2;obtain⟨_,_,_,rfl,_,_,p⟩:=s1;exact pe b _ p hu0
    |.tup ds,.str b,s1,s2=>obtain⟨_,rfl⟩:=s2;obtain⟨_,_,_,rfl,_,_,p⟩:=s1;exact oy b _ p hu0
    |.tup ds,.lst es,s1,s2=>obtain⟨_,_,_,rfl,_,_,p⟩:=s1;obtain⟨_,_,_,rfl,_,_,p2⟩:=s2;exact pd p p2 hu0
    |.lst ds,.non,s1,s2=>cases s2;obtain⟨_,_,_,rfl,_,_,p⟩:=s1;exact n5 p hu0
    |.lst ds,.bl b,s1,s2=>cases s2;obtain⟨_,_,_,rfl,_,_,p⟩:=s1;exact n8 b p hu0
    |.lst ds,.int b,s1,s2=>obtain⟨_,rfl⟩:=s2;obtain⟨_,_,_,rfl,_,_,p⟩:=s1;exact n6 b _ p hu0
    |.lst ds,.str b,s1,s2=>obtain⟨_,rfl⟩:=s2;obtain⟨_,_,_,rfl,_,_,p⟩:=s1;exact mz b _ p hu0
    |.lst ds,.tup es,s1,s2=>obtain⟨_,_,_,rfl,_,_,p⟩:=s1;obtain⟨_,_,_,rfl,_,_,p2⟩:=s2;exact mw p p2 hu0
    |.tup ds,.tup es,s1,s2=>
      match n,hd,he,hu with
      |n+1,hd,he,hu=>
        obtain⟨a,xs,its,rfl,r1,v1,p1⟩:=s1;obtain⟨b,ys,its2,rfl,r2,v2,p2⟩:=s2;have l1:=v1.length;have l2:=r1.length;have l3:=v2.length;have l4:=r2.length
        refine rW p1 p2 (by omega) (by omega) hu0 (λhab=>?_) λj h1 h2=>?_
        · have e1:v=.ref a:=BP.inj rv rfl;have e2:w'=.ref b:=BP.inj rw' rfl;subst e1 e2 hab;have z:=NG I (n+1) _ _ hd he r q
          injection z with z
          rw[z];exact eqDs_refl n es he
        · obtain⟨x,rx,qx⟩:=KF r1 v1 h1;obtain⟨y,ry,qy⟩:=KF r2 v2 h2;exact(MH I n _ _ x y _ _ B.in1 (Kw hd j) (Kw he j) rx ry qx qy (by show B.units+1+n<BV;omega)).2.1
    |.lst ds,.lst es,s1,s2=>
      match n,hd,he,hu with
      |n+1,hd,he,hu=>
        obtain⟨a,xs,its,rfl,r1,v1,p1⟩:=s1;obtain⟨b,ys,its2,rfl,r2,v2,p2⟩:=s2;have l1:=v1.length;have l2:=r1.length;have l3:=v2.length;have l4:=r2.length
        refine rX p1 p2 (by omega) (by omega) hu0 (λhab=>?_) λj h1 h2=>?_
        · have e1:v=.ref a:=BP.inj rv rfl;have e2:w'=.ref b:=BP.inj rw' rfl;subst e1 e2 hab;have z:=NG I (n+1) _ _ hd he r q
          injection z with z
          rw[z];exact eqDs_refl n es he
        · obtain⟨x,rx,qx⟩:=KF r1 v1 h1;obtain⟨y,ry,qy⟩:=KF r2 v2 h2;exact(MH I n _ _ x y _ _ B.in1 (Kw hd j) (Kw he j) rx ry qx qy (by show B.units+1+n<BV;omega)).2.1
    |.obj _ _,_,s1,_=>exact s1.elim
    |.exc _ _,_,s1,_=>exact s1.elim
    |.dic _,_,s1,_=>exact s1.elim
    |_,.obj _ _,_,s2=>exact s2.elim
    |_,.exc _ _,_,s2=>exact s2.elim
    |_,.dic _,_,s2=>exact s2.elim
end
section
variable{X:Cx}{CL:ClA}{W:XW}
theorem N9(I:Inv X pI U H s){ds:Ac D}{its:Ac Ai}(B:Bc)(hd:flD n d=Aa)(hs:ds.all (flD n)=Aa)(r:Reps X.K CL H A0 xs ds)(rv:Bk xs its)(q:Rep X.K CL H A0 v d)(qv:BP v u)(hu:B.units+n<BV):∃ e:Ai->Al,(∀ y,y∈its.toArray->GO B s y u (e y))/\its.toArray.any e=ds.any λy=>eqD y d:=by
 have l1:=rv.length;have l2:=r.length
 have key:∀ y,y∈its->∃ k:Al,GO B s y u k/\∀ j (h:j<its.length),its[j]=y->eqD (ds.getD j .non) d=k:=λy hy=>by
  obtain⟨j,hj,rfl⟩:=D4 hy;obtain⟨x,rx,qx⟩:=KF r rv hj;refine⟨eqD (ds.getD j .non) d,(MH I n _ _ x v _ _ B (Kw hs j) hd rx q qx qv hu).2.1,λj' hj' e=>?_⟩
  obtain⟨x',rx',qx'⟩:=KF r rv hj';rw[e]at qx';have z:=BP.inj qx qx';subst z;rw[NG I n _ _ (Kw hs j') (Kw hs j) rx' rx]
 have key2:∀ y,∃ k:Al,y∈its->GO B s y u k/\∀ j (h:j<its.length),its[j]=y->eqD (ds.getD j .non) d=k:=λy=>by
  by_cases hy:y∈its
  .obtain⟨k,hk⟩:=key y hy;exact⟨k,λ_=>hk⟩
  .exact⟨Aa,λh=>absurd h hy⟩
 refine⟨λy=>XU (key2 y),λy hy=>(Ef (key2 y) (by simpa using hy)).1,?_⟩
 rw[CS];simp only[List.any_toArray,Fk];constructor
 .rintro⟨y,hy,hk⟩;obtain⟨j,hj,rfl⟩:=D4 hy;have z:=(Ef (key2 its[j]) hy).2 j hj rfl;rw[hk]at z;refine⟨ds.getD j .non,?_,z⟩;rw[Ek,Cm (by omega)]
  exact Dc _
 .rintro⟨y,hy,hk⟩;obtain⟨j,hj,rfl⟩:=D4 hy;have hj':j<its.length:=by omega
  refine⟨its[j],Dc _,?_⟩;have z:=(Ef (key2 its[j]) (Dc _)).2 j hj' rfl;rw[<-z,Ek,Cm hj];exact hk
theorem NB{g:Ad->Ad->Al}(ho:OpR X (CO op) (rI0 λi j=>.bl (g i j)))(hg:∀ dx dy,(∃ i j,dx=.int i/\dy=.int j/\B7 op dx dy=.ok (.bl (g i j)))\/B7 op dx dy=.bad):OpD X CL W (CO op) (B7 op):=by
 intro A pI s U H x y v u Q I rx ry ⟨hA,dx,dy,hx,hy,p⟩;rcases hg dx dy with ⟨i,j,rfl,rfl,e⟩|e
 .have ex:=hx.int_of;have ey:=hy.int_of
  subst ex ey;rw[e]at p;exact ho pI s U H _ _ v u Q I rx ry ⟨i,j,rfl,rfl,p _ H (AH.refl H) rfl⟩
 .rw[e]at p;exact p.elim
theorem Wf{x:V}(h:C4 X.K CL H A x d)(hd:d≠.non):x≠.non:=by
 rintro rfl;have h:=h.plain;cases d with
 |non=>exact hd rfl
 |tup=>obtain⟨_,_,e,_⟩:=h;cases e
 |lst=>obtain⟨_,_,e,_⟩:=h;cases e
 |obj=>obtain⟨_,_,_,_,e,_⟩:=h;cases e
 |exc=>obtain⟨_,_,_,e,_⟩:=h;cases e
 |dic=>obtain⟨_,_,e,_⟩:=h;cases e
 |_=>cases h
theorem Lh(hu:X.A.units+64<BV)(op:DR):OpD X CL W (CO op) (B7 op):=by
 cases op with
 |Eq=>
  intro A pI s U H x y v u Q I rx ry ⟨hA,dx,dy,hx,hy,p⟩;rw[cH]at p;split at p
  .rename_i h;simp only[Ap]at h;exact(MH I 5 dx dy x y v u X.A h.1 h.2 hx.plain hy.plain rx ry (by omega)).1 X.prog X.w X.xe _ ⟨.bl _,H,I,rfl,p _ H (AH.refl H) rfl⟩
  .exact p.elim
 |NotEq=>
  intro A pI s U H x y v u Q I rx ry ⟨hA,dx,dy,hx,hy,p⟩;rw[bV]at p;split at p
  .rename_i h;simp only[Ap]at h;exact(MH I 5 dx dy x y v u X.A h.1 h.2 hx.plain hy.plain rx ry (by omega)).2.2 X.prog X.w X.xe _ ⟨.bl _,H,I,rfl,p _ H (AH.refl H) rfl⟩
  .exact p.elim
 |Lt=>
  refine NB bJ λdx dy=>?_
  cases dx with
  |int i=>
   cases dy with
   |int j=>exact .inl ⟨i,j,rfl,rfl,rfl⟩
   |_=>exact .inr rfl
  |_=>exact .inr rfl
 |LtE=>
  refine NB bK λdx dy=>?_
  cases dx with
  |int i=>
   cases dy with
   |int j=>exact .inl ⟨i,j,rfl,rfl,rfl⟩
   |_=>exact .inr rfl
  |_=>exact .inr rfl
 |Gt=>
  refine NB bN λdx dy=>?_
  cases dx with
  |int i=>
   cases dy with
   |int j=>exact .inl ⟨i,j,rfl,rfl,rfl⟩
   |_=>exact .inr rfl
  |_=>exact .inr rfl
 |GtE=>
  refine NB bO λdx dy=>?_
  cases dx with
  |int i=>
   cases dy with
   |int j=>exact .inl ⟨i,j,rfl,rfl,rfl⟩
   |_=>exact .inr rfl
  |_=>exact .inr rfl
 |In=>
  intro A pI s U H x y v u Q I rx ry ⟨hA,dx,dy,hx,hy,p⟩;cases dy with
  |lst es=>
   rw[eY]at p;split at p
   .rename_i h;simp only[Ap]at h;obtain⟨a,xs,e,_,sq,r⟩:=hy.plain;subst e;cases ry;obtain⟨its,rv,pl,_⟩:=I.list sq;obtain⟨e,he,ha⟩:=N9 I (n:=5) X.A.in1 h.1 h.2 r rv hx.plain rx (by show X.A.units+1+5<BV;omega)
    refine SeqAt.in_listAt e (IA pl) he ?_;rw[ha];exact⟨.bl _,H,I,rfl,p _ H (AH.refl H) rfl⟩
   .exact p.elim
  |tup es=>
   rw[eX]at p;split at p
   .rename_i h;simp only[Ap]at h;obtain⟨a,xs,e,_,sq,r⟩:=hy.plain;subst e;cases ry;obtain⟨its,rv,pl,_⟩:=I.tuple sq;obtain⟨e,he,ha⟩:=N9 I (n:=5) X.A.in1 h.1 h.2 r rv hx.plain rx (by show X.A.units+1+5<BV;omega)
    refine SeqAt.in_tupleAt e pl he ?_;rw[ha];exact⟨.bl _,H,I,rfl,p _ H (AH.refl H) rfl⟩
   .exact p.elim
  |dic kvs=>
   obtain⟨a,es,rfl,hH,rk⟩:=hy.dic_of;have p':Br (λH=>Rep X.K CL H A) W H (match EQ dx with|some k=>.ok (.bl (kvs.any λp=>p.1==k))|none=>.bad) Q:=p
   cases ek:EQ dx with
   |none=>rw[ek]at p';exact p'.elim
   |some k=>
    rw[ek]at p';obtain⟨ka,rfl,hk⟩:=Lj hx ek;cases rx;cases ry;exact d8 (by omega) I hH rk hk λs' I'=>⟨.bl _,H,I',rfl,p' _ H (AH.refl H) rfl⟩
  |_=>exact p.elim
 |NotIn=>
  intro A pI s U H x y v u Q I rx ry ⟨hA,dx,dy,hx,hy,p⟩;cases dy with
  |lst es=>
   rw[bR]at p;split at p
   .rename_i h;simp only[Ap]at h;obtain⟨a,xs,e,_,sq,r⟩:=hy.plain;subst e;cases ry;obtain⟨its,rv,pl,_⟩:=I.list sq;obtain⟨e,he,ha⟩:=N9 I (n:=5) X.A.in1 h.1 h.2 r rv hx.plain rx (by show X.A.units+1+5<BV;omega)
    refine SeqAt.notIn_listAt e (IA pl) he ?_;rw[ha];exact⟨.bl _,H,I,rfl,p _ H (AH.refl H) rfl⟩
   .exact p.elim
  |tup es=>
   rw[bQ]at p;split at p
   .rename_i h;simp only[Ap]at h;obtain⟨a,xs,e,_,sq,r⟩:=hy.plain;subst e;cases ry;obtain⟨its,rv,pl,_⟩:=I.tuple sq;obtain⟨e,he,ha⟩:=N9 I (n:=5) X.A.in1 h.1 h.2 r rv hx.plain rx (by show X.A.units+1+5<BV;omega)
    refine SeqAt.notIn_tupleAt e pl he ?_;rw[ha];exact⟨.bl _,H,I,rfl,p _ H (AH.refl H) rfl⟩
   .exact p.elim
  |dic kvs=>
   obtain⟨a,es,rfl,hH,rk⟩:=hy.dic_of;have p':Br (λH=>Rep X.K CL H A) W H (match EQ dx with|some k=>.ok (.bl (!kvs.any λp=>p.1==k))|none=>.bad) Q:=p
   cases ek:EQ dx with
   |none=>rw[ek]at p';exact p'.elim
   |some k=>
    rw[ek]at p';obtain⟨ka,rfl,hk⟩:=Lj hx ek;cases rx;cases ry;exact uC (by omega) I hH rk hk λs' I'=>⟨.bl _,H,I',rfl,p' _ H (AH.refl H) rfl⟩
  |_=>exact p.elim
 |Is=>
  intro A pI s U H x y v u Q I rx ry ⟨hA,dx,dy,hx,hy,p⟩;cases dy with
  |non=>
   have ey:=hy.non_of;subst ey;refine zQ pI s U H _ _ v u Q I rx ry ⟨rfl,?_⟩;cases dx with
   |non=>
    have ex:=hx.non_of;subst ex;exact p _ H (AH.refl H) rfl
   |exc=>exact p.elim
   |dic=>exact p.elim
   |_=>rw[Cb (Wf hx (by simp))];exact p _ H (AH.refl H) rfl
  |bl b=>
   cases dx with
   |bl a=>
    have ey:=hy.bl_of;have ex:=hx.bl_of;subst ex ey;cases rx;cases ry;refine wpAny_is_plain rfl ⟨.bl (a==b),H,I,?_,p _ H (AH.refl H) rfl⟩;cases a<;>cases b<;>rfl
   |_=>exact p.elim
  |_=>cases dx<;>exact p.elim
 |IsNot=>
  intro A pI s U H x y v u Q I rx ry ⟨hA,dx,dy,hx,hy,p⟩;cases dy with
  |non=>
   have ey:=hy.non_of;subst ey;refine tL pI s U H _ _ v u Q I rx ry ⟨rfl,?_⟩;cases dx with
   |non=>
    have ex:=hx.non_of;subst ex;exact p _ H (AH.refl H) rfl
   |exc=>exact p.elim
   |dic=>exact p.elim
   |_=>rw[Cb (Wf hx (by simp))];exact p _ H (AH.refl H) rfl
  |bl b=>
   cases dx with
   |bl a=>
    have ey:=hy.bl_of;have ex:=hx.bl_of;subst ex ey;cases rx;cases ry;refine wpAny_isNot_plain rfl ⟨.bl (!(a==b)),H,I,?_,p _ H (AH.refl H) rfl⟩;cases a<;>cases b<;>rfl
   |_=>exact p.elim
  |_=>cases dx<;>exact p.elim
end
section
variable{X:Cx}{CL:ClA}{W:XW}{a b c:Ao}{fa fb fc:Rho->R D}{pos:AX}
theorem DG.bind{f:D->R Al}{Q:Al->Hp->Prop}{Q':VK}(h:DG W H (r.bind f) Q)(k:∀ d v H',r=.ok d->AH H H'->Rp H' v d->DG W H' (f d) Q->Q' v H'):Br Rp W H r Q':=by
 cases r with
 |ok d=>exact λv H2 s2 q=>k d v H2 rfl s2 q (DG.same s2 h)
 |exn x=>exact h
 |bad=>exact h
theorem DG.bindB{r:R Al}{f:Al->R Al}{Q:Al->Hp->Prop}{Q':Al->Hp->Prop}(h:DG W H (r.bind f) Q)(k:∀ b H',r=.ok b->AH H H'->DG W H' (f b) Q->Q' b H'):DG W H r Q':=by
 cases r with
 |ok d=>exact λH2 s2=>k d H2 rfl s2 (DG.same s2 h)
 |exn x=>exact h
 |bad=>exact h
theorem Ie.bind{Rp:Hp->Ac V->Ac D->Prop}{r:R (Ac D)}{f:Ac D->R D}{Q':Ac V->Hp->Prop}(h:Br Rq W H (r.bind f) Q)(k:∀ d v H',r=.ok d->AH H H'->Rp H' v d->Br Rq W H' (f d) Q->Q' v H'):Ie Rp W H r Q':=by
 cases r with
 |ok d=>exact λv H2 s2 q=>k d v H2 rfl s2 q (Br.same s2 h)
 |exn x=>exact h
 |bad=>exact h
theorem yI(ha:ST X CL W a fa):SE X CL W (.UnaryOp .USub a pos) (λY=>(fa Y).bind λx=>unD .USub x):=λA=>PE.weak (ml yO (ha A)) λU H Q ⟨hA,Y,g,p⟩=>⟨hA,Y,g,Br.bind p λd v H1 _ s1 r1 p1=>by
 cases d with
 |int i=>
  have e:=r1.int_of;subst e;exact⟨i,rfl,p1 _ H1 (AH.refl H1) rfl⟩
 | _=>exact p1.elim⟩
theorem Nl{f:Al->R D}(h:Br Rq W H ((Eo d).bind f) Q):∃ c,d=.bl c/\Br Rq W H (f c) Q:=by
 cases d with
 |bl c=>exact⟨c,rfl,h⟩
 |_=>exact h.elim
theorem yG(ha:ST X CL W a fa):SE X CL W (.UnaryOp .Not a pos) (λY=>(fa Y).bind λx=>(Eo x).bind λb=>.ok (.bl (!b))):=λA=>PE.weak (b6 (ha A)) λU H Q ⟨hA,Y,g,p⟩=>⟨hA,Y,g,Br.bind p λd v H1 _ s1 r1 p1=>by
 obtain⟨c,rfl,p2⟩:=Nl p1;exact⟨c,r1.bl_of,p2 _ H1 (AH.refl H1) rfl⟩⟩
theorem Wr{op}(ha:SE X CL W a fa):SE X CL W (.BoolOp op [a] pos) fa:=λA=>av (ha A)
theorem xM{rest:Ac Ao}(ha:SE X CL W a fa)(hb:SE X CL W (.BoolOp .And (b::rest) pos) fb):SE X CL W (.BoolOp .And (a::b::rest) pos) (λY=>(fa Y).bind λx=>(Eo x).bind λc=>if c=Aa then fb Y else .ok (.bl Ae)):=
 λA=>PE.weak (bg (ha A) (hb A)) λU H Q ⟨hA,Y,g,p⟩=>⟨hA,Y,g,Br.bind p λd v H1 _ s1 r1 p1=>by
  obtain⟨c,rfl,p2⟩:=Nl p1;refine⟨c,r1,?_⟩;cases c with
  |true=>exact⟨hA.same s1,Y,g.same s1,p2⟩
  | false=>exact p2 _ H1 (AH.refl H1) rfl⟩
theorem oo{rest:Ac Ao}(ha:SE X CL W a fa)(hb:SE X CL W (.BoolOp .Or (b::rest) pos) fb):SE X CL W (.BoolOp .Or (a::b::rest) pos) (λY=>(fa Y).bind λx=>(Eo x).bind λc=>if c=Aa then .ok (.bl Aa) else fb Y):=
 λA=>PE.weak (mn (ha A) (hb A)) λU H Q ⟨hA,Y,g,p⟩=>⟨hA,Y,g,Br.bind p λd v H1 _ s1 r1 p1=>by
  obtain⟨c,rfl,p2⟩:=Nl p1;refine⟨c,r1,?_⟩;cases c with
  |false=>exact⟨hA.same s1,Y,g.same s1,p2⟩
  | true=>exact p2 _ H1 (AH.refl H1) rfl⟩
theorem lW{op':DR}(hu:X.A.units+64<BV)(ha:ST X CL W a fa)(hb:ST X CL W b fb)(hc:ST X CL W c fc)(hm:JK [op,op'] [b,c]=Ae):SE X CL W (.Compare a [op,op'] [b,c] pos) (λY=>(fa Y).bind λx=>(fb Y).bind λy=>(B7 op x y).bind λz=>(Eo z).bind λk=>if k=Aa then (fc Y).bind λu=>B7 op' y u else .ok (.bl Ae)):=
 λA=>PE.weak (mU (Lh hu op A) (Lh hu op' A) (ha A) (hb A) (hc A) hm) λU H Q ⟨hA,Y,g,p⟩=>⟨hA,Y,g,Br.bind p λdx x H1 _ s1 r1 p1=>⟨hA.same s1,Y,g.same s1,Br.bind p1 λdy y H2 _ s2 r2 p2=>
  ⟨(hA.same s1).same s2,dx,dy,r1.same s2,r2,Br.bind p2 λdz z H3 _ s3 r3 p3=>by
   obtain⟨k,rfl,p4⟩:=Nl p3;refine⟨k,r3,?_⟩;cases k with
   |false=>exact p4 _ H3 (AH.refl H3) rfl
   | true=>exact⟨((hA.same s1).same s2).same s3,Y,((g.same s1).same s2).same s3,Br.bind p4 λdu u H4 _ s4 r4 p5=>⟨(((hA.same s1).same s2).same s3).same s4,dy,du,(r2.same s3).same s4,r4,p5⟩⟩⟩⟩⟩
theorem vG{xs:Ac D}{i:Ad}(h:DH xs i=.ok d):∃ k,plD xs.length i=Ab k/\xs[k]?=Ab d:=by
 unfold DH at h;split at h
 .rename_i k e;split at h
  .rename_i d' e';cases h;exact⟨k,e,e'⟩
  .cases h
 .cases h
theorem Va{xs:Ac D}{i:Ad}(h:DH xs i=.exn x):Bu:=by
 unfold DH at h;split at h
 .split at h<;>cases h
 .cases h
theorem V9{ds:Ac D}{i:Ad}(r:Reps K CL H A xs ds)(h:DH ds i=.ok d):∃ v,atI xs i=Ab v/\Rep K CL H A v d:=by
 obtain⟨k,e,q⟩:=vG h;obtain⟨v,hv,rv⟩:=r.get q;refine⟨v,?_,rv⟩;unfold atI;have:ixN xs.length i=Ab k:=by rw[r.length];exact e
 rw[this];exact hv
theorem yL(hu:X.A.units+64<BV)(hs:QU b)(ha:ST X CL W a fa)(hb:ST X CL W b fb):SE X CL W (.Subscript a b pos) (λY=>(fa Y).bind λx=>(fb Y).bind λy=>Cr x y):=
 λA=>PE.weak (bF (r:=λx y H Q=>(Si X.K x y H Q\/Sh X.K x y H Q)\/Sj X.K CL A x y H Q) ((sC.or ii).or (im (by omega))) (ha A) (hb A) hs) λU H Q h=>by
  obtain⟨hA,Y,g,h⟩:=op2 h;refine⟨hA,Y,g,?_⟩;cases e:fa Y with
  |bad=>rw[e]at h;exact h
  |exn x=>rw[e]at h;exact h
  |ok dx0=>
   rw[e]at h;intro x H1 s1 r1;obtain⟨hA1,Y1,g1,h1⟩:=h x H1 s1 r1;refine⟨hA1,Y1,g1,?_⟩;cases e1:fb Y1 with
   |bad=>rw[e1]at h1;exact h1
   |exn x=>rw[e1]at h1;exact h1
   |ok dy0=>
    rw[e1]at h1;intro y H2 s2 r2;obtain⟨hA2,dx,dy,rx,ry,p⟩:=h1 y H2 s2 r2;cases dy with
    |int i=>
     have ey:=ry.int_of;subst ey;cases dx with
     |lst ds=>
      obtain⟨q,xs,rfl,sq,r⟩:=rx.lst_of;rw[bD]at p;cases e2:DH ds i with
      |ok d=>
       rw[e2]at p;obtain⟨v,hv,rv⟩:=V9 r e2;exact .inl (.inl ⟨q,xs,i,v,rfl,rfl,sq,hv,p v H2 (AH.refl H2) rv⟩)
      |exn x=>exact(Va e2).elim
      |bad=>rw[e2]at p;exact p.elim
     |tup ds=>
      obtain⟨q,xs,rfl,_,sq,r⟩:=rx.tup_of;rw[aZ]at p;cases e2:DH ds i with
      |ok d=>
       rw[e2]at p;obtain⟨v,hv,rv⟩:=V9 r e2;exact .inl (.inr ⟨q,xs,i,v,rfl,rfl,sq,hv,p v H2 (AH.refl H2) rv⟩)
      |exn x=>exact(Va e2).elim
      |bad=>rw[e2]at p;exact p.elim
     |_=>exact p.elim
    |tup es=>
     cases dx with
     |dic kvs=>
      have p':Br (λH=>Rep X.K CL H A) W H2 (match (EQ (.tup es)).bind (Dl kvs) with|some d=>.ok d|none=>.bad) Q:=p
      cases ek:EQ (.tup es) with
      |none=>rw[ek]at p';exact p'.elim
      |some k=>
       rw[ek]at p';have p2:Br (λH=>Rep X.K CL H A) W H2 (match Dl kvs k with|some d=>.ok d|none=>.bad) Q:=p'
       cases eg:Dl kvs k with
       |none=>rw[eg]at p2;exact p2.elim
       |some d=>
        rw[eg]at p2;obtain⟨a,es',rfl,hH,rk⟩:=rx.dic_of;obtain⟨ka,rfl,hk⟩:=Lj ry ek;exact .inr ⟨a,ka,es',kvs,k,d,rfl,rfl,hH,rk,hk,eg,λv rv=>p2 v H2 (AH.refl H2) rv⟩
     |_=>exact p.elim
    |_=>cases dx<;>exact p.elim
theorem xQ:SA X CL W [] (λ_=>.ok []):=λA=>PA.weak Hc λU H Q ⟨hA,Y,g,p⟩=>p [] H (AH.refl H) trivial
theorem rP(ha:SE X CL W a fa)(hs:SA X CL W es fs)(hst:AB (a::es) X.env=(Ae,eval a X.env)::AB es X.env):SA X CL W (a::es) (λY=>(fa Y).bind λx=>(fs Y).bind λxs=>.ok (x::xs)):=
 λA=>PA.weak (Fe (ha A) (hs A) hst) λU H Q ⟨hA,Y,g,p⟩=>by
  dsimp only at p;refine⟨hA,Y,g,?_⟩;cases e:fa Y with
  |bad=>rw[e]at p;exact p
  |exn x=>rw[e]at p;exact p
  |ok d=>
   rw[e]at p;intro v H1 s1 r1;refine⟨hA.same s1,Y,g.same s1,?_⟩;cases e1:fs Y with
   |bad=>rw[R.bind_ok,e1]at p;exact p
   |exn x=>rw[R.bind_ok,e1]at p;exact λH2 s2=>p H2 (s1.trans s2)
   |ok ds=>
    rw[R.bind_ok,e1]at p;exact λvs H2 s2 r2=>p (v::vs) H2 (s1.trans s2) ⟨r1.same s2,r2⟩
theorem yE{k:Ag}(hs:SA X CL W es fs)(hz:∀ Y ds,fs Y=.ok ds->ds.length<=100000):SE X CL W (.Tuple es k pos) (λY=>(fs Y).bind λxs=>.ok (.tup xs)):=
 λA=>PE.weak (aq (hs A)) λU H Q ⟨hA,Y,g,p⟩=>⟨hA,Y,g,Ie.bind p λds vs H1 e s1 r1 p1=>⟨by
  rw[r1.length,E1];have:=hz Y ds e;omega,λq hq=>p1 _ _ (Gv hq _) (Li (hA.same s1) hq r1)⟩⟩
def KJ(W:XW)(H:Hp)(r:R (Aq Ad))(Q:Aq Ad->Hp->Prop):Prop:=match r with
  |.ok o=>∀ H',AH H H'->Q o H'
  |.exn x=>∀ H',AH H H'->W x H'
  |.bad=>Bu
theorem KJ.bind{r:R (Aq Ad)}{f:Aq Ad->R D}(h:Br Rq W H (r.bind f) Q)(k:∀ o H',r=.ok o->AH H H'->Br Rq W H' (f o) Q->Q' o H'):KJ W H r Q':=by
 cases r with
 |ok d=>exact λH2 s2=>k d H2 rfl s2 (Br.same s2 h)
 |exn x=>exact h
 |bad=>exact h
def SO(X:Cx)(CL:ClA)(W:XW)(e:Aq Ao)(f:Rho->R (Aq Ad)):Prop:=∀ A,PO X e (λU H Q=>AOk H A/\∃ Y,Good X.K CL A Y U H/\KJ W H (f Y) Q)
theorem PO.weak{e:Aq Ao}{t t':TO}(h:PO X e t)(k:∀ U H Q,t' U H Q->t U H Q):PO X e t':=λpI s U H Q I q=>h pI s U H Q I (k _ _ _ q)
theorem rD:SO X CL W Af (λ_=>.ok Af):=λA=>PO.weak pX λU H Q ⟨hA,Y,g,p⟩=>p H (AH.refl H)
theorem rC(ha:ST X CL W a fa):SO X CL W (Ab a) (λY=>(fa Y).bind λd=>(Fu d).bind λi=>.ok (Ab i)):=λA=>PO.weak (pW (ha A)) λU H Q ⟨hA,Y,g,p⟩=>by
 dsimp only at p;refine⟨hA,Y,g,?_⟩;cases e:fa Y with
 |bad=>rw[e]at p;exact p
 |exn x=>rw[e]at p;exact p
 |ok d=>
  rw[e]at p;intro v H1 s1 r1;cases d with
  |int i=>exact⟨i,r1.int_of,p H1 s1⟩
  |_=>exact p.elim
theorem Vu{ds:Ac D}(lo hi:Aq Ad)(r:Reps K CL H A xs ds):Reps K CL H A (J3 xs lo hi) (KP ds lo hi):=by
 unfold J3 KP;have e:∀ d o,HT.sIx xs.length d o=GX ds.length d o:=λd o=>by rw[r.length];cases o<;>rfl
 rw[e,e,r.length];exact(r.drop _).take _
end
section
variable{X:Cx}{CL:ClA}{W:XW}{a b c:Ao}{fa fb fc:Rho->R D}{pos:AX}
def GB(K:Fg)(CL:ClA)(H:Hp)(A:Ak->Prop):Ac V->Ac D->Prop
 |[],[]=>G9
 |v::vs,d::ds=>C4 K CL H A v d/\GB K CL H A vs ds
 |_,_=>Bu
theorem GB.same{K:Fg}{H H':Hp}{A:Ak->Prop}(s:AH H H'):∀{vs:Ac V}{ds:Ac D},GB K CL H A vs ds->GB K CL H' A vs ds
 |[],[],h=>h
 |_::_,_::_,h=>⟨h.1.same s,GB.same s h.2⟩
 |[],_::_,h=>h.elim
 |_::_,[],h=>h.elim
theorem GB.one(h:GB K CL H A vs [d]):∃ v,vs=[v]/\C4 K CL H A v d:=by
 cases vs with
 |nil=>exact h.elim
 |cons v vs=>
  cases vs with
  |nil=>exact⟨v,rfl,h.1⟩
  |cons=>exact h.2.elim
theorem GB.two{e:D}(h:GB K CL H A vs [d,e]):∃ v w',vs=[v,w']/\C4 K CL H A v d/\C4 K CL H A w' e:=by
 cases vs with
 |nil=>exact h.elim
 |cons v vs=>
  cases vs with
  |nil=>exact h.2.elim
  |cons w' vs=>
   cases vs with
   |nil=>exact⟨v,w',rfl,h.1,h.2.1⟩
   |cons=>exact h.2.2.elim
def SAT(X:Cx)(CL:ClA)(W:XW)(es:Ac Ao)(f:Rho->R (Ac D)):Prop:=∀ A,PA X es (λU H Q=>AOk H A/\∃ Y,Good X.K CL A Y U H/\Ie (λH=>GB X.K CL H A) W H (f Y) Q)
theorem rO:SAT X CL W [] (λ_=>.ok []):=λA=>PA.weak Hc λU H Q ⟨hA,Y,g,p⟩=>p [] H (AH.refl H) trivial
theorem lY(ha:ST X CL W a fa)(hs:SAT X CL W es fs)(hst:AB (a::es) X.env=(Ae,eval a X.env)::AB es X.env):SAT X CL W (a::es) (λY=>(fa Y).bind λx=>(fs Y).bind λxs=>.ok (x::xs)):=
 λA=>PA.weak (Fe (ha A) (hs A) hst) λU H Q ⟨hA,Y,g,p⟩=>by
  dsimp only at p;refine⟨hA,Y,g,?_⟩;cases e:fa Y with
  |bad=>rw[e]at p;exact p
  |exn x=>rw[e]at p;exact p
  |ok d=>
   rw[e]at p;intro v H1 s1 r1;refine⟨hA.same s1,Y,g.same s1,?_⟩;cases e1:fs Y with
   |bad=>rw[R.bind_ok,e1]at p;exact p
   |exn x=>rw[R.bind_ok,e1]at p;exact λH2 s2=>p H2 (s1.trans s2)
   |ok ds=>
    rw[R.bind_ok,e1]at p;exact λvs H2 s2 r2=>p (v::vs) H2 (s1.trans s2) ⟨r1.same s2,r2⟩
def Jl(X:Cx)(CL:ClA)(W:XW)(f:Ai)(g:Ac D->R D):Prop:=∀ A,Ig X f (λxs H Q=>AOk H A/\∃ ds,GB X.K CL H A xs ds/\Br (λH=>Rep X.K CL H A) W H (g ds) Q)
theorem Lv{x:An}{id:Dp}{g:Ac D->R D}(hc:Jl X CL W (.builtin id) g)(hg:Gl X x)(hm:X.mg x=Af)(hv:DE x=Ab (.builtin id))(ha:SAT X CL W (e::es) fs)(hn:x≠"__name__")(hdb:(x==("__debug__" : An))=Ae)(he:AB (e::es) X.env=(Ae,eval e X.env)::AB es X.env)(hpl:∀ pos,(Ct pos (AB es X.env)).any (·.1)=Ae):SE X CL W (.Call (.Name x p) (e::es) [] pos) (λY=>(fs Y).bind g):=λA=>PE.weak (UT (hc A) hg hm hv (ha A) hn hdb he (hpl _)) λU H Q ⟨hA,Y,gd,q⟩=>⟨hA,Y,gd,Ie.bind q λds vs H1 _ s1 r1 p1=>⟨hA.same s1,ds,r1,p1⟩⟩
theorem xL{x:An}{g:Ac D->R D}(hc:Jl X CL W (.type T) g)(hg:Gl X x)(hm:X.mg x=Af)(hv:DE x=Ab (.type T))(ha:SAT X CL W (e::es) fs)(hn:x≠"__name__")(hdb:(x==("__debug__" : An))=Ae)(he:AB (e::es) X.env=(Ae,eval e X.env)::AB es X.env)(hpl:∀ pos,(Ct pos (AB es X.env)).any (·.1)=Ae):SE X CL W (.Call (.Name x p) (e::es) [] pos) (λY=>(fs Y).bind g):=λA=>PE.weak (TW (hc A) hg hm hv (ha A) hn hdb he (hpl _)) λU H Q ⟨hA,Y,gd,q⟩=>⟨hA,Y,gd,Ie.bind q λds vs H1 _ s1 r1 p1=>⟨hA.same s1,ds,r1,p1⟩⟩
theorem k8:Jl X CL W (.builtin "len") (biD .len):=by
  intro A pI s U H xs us Q I r ⟨hA,ds,rs,p⟩
  match ds,rs,p with
  |[.lst es],rs,p=>
    obtain⟨v,rfl,rv⟩:=rs.one;obtain⟨q,ys,rfl,sq,ry⟩:=rv.lst_of;exact Te pI s U H _ us Q I r ⟨q,ys,rfl,.inl sq,p _ H (AH.refl H) (by rw[ry.length];rfl)⟩
  |[.tup es],rs,p=>
    obtain⟨v,rfl,rv⟩:=rs.one;obtain⟨q,ys,rfl,_,sq,ry⟩:=rv.tup_of;exact Te pI s U H _ us Q I r ⟨q,ys,rfl,.inr sq,p _ H (AH.refl H) (by rw[ry.length];rfl)⟩
  |[.str x],rs,p=>
    obtain⟨v,rfl,rv⟩:=rs.one;have e:=rv.str_of;subst e;have p':Br (λH=>Rep X.K CL H A) W H (if CN x.length=Aa then .ok (.int x.length) else .bad) Q:=p
    split at p'
    · rename_i h;exact fY pI s U H _ us Q I r ⟨x,rfl,Hv h,p' _ H (AH.refl H) rfl⟩
    · exact p'.elim
  |[],_,p=>exact p.elim
  |[.non],_,p=>exact p.elim
  |[.bl _],_,p=>exact p.elim
  |[.int _],_,p=>exact p.elim
  |[.obj _ _],_,p=>exact p.elim
  |[.exc _ _],_,p=>exact p.elim
  |[.dic kvs],rs,p=>
    obtain⟨v,rfl,rv⟩:=rs.one;have p':Br (λH=>Rep X.K CL H A) W H (if CN kvs.length=Aa then .ok (.int kvs.length) else .bad) Q:=p
    split at p'
    · rename_i h;obtain⟨a,es,rfl,hH,rk⟩:=rv.dic_of;cases r with
      |cons r1 r2=>
        cases r1;cases r2;exact uE I hH rk (Hv h) λs' t I'=>⟨.int _,H,I',⟨t,rfl⟩,p' _ H (AH.refl H) rfl⟩
    · exact p'.elim
  |x::_::_,_,p=>cases x<;>exact p.elim
theorem iZ(ds:Ac D):(∃ i j,ds=[.int i,.int j])\/biD .max ds=.bad:=by
  match ds with
  |[.int i,.int j]=>exact .inl ⟨i,j,rfl⟩
  |[]=>exact .inr rfl
  |[x]=>cases x<;>exact .inr rfl
  |x::y::z::r=>cases x<;>cases y<;>exact .inr rfl
  |[x,.non]=>cases x<;>exact .inr rfl
  |[x,.bl _]=>cases x<;>exact .inr rfl
  |[x,.str _]=>cases x<;>exact .inr rfl
  |[x,.tup _]=>cases x<;>exact .inr rfl
  |[x,.lst _]=>cases x<;>exact .inr rfl
  |[x,.obj _ _]=>cases x<;>exact .inr rfl
  |[x,.exc _ _]=>cases x<;>exact .inr rfl
  |[x,.dic _]=>cases x<;>exact .inr rfl
  |[.non,.int _]=>exact .inr rfl
  |[.bl _,.int _]=>exact .inr rfl
  |[.str _,.int _]=>exact .inr rfl
  |[.tup _,.int _]=>exact .inr rfl
  |[.lst _,.int _]=>exact .inr rfl
  |[.obj _ _,.int _]=>exact .inr rfl
  |[.exc _ _,.int _]=>exact .inr rfl
  |[.dic _,.int _]=>exact .inr rfl
theorem T8:∀(is:Ac Ad)(i:Ad),IH i is∈i::is/\∀ a∈i::is,IH i is<=a
 |[],i=>⟨Aw,λa h=>by rw[AR]at h;rw[h];exact Hj _⟩
 |j::r,i=>by
  obtain⟨h1,h2⟩:=T8 r (if j<i then j else i)
  refine⟨?_,λa h=>?_⟩
  .show IH (if j<i then j else i) r∈_
   rcases Au.mp h1 with e|e
   .rw[e];split
    .exact Av _ Aw
    .exact Aw
   .exact Av _ (Av _ e)
  .show IH (if j<i then j else i) r<=a
   have h0:=h2 _ Aw;rcases Au.mp h with e|e
   .subst e;refine Jz h0 ?_;split<;>omega
   .rcases Au.mp e with e|e
    .subst e;refine Jz h0 ?_;split<;>omega
    .exact h2 a (Av _ e)
theorem Tk:∀{is:Ac Ad}{its:Ac Ai},Bk (is.map V.int) its->∃ xs:A6 (Ad×DV),its.toArray=Mc xs/\xs.toList.map (·.1)=is
 |[],_,h=>by cases h;exact⟨#[],by simp[Mc],rfl⟩
 |i::is,_,h=>by
  cases h with
  |cons h1 h2=>
   obtain⟨t,rfl⟩:=h1;obtain⟨xs,e1,e2⟩:=Tk h2;refine⟨((i,t)::xs.toList).toArray,?_,?_⟩
   .apply Array.toList_inj.mp
    have e1':=congrArg Jy e1;simp[Mc]at e1' ⊢;exact e1'
   .simp[e2]
theorem kJ(hc:X.calm=Aa):Ig X (.builtin "min") (λxs H Q=>∃ a i is,xs=[.ref a]/\SqL X.K H a ((i::is).map V.int)/\Q (.int (IH i is)) H):=by
 intro pI s U H xs us Q I r h;obtain⟨a,i,is,rfl,sq,q⟩:=h;obtain⟨u,rfl,ru⟩:=IC r;cases ru;obtain⟨its,rv,pl,hz⟩:=I.list sq;obtain⟨ys,e1,e2⟩:=Tk rv;have hsz:0<ys.size:=by
  have:=congrArg Yp e2;simp at this;omega
 have hl:=pl.isList;rw[e1]at hl;refine min_intList (I.ok.hd hc) hl hsz λv h' tk hv hk=>?_
 obtain⟨t,rfl⟩:=intItems_at hv;obtain⟨h1,h2⟩:=argBest_lt (Jb ys) (ys.size-1);have nm:∀ j,j<ys.size->Jb ys j∈i::is:=λj hj=>by
  rw[<-e2];unfold Jb;rw[BY hj];simp only[EY,Option.getD_some];exact Bo.mpr ⟨ys[j],by simp,rfl⟩
 have nx:∀ x∈i::is,∃ j,j<ys.size/\Jb ys j=x:=λx hx=>by
  rw[<-e2]at hx;obtain⟨y,hy,rfl⟩:=Bo.mp hx;obtain⟨j,hj,ej⟩:=Array.mem_iff_getElem.mp (XM.mp hy);refine⟨j,hj,?_⟩;unfold Jb;rw[BY hj,ej];rfl
 obtain⟨m1,m2⟩:=T8 is i;have em:Jb ys (argBest (λi j=>decide (Jb ys i<Jb ys j)) (ys.size-1))=IH i is:=by
  refine Int.le_antisymm ?_ (m2 _ (nm _ (by omega)))
  obtain⟨j,hj,ej⟩:=nx _ m1;rw[<-ej];exact h2 j (by omega)
 rw[em];exact⟨.int (IH i is),H,I.kept hk,⟨_,rfl⟩,q⟩
theorem Tl{K:Fg}{CL:ClA}{H:Hp}{A:Ak->Prop}:∀{es:Ac D}{is:Ac Ad}{ys:Ac V},Jm es=Ab is->Reps K CL H A ys es->ys=is.map V.int
 |[],_,[],h,_=>by cases h;rfl
 |[],_,_::_,_,r=>r.elim
 |_::_,_,[],_,r=>r.elim
 |e::es,is,y::ys,h,r=>by
  cases e with
  |int i=>
   have h':(Jm es).map (i :: ·)=Ab is:=h;cases e2:Jm es with
   |none=>rw[e2]at h';cases h'
   |some js=>
    rw[e2]at h';cases h';have ih:=Tl e2 r.2;have e1:y=.int i:=r.1;rw[ih,e1];rfl
  |_=>cases h
theorem iY(ds:Ac D)(hl:∀ es,ds≠[.lst es]):(∃ i j,ds=[.int i,.int j])\/biD .min ds=.bad:=by
 rcases ds with _|⟨x,_|⟨y,_|⟨z,r⟩⟩⟩
 .exact .inr rfl
 .cases x with
  |lst es=>exact absurd rfl (hl es)
  |_=>exact .inr rfl
 .cases x with
  |int i=>
   cases y with
   |int j=>exact .inl ⟨i,j,rfl⟩
   |_=>exact .inr rfl
  |_=>exact .inr rfl
 .cases x with
  |int i=>cases y<;>exact .inr rfl
  |_=>exact .inr rfl
theorem k7(hc:X.calm=Aa):Jl X CL W (.builtin "max") (biD .max):=by
 intro A pI s U H xs us Q I r ⟨hA,ds,rs,p⟩;rcases iZ ds with ⟨i,j,rfl⟩|e
 .obtain⟨v,w',rfl,rv,rw'⟩:=rs.two;have e1:=rv.int_of;have e2:=rw'.int_of
  subst e1 e2;exact kL hc pI s U H _ us Q I r ⟨i,j,rfl,p _ H (AH.refl H) rfl⟩
 .rw[e]at p;exact p.elim
theorem k6(hc:X.calm=Aa):Jl X CL W (.builtin "min") (biD .min):=by
  intro A pI s U H xs us Q I r ⟨hA,ds,rs,p⟩;by_cases hls:∃ es,ds=[.lst es]
  · obtain⟨es,rfl⟩:=hls;obtain⟨v,rfl,rv⟩:=rs.one;obtain⟨a,ys,rfl,sq,ry⟩:=rv.lst_of;have p':Br (Rep X.K CL · A) W H (match Jm es with
      |some (i::is)=>R.ok (.int (IH i is))
      | _=>.bad) Q:=p
    cases e1:Jm es with
    |none=>rw[e1]at p';exact p'.elim
    |some is=>
      cases is with
      |nil=>rw[e1]at p';exact p'.elim
      |cons i is=>
        rw[e1]at p';have ey:=Tl e1 ry;subst ey;exact kJ hc pI s U H _ us Q I r ⟨a,i,is,rfl,sq,p' _ H (AH.refl H) rfl⟩
  rcases iY ds (λes z=>hls ⟨es,z⟩) with ⟨i,j,rfl⟩|e
  · obtain⟨v,w',rfl,rv,rw'⟩:=rs.two;have e1:=rv.int_of;have e2:=rw'.int_of
    subst e1 e2;exact kK hc pI s U H _ us Q I r ⟨i,j,rfl,p _ H (AH.refl H) rfl⟩
  · rw[e]at p;exact p.elim
theorem nL:Jl X CL W (.type "tuple") (biD .tuple):=by
  intro A pI s U H xs us Q I r ⟨hA,ds,rs,p⟩
  match ds,rs,p with
  |[.lst es],rs,p=>
    obtain⟨v,rfl,rv⟩:=rs.one;obtain⟨q,ys,rfl,sq,ry⟩:=rv.lst_of;exact S5 pI s U H _ us Q I r ⟨q,ys,rfl,.inl ⟨sq,λl hl=>p _ _ (Gv hl _) (Li hA hl ry)⟩⟩
  |[.tup es],rs,p=>
    obtain⟨v,rfl,rv⟩:=rs.one;obtain⟨q,ys,rfl,na,sq,ry⟩:=rv.tup_of;exact S5 pI s U H _ us Q I r ⟨q,ys,rfl,.inr ⟨sq,p _ H (AH.refl H) ⟨q,ys,rfl,na,sq,ry⟩⟩⟩
  |[],_,p=>exact p.elim
  |[.non],_,p=>exact p.elim
  |[.bl _],_,p=>exact p.elim
  |[.int _],_,p=>exact p.elim
  |[.str _],_,p=>exact p.elim
  |[.obj _ _],_,p=>exact p.elim
  |[.exc _ _],_,p=>exact p.elim
  |[.dic _],rs,p=>first|exact p.elim|(obtain⟨v,rfl,rv⟩:=rs.one;exact rv.plain.elim)
  |x::_::_,_,p=>cases x<;>exact p.elim
end
section
variable{X:Cx}{CL:ClA}{W:XW}{a b c:Ao}{fa fb fc:Rho->R D}{pos:AX}
theorem SB.congr{g:Rho->R Al}(h:SB X CL W a f)(e:∀ Y,g Y=f Y):SB X CL W a g:=λA=>PT.weak (h A) λU H Q ⟨hA,Y,q,p⟩=>⟨hA,Y,q,by rw[<-e];exact p⟩
theorem xO(ha:SB X CL W a f):SB X CL W (.UnaryOp .Not a pos) (λY=>(f Y).bind λb=>.ok (!b)):=λA=>PT.weak (zY (ha A)) λU H Q ⟨hA,Y,g,p⟩=>⟨hA,Y,g,DG.bindB p λb H1 _ s1 p1=>p1 H1 (AH.refl H1)⟩
def SW(X:Cx)(CL:ClA)(W:XW)(e:Ao)(f:Rho->R Al):Prop:=∀ A,PW X e (λU H Q=>AOk H A/\∃ Y,Good X.K CL A Y U H/\DG W H (f Y) Q)
theorem PW.weak{t t':TT}(h:PW X e t)(k:∀ U H Q,t' U H Q->t U H Q):PW X e t':=λwh pI s U H Q I q=>h wh pI s U H Q I (k _ _ _ q)
theorem SW.sb(h:SW X CL W a f):SB X CL W a f:=λA=>PW.pt (h A)
theorem SW.congr{g:Rho->R Al}(h:SW X CL W a f)(e:∀ Y,g Y=f Y):SW X CL W a g:=λA=>PW.weak (h A) λU H Q ⟨hA,Y,q,p⟩=>⟨hA,Y,q,by rw[<-e];exact p⟩
theorem nX(ha:SB X CL W a f):SW X CL W (.BoolOp .And [a] pos) f:=λA=>pQ (ha A)
theorem yV(ha:SB X CL W a f):SW X CL W (.BoolOp .Or [a] pos) f:=λA=>zW (ha A)
theorem yW{g:Rho->R Al}{rest:Ac Ao}(ha:SB X CL W a f)(hb:SW X CL W (.BoolOp .And (b::rest) pos) g):SW X CL W (.BoolOp .And (a::b::rest) pos) (λY=>(f Y).bind λc=>if c=Aa then g Y else .ok Ae):=
 λA=>PW.weak (zX (ha A) (hb A)) λU H Q ⟨hA,Y,gd,p⟩=>⟨hA,Y,gd,DG.bindB p λc H1 _ s1 p1=>by
  cases c with
  |true=>exact⟨hA.same s1,Y,gd.same s1,p1⟩
  | false=>exact p1 H1 (AH.refl H1)⟩
theorem kl{g:Rho->R Al}{rest:Ac Ao}(ha:SB X CL W a f)(hb:SW X CL W (.BoolOp .Or (b::rest) pos) g):SW X CL W (.BoolOp .Or (a::b::rest) pos) (λY=>(f Y).bind λc=>if c=Aa then .ok Aa else g Y):=
 λA=>PW.weak (mf (ha A) (hb A)) λU H Q ⟨hA,Y,gd,p⟩=>⟨hA,Y,gd,DG.bindB p λc H1 _ s1 p1=>by
  cases c with
  |false=>exact⟨hA.same s1,Y,gd.same s1,p1⟩
  | true=>exact p1 H1 (AH.refl H1)⟩
theorem xP(ho:OpD X CL W (CO op) g)(ha:ST X CL W a fa)(hb:ST X CL W b fb)(hm:Hs op b=Ae):SB X CL W (.Compare a [op] [b] pos) (λY=>(fa Y).bind λx=>(fb Y).bind λy=>(g x y).bind Eo):=
 λA=>PT.weak (pT (ho A) (ha A) (hb A) hm) λU H Q ⟨hA,Y,gd,p⟩=>⟨hA,Y,gd,DG.bind p λdx x H1 _ s1 r1 p1=>⟨hA.same s1,Y,gd.same s1,DG.bind p1 λdy y H2 _ s2 r2 p2=>
  ⟨(hA.same s1).same s2,dx,dy,r1.same s2,r2,DG.bind p2 λdz z H3 _ s3 r3 p3=>by
   cases dz with
   |bl k=>exact⟨k,r3,p3 H3 (AH.refl H3)⟩
   | _=>exact p3.elim⟩⟩⟩
theorem lX{op':DR}(hu:X.A.units+64<BV)(ha:ST X CL W a fa)(hb:ST X CL W b fb)(hc:ST X CL W c fc)(hm:JK [op,op'] [b,c]=Ae):SB X CL W (.Compare a [op,op'] [b,c] pos) (λY=>(fa Y).bind λx=>(fb Y).bind λy=>(B7 op x y).bind λz=>(Eo z).bind λk=>if k=Aa then (fc Y).bind λu=>(B7 op' y u).bind Eo else .ok Ae):=
  λA=>PT.weak (mO (Lh hu op A) (Lh hu op' A) (ha A) (hb A) (hc A) hm) λU H Q ⟨hA,Y,g,p⟩=>⟨hA,Y,g,DG.bind p λdx x H1 _ s1 r1 p1=>⟨hA.same s1,Y,g.same s1,DG.bind p1 λdy y H2 _ s2 r2 p2=>
    ⟨(hA.same s1).same s2,dx,dy,r1.same s2,r2,DG.bind p2 λdz z H3 _ s3 r3 p3=>by
      cases dz with
      |bl k=>
        refine⟨k,r3,?_⟩;cases k with
        |false=>exact⟨Ae,rfl,p3 H3 (AH.refl H3)⟩
        | true=>exact⟨((hA.same s1).same s2).same s3,Y,((g.same s1).same s2).same s3,DG.bind p3 λdu u H4 _ s4 r4 p5=>⟨(((hA.same s1).same s2).same s3).same s4,dy,du,(r2.same s3).same s4,r4,DG.bind p5 λdv v H5 _ s5 r5 p6=>by
            cases dv with
            |bl k'=>exact⟨k',r5,p6 H5 (AH.refl H5)⟩
            | _=>exact p6.elim⟩⟩
      | _=>exact p3.elim⟩⟩⟩
theorem xN(ha:ST X CL W a fa)(he:∀ whole,IP a X.env whole=(do let v <-whole;IS a.pos;holding [v] (truthy v))):SB X CL W a (λY=>(fa Y).bind CH):=
 λA=>PT.weak (mM (ha A) he) λU H Q ⟨hA,Y,g,p⟩=>⟨hA,Y,g,DG.bind p λd v H1 _ s1 r1 p1=>by
  cases d with
  |non=>
   have e:=r1.non_of;subst e;exact⟨Ae,rfl,p1 H1 (AH.refl H1)⟩
  |bl b=>
   have e:=r1.bl_of;subst e;exact⟨b,rfl,p1 H1 (AH.refl H1)⟩
  |int i=>
   have e:=r1.int_of;subst e;exact⟨_,rfl,p1 H1 (AH.refl H1)⟩
  |str x=>
   have e:=r1.str_of;subst e;have p2:DG W H1 (if CN x.length=Aa then .ok (x.length != 0) else .bad) Q:=p1
   split at p2
   .rename_i h;refine⟨_,⟨Hv h,rfl⟩,?_⟩;have e:((x.length:Ad) != 0)=(x.length != 0):=by
     rw[CS];simp
    rw[e];exact p2 H1 (AH.refl H1)
   .exact p2.elim
  |tup ds=>
   obtain⟨q,xs,rfl,_,sq,r⟩:=r1.tup_of;refine⟨_,.inr (.inl ⟨xs,sq,rfl⟩),?_⟩;have e:xs.isEmpty=ds.isEmpty:=by
    have:=r.length;cases xs<;>cases ds<;>first|rfl|cases this
   rw[e];exact p1 H1 (AH.refl H1)
  |lst ds=>
   obtain⟨q,xs,rfl,sq,r⟩:=r1.lst_of;refine⟨_,.inl ⟨xs,sq,rfl⟩,?_⟩;have e:xs.isEmpty=ds.isEmpty:=by
    have:=r.length;cases xs<;>cases ds<;>first|rfl|cases this
   rw[e];exact p1 H1 (AH.refl H1)
  | _=>exact p1.elim⟩
noncomputable def eK(K:Fg)(CL:ClA)(H:Hp)(A:Ak->Prop)(cls:Ai)(dx:Aq Ak)(x:Ex):Prop:=
 ∃ C,CL x.c=Ab C/\cls=.ref C/\(x.fs=[]\/∃ d vs,dx=Ab d/\¬ A d/\H d=Ab (.xd vs)/\Repf K CL H A vs x.fs)
def Ic(K:Fg)(CL:ClA)(H:Hp)(cls:Ai)(dx:Aq Ak)(x:Ex):Prop:=∀ A,AOk H A->eK K CL H A cls dx x
end
def Cp(B:Ak->Prop)(Y:Rho)(U:L2.St):Ak->Prop:=λa=>B a\/∃(j:Ag)(d:D),Y[j]?=Ab (Ab (d,Aa))/\U[j]?=Ab (Ab (.ref a))
structure Sx (K:Fg) (CL:ClA) (Fz:Ak->HO->Prop) (B:Ak->Prop) (Y:Rho) (U:L2.St) (H:Hp):Prop where
 good:Good K CL (Cp B Y U) Y U H
 aok:AOk H (Cp B Y U)
 new:∀(j:Ag)(d:D)(a:Ak),Y[j]?=Ab (Ab (d,Aa))->U[j]?=Ab (Ab (.ref a))->(∀ o,¬ Fz a o)/\¬ B a
 dis:∀(i j:Ag)(d e:D)(a:Ak),Y[i]?=Ab (Ab (d,Aa))->Y[j]?=Ab (Ab (e,Aa))->U[i]?=Ab (Ab (.ref a))->U[j]?=Ab (Ab (.ref a))->i=j
 same:∀ b o,Fz b o->H b=Ab o
 len:Y.length=U.length
def CG(K:Fg)(CL:ClA)(Fz:Ak->HO->Prop)(B:Ak->Prop)(W:XW)(o:O)(D:Ends):Prop:=match o with
  |.next Y=>∀ U H,Sx K CL Fz B Y U H->D.nx U H
  |.brk Y=>∀ U H,Sx K CL Fz B Y U H->D.bk U H
  |.cont Y=>∀ U H,Sx K CL Fz B Y U H->D.ct U H
  |.ret d fr=>∀ v H,(∀ b o,Fz b o->H b=Ab o)->Rep K CL H B v d->(fr=Aa->∀ ds,d=.lst ds->∃ a xs,v=.ref a/\(∀ o,¬ Fz a o)/\H a=Ab (.lst xs)/\Reps K CL H (λb=>B b\/b=a) xs ds)->D.rt v H
  |.exn x _=>∀ H,(∀ b o,Fz b o->H b=Ab o)->W x H
  |.bad=>Bu
section
variable{K:Fg}{CL:ClA}{Fz Fy:Ak->HO->Prop}{B:Ak->Prop}{Y:Rho}{U:L2.St}{H H':Hp}
theorem Sx.mono(k:∀ b o,Fz b o->Fy b o)(x:Sx K CL Fy B Y U H):Sx K CL Fz B Y U H:=⟨x.good,x.aok,λj d a h1 h2=>⟨λo z=>(x.new j d a h1 h2).1 o (k _ _ z),(x.new j d a h1 h2).2⟩,x.dis,λb o z=>x.same b o (k _ _ z),x.len⟩
theorem Sx.grow(x:Sx K CL Fz B Y U H)(s:AH H H'):Sx K CL Fz B Y U H':=⟨x.good.same s,x.aok.same s,x.new,x.dis,λb o z=>s _ _ (x.same b o z),x.len⟩
theorem Dm{l:Ac α}{v:α}(h:i≠j):(l.set i v)[j]?=l[j]?:=by rw[GF h]
theorem HX{l:Ac α}{v w':α}(h:(l.set i v)[i]?=Ab w'):w'=v:=by
 rw[F3]at h;cases e:l[i]? with
 |none=>rw[e]at h;cases h
 |some x=>rw[e]at h;cases h;rfl
theorem Sx.set(x:Sx K CL Fz B Y U H){v:V}{d:D}(i:Ag)(r:Rep K CL H (Cp B Y U) v d):Sx K CL Fz B (Y.set i (Ab (d,Ae))) (U.set i (Ab v)) H:=by
 have own:∀(j:Ag)(e:D),(Y.set i (Ab (d,Ae)))[j]?=Ab (Ab (e,Aa))->i≠j/\Y[j]?=Ab (Ab (e,Aa)):=λj e h=>by
  by_cases hj:i=j
  .subst hj;have:=HX h;cases this
  .exact⟨hj,by rw[Dm hj]at h;exact h⟩
 have sub:∀ a,Cp B (Y.set i (Ab (d,Ae))) (U.set i (Ab v)) a->Cp B Y U a:=λa h=>by
  rcases h with h|⟨j,e,h1,h2⟩
  .exact .inl h
  .obtain⟨hj,h1⟩:=own j e h1;rw[Dm hj]at h2;exact .inr ⟨j,e,h1,h2⟩
 refine⟨⟨λj e h=>?_,λj e h=>?_,by rw[BH,BH];exact x.len⟩,λa h=>x.aok a (sub a h),λj e a h1 h2=>?_,λj k e f a h1 h2 h3 h4=>?_,x.same,by rw[BH,BH];exact x.len⟩
 .by_cases hj:i=j
  .subst hj;have e1:=HX h;cases e1;refine⟨v,?_,Rep.sub sub _ r⟩;have hl:i<U.length:=by
    rw[<-x.len];have:=(Bf.mp h).1;simpa using this
   rw[DB hl]
  .rw[Dm hj]at h;obtain⟨w',q,rw'⟩:=x.good.sh j e h;exact⟨w',by rw[Dm hj];exact q,Rep.sub sub _ rw'⟩
 .obtain⟨hj,h1⟩:=own j e h;obtain⟨a,o,q,ha,hh,rr⟩:=x.good.ow j e h1;exact⟨a,o,by rw[Dm hj];exact q,.inr ⟨j,e,h,by rw[Dm hj];exact q⟩,hh,rr.sub sub⟩
 .obtain⟨hj,h1⟩:=own j e h1;rw[Dm hj]at h2;exact x.new j e a h1 h2
 .obtain⟨hj,h1⟩:=own j e h1;obtain⟨hk,h2⟩:=own k f h2;rw[Dm hj]at h3;rw[Dm hk]at h4;exact x.dis j k e f a h1 h2 h3 h4
end
section
variable{X:Cx}{CL:ClA}{W:XW}{pos:AX}{e:Ao}{fe:Rho->R D}
def SS(X:Cx)(CL:ClA)(W:XW)(st:Bp)(f:Rho->O):Prop:=∀ Fz B,PS X st (λD U H=>∃ Y,Sx X.K CL Fz B Y U H/\CG X.K CL Fz B W (f Y) D)
def SSs(X:Cx)(CL:ClA)(W:XW)(st:Ac Bp)(f:Rho->O):Prop:=∀ Fz B,PSs X st (λD U H=>∃ Y,Sx X.K CL Fz B Y U H/\CG X.K CL Fz B W (f Y) D)
theorem PS.weak{e:Bp}{t t':TS}(h:PS X e t)(k:∀ D U H,t' D U H->t D U H):PS X e t':=λpI s U H D I q=>h pI s U H D I (k _ _ _ q)
theorem PSs.weak{e:Ac Bp}{t t':TS}(h:PSs X e t)(k:∀ D U H,t' D U H->t D U H):PSs X e t':=λpI s U H D I q=>h pI s U H D I (k _ _ _ q)
theorem CG.ex{f:D->O}(x:Sx X.K CL Fz B Y U H)(h:CG X.K CL Fz B W (O.of Y r f) D')(k:∀ d v H',r=.ok d->AH H H'->Rp H' v d->Sx X.K CL Fz B Y U H'->CG X.K CL Fz B W (f d) D'->Q v H'):Br Rp W H r Q:=by
 cases r with
 |ok d=>exact λv H' s r=>k d v H' rfl s r (x.grow s) h
 |exn y=>exact λH' s=>h H' λb o z=>s _ _ (x.same b o z)
 |bad=>exact h
theorem CG.exB{r:R Al}{f:Al->O}{Q:Al->Hp->Prop}(x:Sx X.K CL Fz B Y U H)(h:CG X.K CL Fz B W (O.of Y r f) D')(k:∀ b H',r=.ok b->AH H H'->Sx X.K CL Fz B Y U H'->CG X.K CL Fz B W (f b) D'->Q b H'):DG W H r Q:=by
 cases r with
 |ok d=>exact λH' s=>k d H' rfl s (x.grow s) h
 |exn y=>exact λH' s=>h H' λb o z=>s _ _ (x.same b o z)
 |bad=>exact h
theorem oG(he:SE X CL W e fe)(hs:DQ e Af pos.line X.env=pure Ae):SS X CL W (.Expr e pos) (λY=>O.of Y (fe Y) λ_=>.next Y):=λFz B pI s U H D I ⟨Y,x,p⟩=>
 Mw (he (Cp B Y U)) hs pI s U H D I ⟨x.aok,Y,x.good,CG.ex x p λd v H' _ s r x' q=>q U H' x'⟩
theorem oD(he:SE X CL W e fe):SS X CL W (.Return (Ab e) pos) (λY=>O.of Y (fe Y) λd=>.ret d Ae):=λFz B pI s U H D I ⟨Y,x,p⟩=>
 Rg (he (Cp B Y U)) pI s U H D I ⟨x.aok,Y,x.good,CG.ex x p λd v H' _ s r x' q=>q v H' x'.same (Rep.sub (λa h=>.inl h) _ r) λz=>nomatch z⟩
theorem W3{a b:Ac Bp}{fa fb:Rho->O}(hc:SB X CL W c fc)(ha:SSs X CL W a fa)(hb:SSs X CL W b fb):SS X CL W (.If c a b pos) (λY=>O.of Y (fc Y) λk=>if k=Aa then fa Y else fb Y):=λFz B pI s U H D I ⟨Y,x,p⟩=>
 mj (hc (Cp B Y U)) (ha Fz B) (hb Fz B) pI s U H D I ⟨x.aok,Y,x.good,CG.exB x p λk H' _ s x' q=>by
  cases k with
  |true=>exact⟨Y,x',q⟩
  | false=>exact⟨Y,x',q⟩⟩
theorem mW(g:Good K CL A Y U H):Good K CL (λ_=>Bu) (shA Y) U H:=by
 have nz:∀ a:Ak,(λ_:Ak=>Bu) a->A a:=λ_ z=>z.elim
 refine⟨λi d e=>?_,λi d e=>?_,by rw[shA,AV];exact g.len⟩
 .rw[shA,C0]at e;cases q:Y[i]? with
  |none=>rw[q]at e;cases e
  |some s=>
   rw[q]at e;have e':shS s=Ab (d,Ae):=BN e;cases s with
   |none=>cases e'
   |some z=>
    obtain⟨x,b⟩:=z;cases b with
    |false=>
     cases e';obtain⟨v,h1,h2⟩:=g.sh i _ q;exact⟨v,h1,Rep.sub nz _ h2⟩
    |true=>
     cases x with
     |lst ds=>
      cases e';obtain⟨a,xs,ds',h1,h2,na,h3,h4⟩:=g.owL q;cases h2;exact⟨.ref a,h1,a,xs,rfl,.inl λz=>z,.inl (.inl h3),Reps.sub nz _ h4⟩
     |_=>cases e'
 .rw[shA,C0]at e;cases q:Y[i]? with
  |none=>rw[q]at e;cases e
  |some s=>
   rw[q]at e;have e':shS s=Ab (d,Aa):=BN e;cases s with
   |none=>cases e'
   |some z=>
    obtain⟨x,b⟩:=z;cases b with
    |false=>cases e'
    |true=>cases x<;>cases e'
theorem rM(hc:SB X CL W c fc):SB X CL W c (λY=>fc (shA Y)):=λA=>PT.weak (hc λ_=>Bu) λU H Q ⟨hA,Y,g,p⟩=>⟨λ_ z=>z.elim,shA Y,mW g,p⟩
theorem oB:SSs X CL W [] (λY=>.next Y):=λFz B=>PSs.weak pU λD U H ⟨Y,x,p⟩=>p U H x
theorem jS{st:Bp}{rest:Ac Bp}{f g:Rho->O}(h1:SS X CL W st f)(h2:SSs X CL W rest g):SSs X CL W (st::rest) (λY=>(f Y).seq g):=λFz B=>PSs.weak (mP (h1 Fz B) (h2 Fz B)) λD U H ⟨Y,x,p⟩=>⟨Y,x,by
 dsimp only at p;cases e:f Y with
 |next Y'=>rw[e]at p;exact λU' H' x'=>⟨Y',x',p⟩
 |ret d b=>rw[e]at p;exact p
 |brk Y'=>rw[e]at p;exact p
 |cont Y'=>rw[e]at p;exact p
 |exn y Y'=>rw[e]at p;exact p
 | bad=>rw[e]at p;exact p⟩
end
def Js(K:Fg)(CL:ClA)(A:Ak->Prop)(ds:Ac D)(J:It)(H1:Hp):Prop:=∀ H,Kp A H1 H->∀ i:Ag,(ds.length<=i->J.stop i H)/\∀ d,ds[i]?=Ab d->J.go i H/\∀ x H',J.yld i H x H'->AH H H'/\∀ B,(∀ a,B a->A a\/H1 a=Af)->AOk H B->Rep K CL H' B x d
def Fv(K:Fg)(CL:ClA)(A:Ak->Prop)(W:XW)(H:Hp)(r:R (Ac D))(Q:It->Hp->Prop):Prop:=match r with
  |.ok ds=>∀ J H',AH H H'->Js K CL A ds J H'->ds.length<=sizeLine->Q J H'
  |.exn x=>∀ H',AH H H'->W x H'
  |.bad=>Bu
def SI(X:Cx)(CL:ClA)(W:XW)(tg iter:Ao)(f:Rho->R (Ac D)):Prop:=∀ A,PI X tg iter (λU H R=>AOk H A/\∃ Y,Good X.K CL A Y U H/\Fv X.K CL A W H (f Y) R)
theorem PI.weak{t t':TI}(h:PI X tg e t)(k:∀ U H Q,t' U H Q->t U H Q):PI X tg e t':=λpI s U H Q I q=>h pI s U H Q I (k _ _ _ q)
section
variable{X:Cx}{CL:ClA}{W:XW}{pos p:AX}{tg e a b:Ao}{fe fa fb:Rho->R D}
theorem Fv.ex{f:D->R (Ac D)}{Q:It->Hp->Prop}{Q':VK}(h:Fv X.K CL A W H (r.bind f) Q)(k:∀ d v H',r=.ok d->AH H H'->Rp H' v d->Fv X.K CL A W H' (f d) Q->Q' v H'):Br Rp W H r Q':=by
  cases r with
  | ok d=>exact λv H' s q=>k d v H' rfl s q (by
      have h':Fv X.K CL A W H (f d) Q:=h;cases e:f d with
      |ok ds=>rw[e]at h';exact λJ H2 s2 y z=>h' J H2 (s.trans s2) y z
      |exn y=>rw[e]at h';exact λH2 s2=>h' H2 (s.trans s2)
      | bad=>rw[e]at h';exact h')
  |exn y=>exact h
  |bad=>exact h
theorem Mk{x:V}(r:Rep K CL H1 A x d)(k:Kp A H1 H)(hB:∀ a,B a->A a\/H1 a=Af):Rep K CL H B x d:=by
 have r1:Rep K CL H1 (λa=>A a\/B a) x d:=Rep.wide (λa ha=>ha.elim .inl (hB a)) _ r
 have r2:Rep K CL H (λa=>A a\/B a) x d:=Rep.kp (λb o e na=>k b o e λz=>na (.inl z)) _ r1
 exact Rep.sub (λa ha=>.inr ha) _ r2
theorem gL{ds:Ac D}(na:¬ A q\/KL K q xs)(s:SqL K H q xs)(r:Reps K CL H A xs ds):Js K CL A ds (Itl K q) H:=λH' k i=>by
 have s':=NS k na s;refine⟨λh=>⟨xs,s',by rw[r.length];exact h⟩,λd hd=>?_⟩
 obtain⟨v,hv,rv⟩:=r.get hd;exact⟨⟨xs,v,s',hv⟩,λx H2 ⟨e,y⟩=>by
  subst e;have:=y xs s';rw[hv]at this;cases this;exact⟨AH.refl _,λB hB _=>Mk rv k hB⟩⟩
theorem kF{ds:Ac D}(na:¬ A q\/KT K q xs)(s:SqT K H q xs)(r:Reps K CL H A xs ds):Js K CL A ds (Itt K q) H:=λH' k i=>by
 have s':=MI k na s;refine⟨λh=>⟨xs,s',by rw[r.length];exact h⟩,λd hd=>?_⟩
 obtain⟨v,hv,rv⟩:=r.get hd;exact⟨⟨xs,v,s',hv⟩,λx H2 ⟨e,y⟩=>by
  subst e;have:=y xs s';rw[hv]at this;cases this;exact⟨AH.refl _,λB hB _=>Mk rv k hB⟩⟩
theorem Ui(lo:Ad)(n:Ag):Js K CL A (CJ lo n) (Itr lo n) H:=λH' k i=>by
 refine⟨λh=>by rw[Mj]at h;exact h,λd hd=>?_⟩
 obtain⟨h1,rfl⟩:=QB hd;exact⟨h1,λx H2 ⟨e,y⟩=>by
  subst e y;exact⟨AH.refl _,λ_ _ _=>rfl⟩⟩
theorem ak{l:Ao}{tl:TE}(hl:PE X l tl):PI X tg l (λU H R=>tl U H λx H1=>(∃ a,x=.ref a/\(∃ xs,SqL X.K H1 a xs/\(xs.length<=sizeLine->R (Itl X.K a) H1)))\/∃ a,x=.ref a/\(∃ xs,SqT X.K H1 a xs/\(xs.length<=sizeLine->R (Itt X.K a) H1))):=by
 intro pI s U H R I h;refine thn (hl pI s U H _ I h) λv s1 ⟨x,H1,I1,r1,q1⟩=>?_
 rcases q1 with ⟨a,e,xs,hq,q⟩|⟨a,e,xs,hq,q⟩
 .subst e;cases r1;obtain⟨its,rv,p,hz⟩:=I1.list hq;refine E6 p.isList ?_;refine⟨s1.heap.objs.size,[s1.heap.objs.size],_,_,H1,rfl,I1.kept (t':=s1.toks) λb o e=>Ar _ e,gX a _,⟨_,Ay _ rfl,rfl,rfl⟩,λb hb=>?_,q hz⟩
  have e:b=s1.heap.objs.size:=by simpa using hb
  subst e;exact I1.fpOk (A1 _) (I1.hok.fresh (A1 _))
 .subst e;cases r1;obtain⟨its,rv,p,hz⟩:=I1.tuple hq;refine FU (show s1.heap.IsTuple a its.toArray from p) ?_
  refine⟨s1.heap.objs.size,[s1.heap.objs.size],_,_,H1,rfl,I1.kept (t':=s1.toks) λb o e=>Ar _ e,gM a _,⟨_,Ay _ rfl,rfl,rfl⟩,λb hb=>?_,q hz⟩
  have e:b=s1.heap.objs.size:=by simpa using hb
  subst e;exact I1.fpOk (A1 _) (I1.hok.fresh (A1 _))
theorem eA(he:SE X CL W e fe):SI X CL W tg e (λY=>(fe Y).bind Ch):=λA=>PI.weak (ak (he A)) λU H R ⟨hA,Y,g,p⟩=>⟨hA,Y,g,Fv.ex p λd v H1 _ s1 r1 p1=>by
 cases d with
 |lst ds=>
  obtain⟨q,xs,rfl,na,sq,r⟩:=r1;exact .inl ⟨q,rfl,xs,sq,λhz=>p1 _ H1 (AH.refl H1) (gL na sq r) (by rw[<-r.length];exact hz)⟩
 |tup ds=>
  obtain⟨q,xs,rfl,na,sq,r⟩:=r1;exact .inr ⟨q,rfl,xs,sq,λhz=>p1 _ H1 (AH.refl H1) (kF na sq r) (by rw[<-r.length];exact hz)⟩
 | _=>exact p1.elim⟩
theorem TR{lo hi:Ad}{ds:Ac D}(h:CF lo hi=.ok ds):(-(2 ^ 62)<=lo/\lo<2 ^ 62)/\(-(2 ^ 62)<=hi/\hi<2 ^ 62)/\ds=CJ lo (hi-lo).toNat/\(CJ lo (hi-lo).toNat).length<=sizeLine:=by
 unfold CF at h;split at h
 .rename_i q;cases h;exact⟨by omega,by omega,rfl,by rw[Mj,E1];omega⟩
 .cases h
theorem Ti{lo hi:Ad}(h:CF lo hi=.exn x):Bu:=by
 unfold CF at h;split at h<;>cases h
theorem yC(ha:ST X CL W a fa)(hg:Gl X "range")(hm:X.mg "range" = Af)(hs:AB [a] X.env=[(Ae,eval a X.env)]):SI X CL W tg (.Call (.Name "range" p) [a] [] pos) (λY=>(fa Y).bind λx=>(Fu x).bind λj=>CF 0 j):=
 λA=>PI.weak (jN hg hm (Fe (ha A) Hc hs) hs) λU H R ⟨hA,Y,g,q⟩=>⟨hA,Y,g,Fv.ex q λd v H1 _ s1 r1 p1=>by
  cases d with
  |int j=>
   have e:=r1.int_of;subst e;have p2:Fv X.K CL A W H1 (CF 0 j) R:=p1;cases e2:CF 0 j with
   |ok ds=>
    rw[e2]at p2;obtain⟨_,h2,rfl,hz⟩:=TR e2;exact⟨j,rfl,h2.1,h2.2,p2 _ H1 (AH.refl H1) (by rw[E7];exact Ui 0 j.toNat) hz⟩
   |exn y=>exact(Ti e2).elim
   |bad=>rw[e2]at p2;exact p2.elim
  | _=>exact p1.elim⟩
theorem rF(ha:ST X CL W a fa)(hb:ST X CL W b fb)(hg:Gl X "range")(hm:X.mg "range" = Af)(hs:AB [a,b] X.env=[(Ae,eval a X.env),(Ae,eval b X.env)])(hs2:AB [b] X.env=[(Ae,eval b X.env)]):
  SI X CL W tg (.Call (.Name "range" p) [a,b] [] pos) (λY=>(fa Y).bind λx=>(fb Y).bind λy=>(Fu x).bind λi=>(Fu y).bind λj=>CF i j):=
 λA=>PI.weak (jM hg hm (Fe (ha A) (Fe (hb A) Hc hs2) (by rw[hs,hs2])) hs hs2) λU H R ⟨hA,Y,g,q⟩=>⟨hA,Y,g,Fv.ex q λd v H1 _ s1 r1 p1=>⟨hA.same s1,Y,g.same s1,Fv.ex p1 λd2 v2 H2 _ s2 r2 p2=>by
  cases d with
  |int i=>
   cases d2 with
   |int j=>
    have e:=r1.int_of;have e':=r2.int_of
    subst e e';have p3:Fv X.K CL A W H2 (CF i j) R:=p2;cases e2:CF i j with
    |ok ds=>
     rw[e2]at p3;obtain⟨h1,h2,rfl,hz⟩:=TR e2;exact⟨i,j,rfl,⟨h1.1,h1.2,h2.1,h2.2⟩,p3 _ H2 (AH.refl H2) (Ui _ _) hz⟩
    |exn y=>exact(Ti e2).elim
    |bad=>rw[e2]at p3;exact p3.elim
   |_=>exact p2.elim
  | _=>exact p2.elim⟩⟩
theorem CG.exI{r:R (Ac D)}{f:Ac D->O}{Q:It->Hp->Prop}(x:Sx X.K CL Fz B Y U H)(h:CG X.K CL Fz B W (O.of Y r f) D')(k:∀ ds J H',r=.ok ds->AH H H'->Js X.K CL A ds J H'->ds.length<=sizeLine->Sx X.K CL Fz B Y U H'->CG X.K CL Fz B W (f ds) D'->Q J H'):Fv X.K CL A W H r Q:=by
 cases r with
 |ok d=>exact λJ H' s y z=>k d J H' rfl s y z (x.grow s) h
 |exn y=>exact λH' s=>h H' λb o z=>s _ _ (x.same b o z)
 |bad=>exact h
theorem CG.turn{Fy:Ak->HO->Prop}{o:O}{g:Rho->O}{N:L2.St->Hp->Prop}(hf:∀ b q,Fz b q->Fy b q)(h:CG K CL Fz B W (o.turn g) D')(k:∀ Y' U' H',Sx K CL Fy B Y' U' H'->CG K CL Fz B W (g Y') D'->N U' H'):CG K CL Fy B W o {D' with nx:=N,ct:=N,bk:=D'.nx}:=by
 cases o with
 |next Y'=>exact λU' H' x=>k Y' U' H' x h
 |cont Y'=>exact λU' H' x=>k Y' U' H' x h
 |brk Y'=>exact λU' H' x=>h U' H' (x.mono hf)
 |ret d b=>exact λv H' s r n=>h v H' (λb o z=>s b o (hf b o z)) r λz ds e=>let ⟨a,xs,h1,h2,h3⟩:=n z ds e;⟨a,xs,h1,λo q=>h2 o (hf a o q),h3⟩
 |exn y Y'=>exact λH' s=>h H' (λb o z=>s b o (hf b o z))
 |bad=>exact h
noncomputable def FV(ts:Ac Ag)(Y:Rho):Rho:=ts.foldl (λY t=>Y.set t Af) Y
def GT(K:Fg)(CL:ClA)(as:D->Rho->R Rho)(g:TG):Prop:=∀ Fz B Y U H v d Y' Q,Sx K CL Fz B Y U H->Rep K CL H (Cp B Y U) v d->as d Y=.ok Y'->(∀ U',Sx K CL Fz B Y' U' H->Q U' H)->g v U H Q
theorem uZ(i:Ag):GT K CL (λd Y=>.ok (Y.set i (Ab (d,Ae)))) (F8 i):=λFz B Y U H v d Y' Q x r e k=>by
 cases e;exact k _ (x.set i r)
theorem Wg{K:Fg}{Fz:Ak->HO->Prop}{B:Ak->Prop}{H:Hp}:∀(ts:Ac Ag)(ds:Ac D)(vs:Ac V)(Y Y':Rho)(U:L2.St)(Q:L2.St->Hp->Prop),Sx K CL Fz B Y U H->Reps K CL H (Cp B Y U) vs ds->Ff ts ds Y=Ab Y'->(∀ U',Sx K CL Fz B Y' U' H->Q U' H)->(ts.foldr (λt u=>Jn (F8 t) u) Jr) vs U H Q
 |[],[],[],Y,Y',U,Q,x,_,e,k=>by
  cases e;exact⟨rfl,k U x⟩
 |t::ts,d::ds,v::vs,Y,Y',U,Q,x,r,e,k=>by
  refine⟨v,vs,rfl,Wg ts ds vs _ Y' _ Q (x.set t r.1) (Reps.sub (λa ha=>?_) ds r.2) e k⟩
  rcases ha with ha|⟨j,c,h1,h2⟩
  .exact .inl ha
  .by_cases hj:t=j
   .subst hj;have:=HX h1;cases this
   .rw[Dm hj]at h1 h2;exact .inr ⟨j,c,h1,h2⟩
 |[],_::_,_,_,_,_,_,_,_,e,_=>by cases e
 |_::_,[],_,_,_,_,_,_,_,e,_=>by cases e
 |[],[],_::_,_,_,_,_,_,r,_,_=>r.elim
 |_::_,_::_,[],_,_,_,_,_,r,_,_=>r.elim
theorem PH:∀(ts:Ac Ag)(ds:Ac D)(Y Y':Rho),Ff ts ds Y=Ab Y'->ds.length=ts.length
 |[],[],_,_,_=>rfl
 |_::ts,_::ds,_,_,e=>congrArg (· + 1) (PH ts ds _ _ e)
 |[],_::_,_,_,e=>by cases e
 |_::_,[],_,_,e=>by cases e
theorem dq(ts:Ac Ag):GT K CL (F7 ts) (MU K ts.length (ts.foldr (λt u=>Jn (F8 t) u) Jr)):=λFz B Y U H v d Y' Q x r e k=>by
 cases d with
 |tup ds=>
  obtain⟨a,xs,rfl,na,sq,rs⟩:=r;rw[Tr]at e;cases e2:Ff ts ds Y with
  |none=>rw[e2]at e;cases e
  |some Y2=>
   rw[e2]at e;cases e;exact⟨a,xs,rfl,sq,by rw[rs.length];exact PH _ _ _ _ e2,Wg ts ds xs Y _ U Q x rs e2 k⟩
 |_=>cases e
theorem Wp{g:TG}(hp:Fj (model X.prog X.w) X.A X.env X.xe)(hc:X.calm=Aa)(hGT:GT X.K CL as g)(hg:PG X tg g)(hit:SI X CL W tg iter fi)(hb:SSs X CL W body fbd)(hs:∀ x,Dr iter X.env x=pure x)(hax:∀ d Y x,as d Y≠.exn x):SS X CL W (.For tg iter body [] pos) (λY=>O.of Y (fi Y) λxs=>B5 (λx Y'=>O.of Y' (as x Y') fbd) xs Y):=λFz B pI s U H D I ⟨Y,x,p⟩=>by
 refine aa hp hc (hit (Cp B Y U)) hg (tb:=λD U H=>∃ Fy,(λD U H=>∃ Y,Sx X.K CL Fy B Y U H/\CG X.K CL Fy B W (fbd Y) D) D U H) (λpI s U H D I ⟨Fy,q⟩=>hb Fy B pI s U H D I q) hs pI s U H D I ⟨x.aok,Y,x.good,CG.exI x p λds J H1 _ s1 y _ x1 q=>?_⟩
 let Fy:Ak->HO->Prop:=λb o=>H1 b=Ab o/\¬ ∃(j:Ag)(d:Ov.D),Y[j]?=Ab (Ab (d,Aa))/\U[j]?=Ab (Ab (.ref b))
 have hfy:∀ b o,Fz b o->Fy b o:=λb o z=>⟨x1.same b o z,λ⟨j,d,h1,h2⟩=>(x1.new j d b h1 h2).1 o z⟩
 have xy:Sx X.K CL Fy B Y U H1:=⟨x1.good,x1.aok,λj d a h1 h2=>⟨λo z=>z.2 ⟨j,d,h1,h2⟩,(x1.new j d a h1 h2).2⟩,x1.dis,λb o z=>z.1,x1.len⟩
 refine⟨λk m U' H'=>m=ds.length-k/\k<=ds.length/\∃ Y',Sx X.K CL Fy B Y' U' H'/\CG X.K CL Fz B W (B5 (λx Y'=>O.of Y' (as x Y') fbd) (ds.drop k) Y') D,⟨ds.length,by simp,Gh _,Y,xy,q⟩,?_⟩
 rintro k m U' H' ⟨rfl,hk,Y',x',q'⟩;have kp:Kp (Cp B Y U) H1 H':=λb o e na=>x'.same b o ⟨e,λz=>na (.inr z)⟩
 obtain⟨yst,ygo⟩:=y H' kp k;by_cases hlt:k<ds.length
 .have hd:ds[k]?=Ab ds[k]:=Cm hlt;obtain⟨hgo,hyl⟩:=ygo _ hd;refine .inr ⟨hgo,λU'' H''=>∃ Y'',Sx X.K CL Fy B Y'' U'' H''/\CG X.K CL Fz B W (B5 (λx Y'=>O.of Y' (as x Y') fbd) (ds.drop (k+1)) Y'') D,λU'' H'' z=>⟨ds.length-(k+1),by omega,rfl,hlt,z⟩,λv H2 hv=>?_⟩
  obtain⟨e2,rv⟩:=hyl v H2 hv;rw[Yg hlt]at q';have q2:CG X.K CL Fz B W ((O.of Y' (as ds[k] Y') fbd).turn (B5 (λx Y'=>O.of Y' (as x Y') fbd) (ds.drop (k+1)))) D:=q'
  have rv':Rep X.K CL H2 (Cp B Y' U') v ds[k]:=rv _ (λa ha=>by
    rcases ha with ha|⟨j,d,h1,h2⟩
    .exact .inl (.inl ha)
    .cases e:H1 a with
     |none=>exact .inr rfl
     |some o=>
      by_cases ho:∃(j:Ag)(d:Ov.D),Y[j]?=Ab (Ab (d,Aa))/\U[j]?=Ab (Ab (.ref a))
      .exact .inl (.inr ho)
      .exact absurd ⟨e,ho⟩ ((x'.new j d a h1 h2).1 o)) x'.aok
  cases ea:as ds[k] Y' with
  |bad=>rw[ea]at q2;exact q2.elim
  |exn z=>exact absurd ea (hax _ _ z)
  |ok Y2=>
   rw[ea,O.of_ok]at q2;exact hGT Fy B Y' U' H2 v ds[k] Y2 _ (x'.grow e2) rv' ea λU3 x3=>⟨Fy,Y2,x3,CG.turn hfy q2 λY3 U3 H3 x3 q3=>⟨Y3,x3,q3⟩⟩
 .have hk':ds.length<=k:=by omega
  rw[Yh hk']at q';exact .inl ⟨yst hk',q' U' H' (x'.mono hfy)⟩
theorem jT(n:Ag)(hp:Fj (model X.prog X.w) X.A X.env X.xe)(hc:SB X CL W c fc)(hb:SSs X CL W body fbd):SS X CL W (.While c body [] pos) (λY=>Fw fc fbd n Y):=λFz B pI s U H D I ⟨Y,x,p⟩=>by
 refine mQ hp (tc:=λU H Q=>∃ A,AOk H A/\∃ Y,Good X.K CL A Y U H/\DG W H (fc Y) Q) (λpI s U H Q I ⟨A,q⟩=>hc A pI s U H Q I q) (hb Fz B) pI s U H D I ⟨λm U' H'=>∃ Y',Sx X.K CL Fz B Y' U' H'/\CG X.K CL Fz B W (Fw fc fbd m Y') D,⟨n,Y,x,p⟩,?_⟩
 rintro m U' H' ⟨Y',x',q⟩;cases m with
 |zero=>exact q.elim
 |succ m=>
  refine⟨Cp B Y' U',x'.aok,Y',x'.good,CG.exB x' (f:=λb=>if b=Aa then (fbd Y').turn (Fw fc fbd m) else .next Y') (D':=D) (by rw[Fw]at q;exact q) λb H1 _ s1 x1 q1=>?_⟩
  cases b with
  |false=>exact q1 U' H1 x1
  |true=>
   refine⟨λU'' H''=>∃ Y'',Sx X.K CL Fz B Y'' U'' H''/\CG X.K CL Fz B W (Fw fc fbd m Y'') D,λU'' H'' z=>⟨m,by omega,z⟩,Y',x1,CG.turn (λ_ _ z=>z) q1 λY3 U3 H3 x3 q3=>⟨Y3,x3,q3⟩⟩
end
section
variable{X:Cx}{CL:ClA}{W:XW}{a b c:Ao}{fa fb fc:Rho->R D}{pos:AX}
noncomputable def tyK:Ki->Aq Dp
 |.int=>Ab "int"
 |.bool=>Ab "bool"
 |.str=>Ab "str"
 |.list=>Ab "list"
 |.tuple=>Ab "tuple"
 |_=>Af
noncomputable def Rh:D->Al
 |.obj _ _=>Ae
 |.exc _ _=>Ae
 |.dic _=>Ae
 |_=>Aa
theorem io{k:Ki}{Q:Vq}{E:Vq}(I:Inv X pI U H s)(r:C4 X.K CL H A v d)(q:BP v u)(hT:tyK k=Ab T)(hd:Rh d=Aa)(h:∀ s',Inv X pI U H s'->Q (.bool (kiD up k d)) s'):
  Az (model X.prog X.w) X.A (call (.builtin "isinstance") [u,.type T]) Q E s:=by
 have r':=r.plain;have it:=λt=>h _ (I.tok t)
 cases d with
 |obj=>cases hd
 |exc=>cases hd
 |dic=>cases hd
 |non=>
  cases r';cases q;cases k<;>simp only[tyK]at hT<;>cases hT
  .exact IsiPair.NoneType_int (it _)
  .exact IsiPair.NoneType_bool (it _)
  .exact IsiPair.NoneType_str (it _)
  .exact IsiPair.NoneType_list (it _)
  .exact IsiPair.NoneType_tuple (it _)
 |bl b=>
  cases r';cases q;cases k<;>simp only[tyK]at hT<;>cases hT
  .exact IsiPair.bool_int (h _ I)
  .exact IsiPair.bool_bool (h _ I)
  .exact IsiPair.bool_str (it _)
  .exact IsiPair.bool_list (it _)
  .exact IsiPair.bool_tuple (it _)
 |int i=>
  cases r';obtain⟨t,rfl⟩:=q;cases k<;>simp only[tyK]at hT<;>cases hT
  .exact IsiPair.int_int (h _ I)
  .exact IsiPair.int_bool (it _)
  .exact IsiPair.int_str (it _)
  .exact IsiPair.int_list (it _)
  .exact IsiPair.int_tuple (it _)
 |str x=>
  cases r';obtain⟨t,rfl⟩:=q;cases k<;>simp only[tyK]at hT<;>cases hT
  .exact IsiPair.str_int (it _)
  .exact IsiPair.str_bool (it _)
  .exact IsiPair.str_str (h _ I)
  .exact IsiPair.str_list (it _)
  .exact IsiPair.str_tuple (it _)
 |tup ds=>
  obtain⟨p,xs,rfl,_,sq,rr⟩:=r';obtain⟨its,rv,pt,_⟩:=I.tuple sq;cases q;have pt':s.heap.IsTuple p its.toArray:=pt;cases k<;>simp only[tyK]at hT<;>cases hT
  .exact IsiPair.isTuple_int pt' (λ_ _ e=>e) (it _)
  .exact IsiPair.isTuple_bool pt' (λ_ _ e=>e) (it _)
  .exact IsiPair.isTuple_str pt' (λ_ _ e=>e) (it _)
  .exact IsiPair.isTuple_list pt' (λ_ _ e=>e) (it _)
  .exact IsiPair.isTuple_tuple pt' (λ_ _ e=>e) (h _ I)
 |lst ds=>
  obtain⟨p,xs,rfl,_,sq,rr⟩:=r';obtain⟨its,rv,pl,_⟩:=I.list sq;cases q;have pt':s.heap.IsList p its.toArray:=IA pl;cases k<;>simp only[tyK]at hT<;>cases hT
  .exact IsiPair.isList_int pt' (λ_ _ e=>e) (it _)
  .exact IsiPair.isList_bool pt' (λ_ _ e=>e) (it _)
  .exact IsiPair.isList_str pt' (λ_ _ e=>e) (it _)
  .exact IsiPair.isList_list pt' (λ_ _ e=>e) (h _ I)
  .exact IsiPair.isList_tuple pt' (λ_ _ e=>e) (it _)
theorem jD{k:Ki}(hT:tyK k=Ab T)(p:Br Rp W H (Ih up [k] d) Q):Rh d=Aa/\Br Rp W H (.ok (.bl (kiD up k d))) Q:=by
 cases k<;>simp only[tyK]at hT<;>cases hT<;>cases d<;>first|exact p.elim|exact⟨rfl,by simpa using p⟩
theorem yJ{k:Ki}{x:An}(hT:tyK k=Ab T)(hg:Gl X "isinstance")(hm:X.mg "isinstance" = Af)(hg2:Gl X x)(hm2:X.mg x=Af)(hv:DE x=Ab (.type T))(hn:x≠"__name__")(hdb:(x==("__debug__" : An))=Ae)(ha:ST X CL W a fa)(he:AB [a,.Name x p2] X.env=(Ae,eval a X.env)::AB [.Name x p2] X.env):SE X CL W (.Call (.Name "isinstance" p) [a,.Name x p2] [] pos) (λY=>(fa Y).bind λx=>Ih up [k] x):=λA=>
 PE.weak (UT (r:=λxs H Q=>∃ y d,xs=[y,.ty T]/\C4 X.K CL H A y d/\Rh d=Aa/\Q (.bl (kiD up k d)) H) (λpI s U H xs us Q I r ⟨y,d,e,ry,hd,q⟩=>by
   subst e;obtain⟨u,w',rfl,r1,r2⟩:=Rt r;cases r2;exact io I ry r1 hT hd λs' I'=>⟨.bl _,H,I',rfl,q⟩)
  hg hm boot_isinstance (Fe (ha A) (Fe (sW (v:=.ty T) hg2 hm2 hv rfl hn hdb) Hc rfl) he) (by decide) (by decide) he rfl) λU H Q ⟨hA,Y,g,q⟩=>⟨hA,Y,g,Br.bind q λd v H1 _ s1 r1 p1=>by
   obtain⟨hd,p2⟩:=jD hT p1;exact⟨v,d,rfl,r1,hd,p2 _ H1 (AH.refl H1) rfl⟩⟩
theorem QV{b:Al}{A':Bc}{E:Vq}{Q:Al->As->Prop}(r:Rep X.K CL H A v d)(q:BP v u)(h:EO d=.ok b)(hq:Q b s):Az (model prog w) A' (truthy u) Q E s:=by
 cases d with
 |non=>
  cases r;cases q;cases h;exact truthy_none hq
 |bl k=>
  cases r;cases q;cases h;exact C1 hq
 |int i=>
  cases r;obtain⟨t,rfl⟩:=q;cases h;exact truthy_int hq
 |_=>cases h
theorem Tv:∀{ds:Ac D}{b:Al},GA ds=.ok b->(∀ j,j<ds.length->∃ c,EO (ds.getD j .non)=.ok c)/\b=(AZ ds.length).all λj=>match EO (ds.getD j .non) with
  |.ok c=>c
  |_=>Ae
 |[],b,h=>by cases h;exact⟨λj hj=>absurd hj (GJ _),rfl⟩
 |d::ds,b,h=>by
  rw[Qm]at h;cases e:EO d with
  |bad=>rw[e]at h;cases h
  |exn x=>rw[e]at h;cases h
  |ok c=>
   rw[e,R.bind_ok]at h;cases e2:GA ds with
   |bad=>rw[e2]at h;cases h
   |exn x=>rw[e2]at h;cases h
   |ok c2=>
    rw[e2,R.bind_ok]at h;cases h;obtain⟨h1,h2⟩:=Tv e2;refine⟨λj hj=>?_,?_⟩
    .cases j with
     |zero=>exact⟨c,e⟩
     |succ j=>exact h1 j (by simpa using hj)
    .rw[Bl,S4,h2];show (c&&_)=((match EO d with | .ok c=>c|_=>Ae)&&_)
     rw[e];rfl
theorem Tu:∀{ds:Ac D}{b:Al},Ga ds=.ok b->(∀ j,j<ds.length->∃ c,EO (ds.getD j .non)=.ok c)/\b=(AZ ds.length).any λj=>match EO (ds.getD j .non) with
  |.ok c=>c
  |_=>Ae
 |[],b,h=>by cases h;exact⟨λj hj=>absurd hj (GJ _),rfl⟩
 |d::ds,b,h=>by
  rw[Ts]at h;cases e:EO d with
  |bad=>rw[e]at h;cases h
  |exn x=>rw[e]at h;cases h
  |ok c=>
   rw[e,R.bind_ok]at h;cases e2:Ga ds with
   |bad=>rw[e2]at h;cases h
   |exn x=>rw[e2]at h;cases h
   |ok c2=>
    rw[e2,R.bind_ok]at h;cases h;obtain⟨h1,h2⟩:=Tu e2;refine⟨λj hj=>?_,?_⟩
    .cases j with
     |zero=>exact⟨c,e⟩
     |succ j=>exact h1 j (by simpa using hj)
    .rw[Bl,EZ,Go,Yb,h2];show (c||_)=((match EO d with | .ok c=>c|_=>Ae)||_)
     rw[e];rfl
theorem Um:∀(ds:Ac D)(a z:Ad),HA a ds=.ok z->(∀ j,j<ds.length->∃ i,ds.getD j .non=.int i)/\z=a+JM (λj=>match ds.getD j .non with
  |.int i=>i
  | _=>0) ds.length
 |[],a,z,h=>by cases h;exact⟨λj hj=>absurd hj (GJ _),by simp[JM]⟩
 |.int i::ds,a,z,h=>by
  obtain⟨h1,h2⟩:=Um ds (a+i) z h;refine⟨λj hj=>?_,?_⟩
  .cases j with
   |zero=>exact⟨i,rfl⟩
   |succ j=>exact h1 j (by simpa using hj)
  .have key:∀ n,JM (λj=>match (D.int i::ds).getD j .non with | .int i=>i|_=>0) (n+1)=i+JM (λj=>match ds.getD j .non with | .int i=>i|_=>0) n:=by
    intro n
    induction n with
    |zero=>show (0:Ad)+i=i+0;omega
    |succ n ih=>
     show JM _ (n+1)+(match ds.getD n .non with | .int i=>i|_=>0)=i+(JM _ n+(match ds.getD n .non with | .int i=>i|_=>0))
     rw[ih];omega
   rw[h2,Bl,key];omega
 |.non::_,_,_,h=>by cases h
 |.bl _::_,_,_,h=>by cases h
 |.str _::_,_,_,h=>by cases h
 |.tup _::_,_,_,h=>by cases h
 |.lst _::_,_,_,h=>by cases h
 |.obj _ _::_,_,_,h=>by cases h
 |.exc _ _::_,_,_,h=>by cases h
 |.dic _::_,_,_,h=>by cases h
theorem MF{ds:Ac D}{its:Ac Ai}(r:Reps X.K CL H A0 xs ds)(rv:Bk xs its){v:Ai}(h:its.toArray[j]?=Ab v):j<ds.length/\∃ x,Rep X.K CL H A0 x (ds.getD j .non)/\BP x v:=by
 have h':its[j]?=Ab v:=by simpa using h
 obtain⟨hj,e⟩:=Bf.mp h';obtain⟨x,rx,q⟩:=KF r rv hj;have l1:=rv.length;have l2:=r.length
 exact⟨by omega,x,rx,by rw[<-e];exact q⟩
theorem MP{o:Dk}(k:∀ b q,b∉[h.objs.size]->(h.push o).get? b=Ab q->h'.get? b=Ab q):∀ b q,h.get? b=Ab q->h'.get? b=Ab q:=λb q e=>k b q (by
 intro z;have:=AR.mp z;rw[this]at e;exact absurd (AE e) (Bx _)) (Ar _ e)
theorem j3(hc:X.calm=Aa):Jl X CL W (.builtin "all") (biD .all):=by
  intro A pI s U H xs us Q I r ⟨hA,ds,rs,p⟩
  match ds,rs,p with
  |[.lst es],rs,p=>
    obtain⟨v,rfl,rv⟩:=rs.one;obtain⟨q,ys,e,_,sq,ry⟩:=rv.plain;subst e;obtain⟨u,rfl,ru⟩:=IC r;cases ru;rw[bY]at p;cases e1:GA es with
    |bad=>rw[e1]at p;exact p.elim
    |exn x=>
      exfalso
      have:∀(es:Ac D) x,GA es≠.exn x:=by
        intro es
        induction es with
        |nil=>intro x h;cases h
        |cons d ds ih=>
          intro x h;rw[Qm]at h;cases e:EO d with
          |bad=>rw[e]at h;cases h
          |exn y=>cases d<;>cases e
          |ok c=>
            rw[e,R.bind_ok]at h;cases e2:GA ds with
            |bad=>rw[e2]at h;cases h
            |exn y=>exact ih y e2
            |ok c2=>rw[e2]at h;cases h
      exact this es x e1
    |ok b=>
      rw[e1,R.bind_ok]at p;obtain⟨h1,h2⟩:=Tv e1;obtain⟨its,rvv,pl,_⟩:=I.list sq;have hlt:q<s.heap.objs.size:=by obtain⟨o,n,e,_⟩:=pl;exact AE e
      have hl:its.toArray.size=es.length:=by rw[AG,<-rvv.length,ry.length]
      refine call_all_walk (E6 (IA pl) ⟨s.heap.objs.size,_,_,_,_,_,(λj=>match EO (es.getD j .non) with | .ok c=>c|_=>Ae),rfl,KW (A:=X.A.in1) (I.ok.hd hc) s.heap.objs.size q (Bb hlt) its.toArray,⟨⟨_,Ay _ rfl,rfl,rfl⟩,(IA pl).push _⟩,λj v s' Q' E' hv hQ=>?_,λh' tk k=>?_⟩)
      · obtain⟨hj,x,rx,qx⟩:=MF ry rvv hv;obtain⟨c,ec⟩:=h1 j hj;exact QV rx qx ec (by dsimp only at hQ;rw[ec]at hQ;exact hQ)
      · rw[hl,<-h2];exact⟨.bl b,H,I.kept (MP k),rfl,p _ H (AH.refl H) rfl⟩
  |[],_,p=>exact p.elim
  |[.non],_,p=>exact p.elim
  |[.bl _],_,p=>exact p.elim
  |[.int _],_,p=>exact p.elim
  |[.str _],_,p=>exact p.elim
  |[.tup _],_,p=>exact p.elim
  |[.obj _ _],_,p=>exact p.elim
  |[.exc _ _],_,p=>exact p.elim
  |[.dic _],_,p=>exact p.elim
  |x::_::_,_,p=>cases x<;>exact p.elim
theorem Wb(hc:X.calm=Aa){ys:Ac V}{es:Ac D}(I:Inv X pI U H s)(sq:SqL X.K H q ys\/SqT X.K H q ys)(ry:Reps X.K CL H A0 ys es)(p:Br (λH=>Rep X.K CL H A) W H ((Ga es).bind λb=>.ok (.bl b)) Q):Az (model X.prog X.w) X.A (call (.builtin "any") [.ref q]) (EP X pI U Q) X.xe s:=by
 cases e1:Ga es with
 |bad=>rw[e1]at p;exact p.elim
 |exn x=>
  exfalso
  clear p
  have:∀(es:Ac D) x,Ga es≠.exn x:=by
   intro es
   induction es with
   |nil=>intro x h;cases h
   |cons d ds ih=>
    intro x h;rw[Ts]at h;cases e:EO d with
    |bad=>rw[e]at h;cases h
    |exn y=>cases d<;>cases e
    |ok c=>
     rw[e,R.bind_ok]at h;cases e2:Ga ds with
     |bad=>rw[e2]at h;cases h
     |exn y=>exact ih y e2
     |ok c2=>rw[e2]at h;cases h
  exact this es x e1
 |ok b=>
  rw[e1,R.bind_ok]at p;obtain⟨h1,h2⟩:=Tu e1;rcases sq with sq|sq
  .obtain⟨its,rvv,pl,_⟩:=I.list sq;have hlt:q<s.heap.objs.size:=by obtain⟨o,n,e,_⟩:=pl;exact AE e
   have hl:its.toArray.size=es.length:=by rw[AG,<-rvv.length,ry.length]
   refine call_any_walk (E6 (IA pl) ⟨s.heap.objs.size,_,_,_,_,_,(λj=>match EO (es.getD j .non) with | .ok c=>c|_=>Ae),rfl,KW (A:=X.A.in1) (I.ok.hd hc) s.heap.objs.size q (Bb hlt) its.toArray,⟨⟨_,Ay _ rfl,rfl,rfl⟩,(IA pl).push _⟩,λj v s' Q' E' hv hQ=>?_,λh' tk k=>?_⟩)
   .obtain⟨hj,x,rx,qx⟩:=MF ry rvv hv;obtain⟨c,ec⟩:=h1 j hj;exact QV rx qx ec (by dsimp only at hQ;rw[ec]at hQ;exact hQ)
   .rw[hl,<-h2];exact⟨.bl b,H,I.kept (MP k),rfl,p _ H (AH.refl H) rfl⟩
  .obtain⟨its,rvv,pl,_⟩:=I.tuple sq;have pl':s.heap.IsTuple q its.toArray:=pl;have hlt:q<s.heap.objs.size:=by obtain⟨o,e,_⟩:=pl';exact AE e
   have hl:its.toArray.size=es.length:=by rw[AG,<-rvv.length,ry.length]
   refine call_any_walk (FU pl' ⟨s.heap.objs.size,_,_,_,_,_,(λj=>match EO (es.getD j .non) with | .ok c=>c|_=>Ae),rfl,Z_4 (A:=X.A.in1) (I.ok.hd hc) s.heap.objs.size q (Bb hlt) its.toArray,⟨⟨_,Ay _ rfl,rfl,rfl⟩,pl'.push _⟩,λj v s' Q' E' hv hQ=>?_,λh' tk k=>?_⟩)
   .obtain⟨hj,x,rx,qx⟩:=MF ry rvv hv;obtain⟨c,ec⟩:=h1 j hj;exact QV rx qx ec (by dsimp only at hQ;rw[ec]at hQ;exact hQ)
   .rw[hl,<-h2];exact⟨.bl b,H,I.kept (MP k),rfl,p _ H (AH.refl H) rfl⟩
theorem k9(hc:X.calm=Aa):Jl X CL W (.builtin "any") (biD .any):=by
  intro A pI s U H xs us Q I r ⟨hA,ds,rs,p⟩
  match ds,rs,p with
  |[.lst es],rs,p=>
    obtain⟨v,rfl,rv⟩:=rs.one;obtain⟨q,ys,e,_,sq,ry⟩:=rv.plain;subst e;obtain⟨u,rfl,ru⟩:=IC r;cases ru;exact Wb hc I (.inl sq) ry p
  |[.tup es],rs,p=>
    obtain⟨v,rfl,rv⟩:=rs.one;obtain⟨q,ys,e,_,sq,ry⟩:=rv.plain;subst e;obtain⟨u,rfl,ru⟩:=IC r;cases ru;exact Wb hc I (.inr sq) ry p
  |[],_,p=>exact p.elim
  |[.non],_,p=>exact p.elim
  |[.bl _],_,p=>exact p.elim
  |[.int _],_,p=>exact p.elim
  |[.str _],_,p=>exact p.elim
  |[.obj _ _],_,p=>exact p.elim
  |[.exc _ _],_,p=>exact p.elim
  |[.dic _],_,p=>exact p.elim
  |x::_::_,_,p=>cases x<;>exact p.elim
theorem Vm(hc:X.calm=Aa){ys:Ac V}{es:Ac D}(I:Inv X pI U H s)(sq:SqL X.K H q ys\/SqT X.K H q ys)(ry:Reps X.K CL H A0 ys es)(p:Br (λH=>Rep X.K CL H A) W H ((HA 0 es).bind λb=>.ok (.int b)) Q):Az (model X.prog X.w) X.A (call (.builtin "sum") [.ref q]) (EP X pI U Q) X.xe s:=by
 cases e1:HA 0 es with
 |bad=>rw[e1]at p;exact p.elim
 |exn x=>
  exfalso
  have:∀(es:Ac D)(a:Ad) x,HA a es≠.exn x:=by
   intro es
   induction es with
   |nil=>intro a x h;cases h
   |cons d ds ih=>
    intro a x h;cases d<;>first|exact ih _ _ h|cases h
  exact this es 0 x e1
 |ok z=>
  rw[e1,R.bind_ok]at p;obtain⟨h1,h2⟩:=Um es 0 z e1;rw[Db]at h2;rcases sq with sq|sq
  .obtain⟨its,rvv,pl,_⟩:=I.list sq;have hlt:q<s.heap.objs.size:=by obtain⟨o,n,e,_⟩:=pl;exact AE e
   have hl:its.toArray.size=es.length:=by rw[AG,<-rvv.length,ry.length]
   refine Z_6 (E6 (IA pl) ⟨s.heap.objs.size,_,_,_,_,_,(λj=>match es.getD j .non with | .int i=>i|_=>0),rfl,KW (A:=X.A.in1) (I.ok.hd hc) s.heap.objs.size q (Bb hlt) its.toArray,⟨⟨_,Ay _ rfl,rfl,rfl⟩,(IA pl).push _⟩,λb hb=>?_,λj v hv=>?_,λh' tk t' k=>?_⟩)
   .show b<(s.heap.push _).objs.size;rw[Bz];rcases Au.mp hb with rfl|hb
    .exact Fm _
    .rw[AR.mp hb];exact DX hlt
   .obtain⟨hj,x,rx,qx⟩:=MF ry rvv hv;obtain⟨i,ei⟩:=h1 j hj;rw[ei]at rx;dsimp only;rw[ei];cases rx;exact qx
   .rw[hl,<-h2];exact⟨.int z,H,I.kept (MP k),⟨_,rfl⟩,p _ H (AH.refl H) rfl⟩
  .obtain⟨its,rvv,pl,_⟩:=I.tuple sq;have pl':s.heap.IsTuple q its.toArray:=pl;have hlt:q<s.heap.objs.size:=by obtain⟨o,e,_⟩:=pl';exact AE e
   have hl:its.toArray.size=es.length:=by rw[AG,<-rvv.length,ry.length]
   refine Z_6 (FU pl' ⟨s.heap.objs.size,_,_,_,_,_,(λj=>match es.getD j .non with | .int i=>i|_=>0),rfl,Z_4 (A:=X.A.in1) (I.ok.hd hc) s.heap.objs.size q (Bb hlt) its.toArray,⟨⟨_,Ay _ rfl,rfl,rfl⟩,pl'.push _⟩,λb hb=>?_,λj v hv=>?_,λh' tk t' k=>?_⟩)
   .show b<(s.heap.push _).objs.size;rw[Bz];rcases Au.mp hb with rfl|hb
    .exact Fm _
    .rw[AR.mp hb];exact DX hlt
   .obtain⟨hj,x,rx,qx⟩:=MF ry rvv hv;obtain⟨i,ei⟩:=h1 j hj;rw[ei]at rx;dsimp only;rw[ei];cases rx;exact qx
   .rw[hl,<-h2];exact⟨.int z,H,I.kept (MP k),⟨_,rfl⟩,p _ H (AH.refl H) rfl⟩
theorem jw(hc:X.calm=Aa):Jl X CL W (.builtin "sum") (biD .sum):=by
  intro A pI s U H xs us Q I r ⟨hA,ds,rs,p⟩
  match ds,rs,p with
  |[.lst es],rs,p=>
    obtain⟨v,rfl,rv⟩:=rs.one;obtain⟨q,ys,e,_,sq,ry⟩:=rv.plain;subst e;obtain⟨u,rfl,ru⟩:=IC r;cases ru;exact Vm hc I (.inl sq) ry p
  |[.tup es],rs,p=>
    obtain⟨v,rfl,rv⟩:=rs.one;obtain⟨q,ys,e,_,sq,ry⟩:=rv.plain;subst e;obtain⟨u,rfl,ru⟩:=IC r;cases ru;exact Vm hc I (.inr sq) ry p
  |[],_,p=>exact p.elim
  |[.non],_,p=>exact p.elim
  |[.bl _],_,p=>exact p.elim
  |[.int _],_,p=>exact p.elim
  |[.str _],_,p=>exact p.elim
  |[.obj _ _],_,p=>exact p.elim
  |[.exc _ _],_,p=>exact p.elim
  |[.dic _],_,p=>exact p.elim
  |x::_::_,_,p=>cases x<;>exact p.elim
end
section
variable(K:Fg)(CL:ClA)
def cX(H0:Hp)(A:Ak->Prop)(H:Hp)(v:V)(d:D):Prop:=∀ ds,d=.lst ds->∃ a xs,v=.ref a/\H0 a=Af/\H a=Ab (.lst xs)/\Reps K CL H (λb=>A b\/b=a) xs ds
def Fi(fr:Al)(H0:Hp)(A:Ak->Prop)(H:Hp)(v:V)(d:D):Prop:=Rep K CL H A v d/\(fr=Aa->cX K CL H0 A H v d)
end
section
variable{X:Cx}{CL:ClA}{W:XW}{a b c:Ao}{fa fb fc:Rho->R D}{pos:AX}
def SC(X:Cx)(CL:ClA)(W:XW)(fr:Al)(e:Ao)(f:Rho->R D):Prop:=∀ A,PE X e (λU H Q=>AOk H A/\∃ Y,Good X.K CL A Y U H/\Br (Fi X.K CL fr H A) W H (f Y) Q)
theorem SC.se{fr:Al}(h:SC X CL W fr a fa):SE X CL W a fa:=λA=>PE.weak (h A) λU H Q ⟨hA,Y,g,p⟩=>⟨hA,Y,g,by
 cases e:fa Y with
 |ok d=>rw[e]at p;exact λv H' s r=>p v H' s r.1
 |exn x=>rw[e]at p;exact p
 | bad=>rw[e]at p;exact p⟩
theorem SE.sc(h:SE X CL W a fa):SC X CL W Ae a fa:=λA=>PE.weak (h A) λU H Q ⟨hA,Y,g,p⟩=>⟨hA,Y,g,by
 cases e:fa Y with
 |ok d=>rw[e]at p;exact λv H' s r=>p v H' s ⟨r,λz=>nomatch z⟩
 |exn x=>rw[e]at p;exact p
 | bad=>rw[e]at p;exact p⟩
theorem SC.congr{fr:Al}{f g:Rho->R D}(h:SC X CL W fr a f)(e:∀ Y,g Y=f Y):SC X CL W fr a g:=λA=>PE.weak (h A) λU H Q ⟨hA,Y,q,p⟩=>⟨hA,Y,q,by rw[<-e];exact p⟩
theorem Lk{p:Ak}{ds:Ac D}(s:AH H0 H)(hA:AOk H A)(hp:H p=Af)(r:Reps K CL H A xs ds):Fi K CL Aa H0 A (upd H p (.lst xs)) (.ref p) (.lst ds):=
 ⟨Vw hA hp r,λ_ ds' e=>by
  cases e;exact⟨p,xs,rfl,s.free hp,Iw,(Reps.wide (λa ha=>ha.imp id λe=>by rw[e];exact hp) _ r).same (Gv hp _)⟩⟩
theorem VC{fr:Al}(r:Rep K CL H A v d)(h:∀ ds,d≠.lst ds):Fi K CL fr H0 A H v d:=⟨r,λ_ ds e=>absurd e (h ds)⟩
theorem xX(hs:SA X CL W es fs)(hz:∀ Y ds,fs Y=.ok ds->ds.length<=100000):SC X CL W Aa (.List es pos) (λY=>(fs Y).bind λxs=>.ok (.lst xs)):=
 λA=>PE.weak (b8 (hs A)) λU H Q ⟨hA,Y,g,p⟩=>⟨hA,Y,g,Ie.bind p λds vs H1 e s1 r1 p1=>⟨by
  rw[r1.length,E1];have:=hz Y ds e;omega,λq hq=>p1 _ _ (Gv hq _) (Lk s1 (hA.same s1) hq r1)⟩⟩
theorem Br.bindF{fr:Al}{f:D->R D}{Q':VK}(h:Br (Fi K CL fr H A) W H (r.bind f) Q)(k:∀ d v H',r=.ok d->AH H H'->Rp H' v d->Br (Fi K CL fr H A) W H' (f d) Q->Q' v H'):Br Rp W H r Q':=by
 cases r with
 |ok d=>exact λv H2 s2 q=>k d v H2 rfl s2 q (Br.same s2 h)
 |exn x=>exact h
 |bad=>exact h
theorem Ie.bindF{Rp:Hp->Ac V->Ac D->Prop}{r:R (Ac D)}{f:Ac D->R D}{Q':Ac V->Hp->Prop}(h:Br Rq W H (r.bind f) Q)(k:∀ d v H',r=.ok d->AH H H'->Rp H' v d->Br Rq W H' (f d) Q->Q' v H'):Ie Rp W H r Q':=by
 cases r with
 |ok d=>exact λv H2 s2 q=>k d v H2 rfl s2 q (Br.same s2 h)
 |exn x=>exact h
 |bad=>exact h
theorem KJ.bindF{r:R (Aq Ad)}{f:Aq Ad->R D}(h:Br Rq W H (r.bind f) Q)(k:∀ o H',r=.ok o->AH H H'->Br Rq W H' (f o) Q->Q' o H'):KJ W H r Q':=by
 cases r with
 |ok d=>exact λH2 s2=>k d H2 rfl s2 (Br.same s2 h)
 |exn x=>exact h
 |bad=>exact h
theorem lh{lo hi:Aq Ao}{fl fh:Rho->R (Aq Ad)}(ha:ST X CL W a fa)(hl:SO X CL W lo fl)(hh:SO X CL W hi fh):SC X CL W Aa (.Subscript a (.Slice lo hi Af p2) pos) (λY=>(fa Y).bind λx=>(fl Y).bind λl=>(fh Y).bind λh=>slD x l h):=
 λA=>PE.weak (mT (r:=λx l h H Q=>Sg X.K x l h H Q\/Sf X.K x l h H Q) (λpI s U H x v vl vu lo hi sl Q I rx hs pl pu h=>h.elim (rE pI s U H x v vl vu lo hi sl Q I rx hs pl pu) (yA pI s U H x v vl vu lo hi sl Q I rx hs pl pu)) (ha A) (hl A) (hh A)) λU H Q ⟨hA,Y,g,p⟩=>⟨hA,Y,g,Br.bindF p λdx x H1 _ s1 r1 p1=>⟨hA.same s1,Y,g.same s1,KJ.bindF p1 λl H2 _ s2 p2=>⟨(hA.same s1).same s2,Y,(g.same s1).same s2,KJ.bindF p2 λh H3 _ s3 p3=>by
  cases dx with
  |lst ds=>
   obtain⟨q,xs,rfl,sq,r⟩:=((r1.same s2).same s3).lst_of;exact .inl ⟨q,xs,rfl,sq,λt ht=>p3 _ _ (Gv ht _) (Lk ((s1.trans s2).trans s3) (((hA.same s1).same s2).same s3) ht (Vu l h r))⟩
  |tup ds=>
   obtain⟨q,xs,rfl,_,sq,r⟩:=((r1.same s2).same s3).tup_of;rw[dZ]at p3;split at p3
   .exact p3.elim
   .rename_i hw;refine .inr ⟨q,xs,rfl,sq,?_,λt ht=>p3 _ _ (Gv ht _) (VC (Li (((hA.same s1).same s2).same s3) ht (Vu l h r)) (by intro _ z;cases z))⟩
    rintro⟨h1,h2⟩;refine hw ?_;have e:∀ d o,HT.sIx xs.length d o=GX ds.length d o:=λd o=>by rw[r.length];cases o<;>rfl
    rw[e]at h1 h2;rw[r.length]at h2;simp[h1,h2]
  | _=>exact p3.elim⟩⟩⟩
noncomputable def OpN(X:Cx)(CL:ClA)(W:XW)(f:Ai->Ai->Hr Ai)(g:D->D->R D):Prop:=
 ∀ A H0,OpR X f (λx y H Q=>AH H0 H/\AOk H A/\∃ dx dy,C4 X.K CL H A x dx/\C4 X.K CL H A y dy/\Br (Fi X.K CL Aa H0 A) W H (g dx dy) Q)
theorem tG:OpN X CL W (Cw .Add) (Dg .Add):=by
 intro A H0 pI s U H x y v u Q I rx ry ⟨s0,hA,dx,dy,hx,hy,p⟩;have key:(∀ ds,dx≠.lst ds)->EP X pI U Q=EP X pI U Q->Az (model X.prog X.w) X.A (Cw .Add v u) (EP X pI U Q) X.xe s:=λhd _=>by
  refine VL (W:=W) A pI s U H x y v u Q I rx ry ⟨hA,dx,dy,hx,hy,?_⟩;cases e:Dg .Add dx dy with
  |bad=>rw[e]at p;exact p
  |exn x=>rw[e]at p;exact p
  |ok d=>
   rw[e]at p;refine λv' H' s' r'=>p v' H' s' (VC r' λds z=>?_)
   subst z;cases dx with
   |lst ds=>exact hd _ rfl
   |tup xs=>
    cases dy with
    |tup ys=>rw[WQ]at e;split at e<;>cases e
    |_=>cases e
   |str xs=>
    cases dy with
    |str ys=>rw[WR]at e;split at e<;>cases e
    |_=>cases e
   |int i=>cases dy<;>cases e
   |_=>cases e
 cases dx with
 |lst ds=>
  cases dy with
  |lst es=>
   obtain⟨a,xs,rfl,s1,r1⟩:=hx.lst_of;obtain⟨b,ys,rfl,s2,r2⟩:=hy.lst_of;simp only[WS]at p;split at p
   .rename_i h;refine VM pI s U H _ _ v u Q I rx ry ⟨a,b,xs,ys,rfl,rfl,s1,s2,by rw[r1.length,r2.length];exact Hv h,λq hq=>?_⟩
    exact p _ _ (Gv hq _) (Lk s0 hA hq (r1.append r2))
   .exact p.elim
  |_=>exact p.elim
 |_=>exact key (by intro _ z;cases z) rfl
theorem xZ(ha:ST X CL W a fa)(hb:ST X CL W b fb):SC X CL W Aa (.BinOp a .Add b pos) (λY=>(fa Y).bind λx=>(fb Y).bind λy=>Dg .Add x y):=
 λA pI s U H Q I h=>by
  obtain⟨hA,Y,g,p⟩:=h;exact Xa (tG (W:=W) A H) (ha A) (hb A) pI s U H Q I ⟨hA,Y,g,Br.bindF p λdx x H1 _ s1 r1 p1=>⟨hA.same s1,Y,g.same s1,Br.bind (Rq:=Fi X.K CL Aa H A) p1 λdy y H2 _ s2 r2 p2=>⟨s1.trans s2,(hA.same s1).same s2,dx,dy,r1.same s2,r2,p2⟩⟩⟩
def XF(X:Cx)(CL:ClA)(W:XW)(f:Ai)(g:Ac D->R D):Prop:=∀ A H0,Ig X f (λxs H Q=>AH H0 H/\AOk H A/\∃ ds,GB X.K CL H A xs ds/\Br (Fi X.K CL Aa H0 A) W H (g ds) Q)
theorem uL:XF X CL W (.type "list") (biD .list):=by
  intro A H0 pI s U H xs us Q I r ⟨s0,hA,ds,rs,p⟩
  match ds,rs,p with
  |[.lst es],rs,p=>
    obtain⟨v,rfl,rv⟩:=rs.one;obtain⟨q,ys,rfl,sq,ry⟩:=rv.lst_of;exact Td pI s U H _ us Q I r ⟨q,ys,rfl,.inl sq,λl hl=>p _ _ (Gv hl _) (Lk s0 hA hl ry)⟩
  |[.tup es],rs,p=>
    obtain⟨v,rfl,rv⟩:=rs.one;obtain⟨q,ys,rfl,_,sq,ry⟩:=rv.tup_of;exact Td pI s U H _ us Q I r ⟨q,ys,rfl,.inr sq,λl hl=>p _ _ (Gv hl _) (Lk s0 hA hl ry)⟩
  |[],_,p=>exact p.elim
  |[.non],_,p=>exact p.elim
  |[.bl _],_,p=>exact p.elim
  |[.int _],_,p=>exact p.elim
  |[.str _],_,p=>exact p.elim
  |[.obj _ _],_,p=>exact p.elim
  |[.exc _ _],_,p=>exact p.elim
  |[.dic _],_,p=>exact p.elim
  |x::_::_,_,p=>cases x<;>exact p.elim
theorem xY{x:An}{g:Ac D->R D}(hc:XF X CL W (.type T) g)(hg:Gl X x)(hm:X.mg x=Af)(hv:DE x=Ab (.type T))(ha:SAT X CL W (e::es) fs)(hn:x≠"__name__")(hdb:(x==("__debug__" : An))=Ae)(he:AB (e::es) X.env=(Ae,eval e X.env)::AB es X.env)(hpl:∀ pos,(Ct pos (AB es X.env)).any (·.1)=Ae):SC X CL W Aa (.Call (.Name x p) (e::es) [] pos) (λY=>(fs Y).bind g):=λA pI s U H Q I ⟨hA,Y,gd,q⟩=>
 TW (hc A H) hg hm hv (ha A) hn hdb he (hpl _) pI s U H Q I ⟨hA,Y,gd,Ie.bindF q λds vs H1 _ s1 r1 p1=>⟨s1,hA.same s1,ds,r1,p1⟩⟩
mutual
theorem Xp{K:Fg}{H:Hp}{A:Ak->Prop}(hA:AOk H A):∀(n:Ag)(d:D){v:V},nlD n d=Aa->Rep K CL H A0 v d->Rep K CL H A v d
 |_,.non,_,_,h=>h
 |_,.bl _,_,_,h=>h
 |_,.int _,_,_,h=>h
 |_,.str _,_,_,h=>h
 |0,.tup _,_,hn,_=>by cases hn
 |n+1,.tup ds,_,hn,h=>by
  obtain⟨a,xs,e,_,s,r⟩:=h;refine⟨a,xs,e,?_,s,nls_up hA n ds hn r⟩;rcases s with s|s
  .refine .inl λz=>?_
   obtain⟨u,q,⟨ys,rfl⟩|⟨ys,rfl⟩⟩:=hA a z<;>rcases s with s|⟨o,s⟩<;>rw[q]at s<;>cases s
  .exact .inr s
 |n,.lst _,_,hn,_=>by cases n<;>cases hn
 |n,.obj _ _,_,hn,_=>by cases n<;>cases hn
 |n,.exc _ _,_,hn,_=>by cases n<;>cases hn
 |n,.dic _,_,hn,_=>by cases n<;>cases hn
theorem nls_up{K:Fg}{H:Hp}{A:Ak->Prop}(hA:AOk H A):∀(n:Ag)(ds:Ac D){vs:Ac V},ds.all (nlD n)=Aa->Reps K CL H A0 vs ds->Reps K CL H A vs ds
 |_,[],[],_,h=>h
 |n,d::ds,_::_,hn,h=>by
  simp only[Hq,Ap]at hn;exact⟨Xp hA n d hn.1 h.1,nls_up hA n ds hn.2 h.2⟩
 |_,[],_::_,_,h=>h.elim
 |_,_::_,[],_,h=>h.elim
end
theorem jh{fr:Al}(hA0:AOk H0 A)(s:AH H0 H)(hc:G1 fr d=Aa)(r:Fi K CL fr H0 A0 H v d):Fi K CL fr H0 A H v d:=by
 have hA:=hA0.same s;cases d with
 |lst ds=>
  have hc':(fr&&ds.all (nlD 5))=Aa:=hc;rw[Ap]at hc';obtain⟨a,xs,e,h0,h1,rs⟩:=r.2 hc'.1 ds rfl;have hA2:AOk H (λb=>A b\/b=a):=λb hb=>hb.elim (hA b) λe=>by rw[e];exact⟨_,h1,.inl ⟨xs,rfl⟩⟩
  have rs':=nls_up hA2 5 ds hc'.2 (Reps.sub (λ_ z=>z.elim) _ rs)
  refine⟨⟨a,xs,e,.inl (hA0.new h0),SqL.of h1,Reps.sub (λ_ z=>.inl z) _ rs'⟩,λ_ ds' e'=>?_⟩
  cases e';exact⟨a,xs,e,h0,h1,rs'⟩
 |_=>exact⟨Xp hA 5 _ hc r.1,λ_ _ z=>nomatch z⟩
def spD(K:Fg)(CL:ClA)(n:Ag)(fr:Al)(F:Ac D->R D):Sp:=λvs H Q E=>∃(ds:Ac D)(A:Ak->Prop),vs.length=n/\AOk H A/\Reps K CL H A vs ds/\(match F ds with
  |.ok d=>∀ v H',AH H H'->Fi K CL fr H A H' v d->Q v H'
  |.exn x=>∀ cls dx H',AH H H'->Ic K CL H' cls dx x->E cls dx H'
  | .bad=>Bu)
def EKW(K:Fg)(CL:ClA)(A:Ak->Prop)(W:XW):XK:=λcls dx H'=>∃ x,Ic K CL H' cls dx x/\W x H'
theorem GB.plain{K:Fg}{H:Hp}{A:Ak->Prop}:∀{vs:Ac V}{ds:Ac D},GB K CL H A vs ds->Reps K CL H A0 vs ds
 |[],[],h=>trivial
 |_::_,_::_,h=>⟨h.1.plain,GB.plain h.2⟩
 |[],_::_,h=>h.elim
 |_::_,[],h=>h.elim
theorem rL{CX:CXT}{k:Ag}{fr:Al}{f:Ak}{fd:Cv}{ps:Ac An}{F:Ac D->R D}{x:An}{ft:Rho->R (Ac D)}{sh:Rho->Al}(G:FnOk X.prog X.w X.K X.mg X.base CX k f fd ps (spD X.K CL n fr F))(hr:Room k X.A)(hg:Gl X x)(hm:X.mg x=Ab (.ref f))(hk:DO X.K (.ref f)=Aa)(hb:IB X.K fd ps [])(hx:∀ A,LC CX X (EKW X.K CL A W))(ha:SA X CL W (e::es) fs)(hat:SAT X CL W (e::es) ft)(hst:∀ Y,sh Y=Aa->ft Y=fs Y)(hn:∀ Y ds,ft Y=.ok ds->ds.length=n)(hdb:(x==("__debug__" : An))=Ae)(he:AB (e::es) X.env=(Ae,eval e X.env)::AB es X.env)(hpl:∀ pos,(Ct pos (AB es X.env)).any (·.1)=Ae):SC X CL W fr (.Call (.Name x p) (e::es) [] pos) (λY=>(ft Y).bind λds=>(F ds).bind λd=>if sh Y=Aa then .ok d else if G1 fr d=Aa then .ok d else .bad):=λA pI s U H Q I ⟨hA,Y,gd,q⟩=>by
 dsimp only at q;by_cases hs:sh Y=Aa
 .rw[hst Y hs]at q;refine VG G hr hg hm hk hb .nil (hx A) (ha A) hdb he (hpl _) pI s U H Q I ⟨hA,Y,gd,?_⟩;cases e1:fs Y with
  |bad=>rw[e1]at q;exact q
  |exn y=>rw[e1]at q;exact q
  |ok ds=>
   rw[e1]at q;intro vs H1 s1 r1;refine⟨ds,A,by rw[Du,r1.length];exact hn Y ds (by rw[hst Y hs];exact e1),hA.same s1,by rw[Du];exact r1,?_⟩
   have q':Br (Fi X.K CL fr H A) W H ((F ds).bind λd=>if sh Y=Aa then .ok d else if G1 fr d=Aa then .ok d else .bad) Q:=q
   cases e2:F ds with
   |ok d=>
    rw[e2,R.bind_ok,AF hs]at q';exact λv H2 s2 r2=>q' v H2 (s1.trans s2) ⟨r2.1,λz ds' e'=>let ⟨a,xs,z1,z2,z3⟩:=r2.2 z ds' e';⟨a,xs,z1,s1.free z2,z3⟩⟩
   |exn y=>rw[e2]at q';exact λcls dx H2 s2 xr=>⟨y,xr,q' H2 (s1.trans s2)⟩
   |bad=>rw[e2]at q';exact q'.elim
 .refine VG G hr hg hm hk hb .nil (hx A0) (hat A) hdb he (hpl _) pI s U H Q I ⟨hA,Y,gd,?_⟩;cases e1:ft Y with
  |bad=>rw[e1]at q;exact q
  |exn y=>rw[e1]at q;exact q
  |ok ds=>
   rw[e1]at q;intro vs H1 s1 r1;refine⟨ds,A0,by rw[Du,r1.plain.length];exact hn Y ds e1,λ_ z=>z.elim,by rw[Du];exact r1.plain,?_⟩
   have q':Br (Fi X.K CL fr H A) W H ((F ds).bind λd=>if sh Y=Aa then .ok d else if G1 fr d=Aa then .ok d else .bad) Q:=q
   cases e2:F ds with
   |ok d=>
    rw[e2,R.bind_ok,AN hs]at q';split at q'
    .rename_i hc;exact λv H2 s2 r2=>q' v H2 (s1.trans s2) (jh hA (s1.trans s2) hc ⟨r2.1,λz ds' e'=>let ⟨a,xs,z1,z2,z3⟩:=r2.2 z ds' e';⟨a,xs,z1,s1.free z2,z3⟩⟩)
    .exact q'.elim
   |exn y=>rw[e2]at q';exact λcls dx H2 s2 xr=>⟨y,xr,q' H2 (s1.trans s2)⟩
   |bad=>rw[e2]at q';exact q'.elim
end
theorem Qf(env:C9):∀(ns:Ac (An×EF))(acc:Ac (An×Ak)),(∀ x∈ns,x.2=.free->∃ c,env.cells.lookup x.1=Ab c)->(∀ x c,acc.lookup x=Ab c->env.cells.lookup x=Ab c) ->
  ∃ cl,(forIn ns acc fun(x:An×EF)(cs:Ac (An×Ak))=>(if (x.2==.free)=Aa then do let c <-cellOf env x.1;pure (EW ((x.1,c)::cs)) else pure (EW cs):Hr (ForInStep (Ac (An×Ak)))))=pure cl /\
   (∀ x c,cl.lookup x=Ab c->env.cells.lookup x=Ab c)/\(∀ x,((x,Em)∈ns\/∃ c,acc.lookup x=Ab c)->∃ c,cl.lookup x=Ab c)
 |[],acc,_,h2=>⟨acc,by rw[D7],h2,λx hx=>hx.elim (λz=>nomatch z) id⟩
 |(n,k)::r,acc,h1,h2=>by
  rw[Eh];by_cases hk:k=.free
  .subst hk;obtain⟨c,hc⟩:=h1 (n,.free) Aw rfl;obtain⟨cl,e,p,q⟩:=Qf env r ((n,c)::acc) (λx hx=>h1 x (Av _ hx)) (λx d hd=>by
    rw[BZ]at hd;split at hd
    .rename_i hx;cases hd;rw[eq_of_beq hx];exact hc
    .exact h2 x d hd)
   refine⟨cl,?_,p,λx hx=>q x ?_⟩
   .have e1:cellOf env n=pure c:=by unfold cellOf;dsimp only at hc;rw[hc]
    rw[AF (by rfl),e1]
    exact e
   .rcases hx with hx|⟨d,hd⟩
    .rcases Au.mp hx with z|z
     .cases z;exact .inr ⟨c,by simp[BZ]⟩
     .exact .inl z
    .by_cases hxn:x=n
     .exact .inr ⟨c,by subst hxn;simp[BZ]⟩
     .exact .inr ⟨d,by rw[BZ];rw[D6.mpr hxn];exact hd⟩
  .obtain⟨cl,e,p,q⟩:=Qf env r acc (λx hx=>h1 x (Av _ hx)) h2
   refine⟨cl,?_,p,λx hx=>q x ?_⟩
   .rw[AN (by simpa using hk)]
    exact e
   .rcases hx with hx|hx
    .rcases Au.mp hx with z|z
     .cases z;exact absurd rfl hk
     .exact .inl z
    .exact .inr hx
theorem Tp(h:∀ x∈scope.names,x.2=.free->∃ c,env.cells.lookup x.1=Ab c):∃ cl,closureFor scope env=pure cl/\(∀ x c,cl.lookup x=Ab c->env.cells.lookup x=Ab c)/\∀ x,(x,Em)∈scope.names->∃ c,cl.lookup x=Ab c:=by
 obtain⟨cl,e,p,q⟩:=Qf env scope.names [] h (λx c z=>by simp at z)
 refine⟨cl,?_,p,λx hx=>q x (.inl hx)⟩
 unfold closureFor
 first
  |exact e
  |(simp only[bind_pure];exact e)
  |(rw[show (forIn scope.names ([]:Ac (An×Ak)) _:Hr _)=pure cl from e];rfl)
theorem PZ:∀(names:Ac (An×EF))(h:AJ)(acc:Ac (An×Ak))(x:An)(c:Ak),(DP h.objs.size names acc).lookup x=Ab c->acc.lookup x=Ab c\/((x,Cc)∈names/\h.objs.size<=c/\(Hn h names).IsCell c Af)
 |[],_,_,_,_,e=>.inl e
 |(n,k)::r,h,acc,x,c,e=>by
  unfold DP at e;unfold Hn;by_cases hk:(k==Cc)=Aa
  .rw[AF hk]at e ⊢;have hs:h.objs.size+1=(h.push { cls:=.type "cell",data:=.cell Af }).objs.size:=(Bz ..).symm;rw[hs]at e;rcases PZ r _ _ x c e with q|⟨q1,q2,q3⟩
   .rw[BZ]at q;cases hx:x==n with
    |true=>
     rw[hx]at q;cases q;refine .inr ⟨?_,A1 _,?_⟩
     .rw[eq_of_beq hx,eq_of_beq hk];exact Aw
     .exact⟨_,Ip r _ _ _ (Ay _ rfl),rfl⟩
    |false=>rw[hx]at q;exact .inl q
   .exact .inr ⟨Av _ q1,by omega,q3⟩
  .rw[AN hk]at e ⊢;rcases PZ r h acc x c e with q|⟨q1,q2,q3⟩
   .exact .inl q
   .exact .inr ⟨Av _ q1,q2,q3⟩
theorem P5:∀(names:Ac (An×EF))(h:AJ)(acc:Ac (An×Ak)),(∀ x y c,acc.lookup x=Ab c->acc.lookup y=Ab c->x=y)->(∀ x c,acc.lookup x=Ab c->c<h.objs.size)->∀ x y c,(DP h.objs.size names acc).lookup x=Ab c->(DP h.objs.size names acc).lookup y=Ab c->x=y
 |[],_,_,i,_,x,y,c,e1,e2=>i x y c e1 e2
 |(n,k)::r,h,acc,i,b,x,y,c,e1,e2=>by
  unfold DP at e1 e2;by_cases hk:(k==Cc)=Aa
  .rw[AF hk]at e1 e2;have hs:h.objs.size+1=(h.push { cls:=.type "cell",data:=.cell Af }).objs.size:=(Bz ..).symm;rw[hs]at e1 e2;have look:∀ z d,Yu z ((n,h.objs.size)::acc)=Ab d->(z=n/\d=h.objs.size)\/(z≠n/\acc.lookup z=Ab d):=λz d q=>by
    rw[BZ]at q;cases hx:z==n with
    |true=>rw[hx]at q;cases q;exact .inl ⟨eq_of_beq hx,rfl⟩
    |false=>rw[hx]at q;exact .inr ⟨λe=>by rw[e]at hx;simp at hx,q⟩
   refine P5 r _ _ (λz z' d q q'=>?_) (λz d q=>?_) x y c e1 e2
   .rcases look z d q with ⟨rfl,q1⟩|⟨_,q1⟩<;>rcases look z' d q' with ⟨rfl,q2⟩|⟨_,q2⟩
    .rfl
    .exact absurd (b _ _ q2) (by rw[q1];exact Bx _)
    .exact absurd (b _ _ q1) (by rw[q2];exact Bx _)
    .exact i _ _ _ q1 q2
   .rw[<-hs];rcases look z d q with ⟨_,q1⟩|⟨_,q1⟩
    .rw[q1];exact Fm _
    .exact DX (b _ _ q1)
  .rw[AN hk]at e1 e2;exact P5 r h acc i b x y c e1 e2
theorem Qh:∀(names:Ac (An×EF))(n:Ag)(acc:Ac (An×Ak))(x:An),(x,Cc)∉names->(DP n names acc).lookup x=acc.lookup x
 |[],_,_,_,_=>rfl
 |(m,k)::r,n,acc,x,hx=>by
  unfold DP;have hr:(x,Cc)∉r:=λz=>hx (Av _ z)
  by_cases hk:(k==Cc)=Aa
  .rw[AF hk,Qh r _ _ x hr,BZ];cases q:x==m with
   |true=>exact absurd (by rw[eq_of_beq q,eq_of_beq hk];exact Aw) hx
   |false=>rfl
  .rw[AN hk];exact Qh r n acc x hr
theorem P6(n0:Ag):∀(names:Ac (An×EF))(n:Ag)(acc:Ac (An×Ak))(x:An),n0<=n->((x,Cc)∈names\/∃ c,acc.lookup x=Ab c/\n0<=c)->∃ c,(DP n names acc).lookup x=Ab c/\n0<=c
 |[],_,_,_,_,h=>h.elim (λz=>nomatch z) id
 |(m,k)::r,n,acc,x,hn,h=>by
  unfold DP;by_cases hk:(k==Cc)=Aa
  .rw[AF hk];refine P6 n0 r _ _ x (by omega) ?_
   by_cases hx:(x==m)=Aa
   .exact .inr ⟨n,by rw[BZ,hx],hn⟩
   .rcases h with h|⟨c,h,hc⟩
    .rcases Au.mp h with z|z
     .cases z;simp at hx
     .exact .inl z
    .exact .inr ⟨c,by rw[BZ];simp only[hx];exact h,hc⟩
  .rw[AN hk];refine P6 n0 r _ _ x hn (h.imp (λh=>?_) id)
   rcases Au.mp h with z|z
   .cases z;simp at hk
   .exact z
theorem fV{M:J6}{A:Bc}{E:Vq}{globals:Ak}{qual:An}{Q:C9->As->Prop}(hQ:Q (newEnv scope s.heap.objs.size globals (DP (s.heap.objs.size+1) scope.names cl) qual Af .none (Ab env) IZ) { s with heap:=Hn (s.heap.push { cls:=.type "dict",data:=.dict #[] }) scope.names }):Az M A (IQ scope globals cl [] qual Af .none (Ab env)) Q E s:=by
 simp only[IQ,Option.isSome_some,IU];refine Ah (wpAny_alloc ?_);refine Ah (wpAny_layCells _ (λname kind cells=>by cases hkc:kind==Cc<;>simp[hkc]) _ _ _ _ ?_)
 rw[show ({ s with heap:=s.heap.push { cls:=.type "dict",data:=.dict #[] } }:As).heap.objs.size=s.heap.objs.size+1 from Bz ..]
 rw[D7];exact Ah (Ax (Ax hQ))
noncomputable def cxC(X:Cx)(scope:Cu)(cl:Ac (An×Ak))(C:Ak)(N':Ac An)(s₀:As)(H₀:Hp)(fp:Ac Ak):Cx where
 prog:=X.prog
 w:=X.w
 K:=X.K
 mg:=X.mg
 base:=X.base
 A:=X.A
 N:=N'
 s₀:=s₀
 H₀:=H₀
 env:=compEnvC scope cl C X.env
 outer:=X.stack
 stack:=X.stack
 ex:=fp
 fn:=λx=>scope.names.lookup x==Ab Cc
 calm:=X.calm
 pn:=[]
 xe:=λ_ _=>Bu
theorem M0{env:C9}:∀{names:Ac (An×EF)}{x:An}{k:EF},(names.map λ(n,k)=>if (k==Em&&env.scope.kind==.function&&env.kindOf n==Ab .cell) then (n,Cc) else (n,k)).lookup x=Ab k->names.lookup x=Ab k\/(k=.cell/\names.lookup x=Ab .free)
 |[],_,_,h=>by simp at h
 |(n,j)::r,x,k,h=>by
  have ih:=@M0 env r x k;have h':Yu x ((if (j==Em&&env.scope.kind==.function&&env.kindOf n==Ab .cell)=Aa then (n,Cc) else (n,j))::(r.map λ(n,k)=>if (k==Em&&env.scope.kind==.function&&env.kindOf n==Ab .cell) then (n,Cc) else (n,k)))=Ab k:=h
  by_cases hc:(j==Em&&env.scope.kind==.function&&env.kindOf n==Ab .cell)=Aa
  .rw[AF hc]at h';rw[BZ]at h' ⊢;cases hx:x==n with
   |true=>
    rw[hx]at h';cases h';simp only[Ap]at hc;exact .inr ⟨rfl,by rw[eq_of_beq hc.1.1]⟩
   |false=>rw[hx]at h';exact ih h'
  .rw[AN hc]at h';rw[BZ]at h' ⊢;cases hx:x==n with
   |true=>rw[hx]at h';exact .inl h'
   |false=>rw[hx]at h';exact ih h'
structure BlockOk (X:Cx) (scope:Cu) (N':Ac An) (ts:Ac Ag):Prop where
 kind:scope.kind=.function
 uniq:∀ y∈scope.names,scope.names.lookup y.1=Ab y.2
 names:∀ y∈scope.names,y.2=.local->scope.names.lookup y.1=Ab .local
 free:∀ y∈scope.names,y.2=.free->X.env.scope.names.lookup y.1=Ab .cell\/X.env.scope.names.lookup y.1=Ab .free
 len:N'.length=X.N.length
 same:∀ i x,N'[i]?=Ab x->scope.names.lookup x=Ab .free->i∉ts->X.N[i]?=Ab x
 loc:∀ i x,N'[i]?=Ab x->(scope.names.lookup x=Ab .local\/scope.names.lookup x=Ab .cell)->i∈ts
structure BCells (X:Cx) (scope:Cu) (cl:Ac (An×Ak)) (C:Ak) (h:AJ):Prop where
 own:∀ x c,cl.lookup x=Ab c->X.env.cells.lookup x=Ab c\/(scope.names.lookup x=Ab .cell/\C<c/\h.IsCell c Af)
 inj:∀ x y c,cl.lookup x=Ab c->cl.lookup y=Ab c->x=y
 has:∀ x,scope.names.lookup x=Ab .cell->∃ c,cl.lookup x=Ab c/\C<c
 fr:∀ x,(x,Em)∈scope.names->∃ c,cl.lookup x=Ab c/\X.env.cells.lookup x=Ab c
section
variable{X:Cx}{pI:Pn}{U:L2.St}{H:Hp}{s:As}
noncomputable def hideT(ts:Ac Ag)(U:L2.St):L2.St:=ts.foldl (λU t=>U.set t Af) U
theorem Qc:∀(ts:Ac Ag)(U:L2.St),(hideT ts U).length=U.length
 |[],_=>rfl
 |t::ts,U=>by show (hideT ts (U.set t Af)).length=_;rw[Qc ts,BH]
theorem Tx:∀(ts:Ac Ag)(U:L2.St){i:Ag}{v:V},(hideT ts U)[i]?=Ab (Ab v)->U[i]?=Ab (Ab v)/\i∉ts
 |[],_,_,_,h=>⟨h,by simp⟩
 |t::ts,U,i,v,h=>by
  obtain⟨h1,h2⟩:=Tx ts (U.set t Af) (i:=i) (v:=v) h;by_cases e:t=i
  .subst e;have:=HX h1;cases this
  .rw[Dm e]at h1;exact⟨h1,by simp only[Au,Dh];exact⟨λz=>e z.symm,h2⟩⟩
theorem gD{tk:Ag}{C:Ak}{m:An->Aq Ai}(I:Inv X pI U H s)(B:BlockOk X scope N' ts)(hf:∀ b∈fp,Hh X pI H b)(hfo:∀ b∈fp,b<s.heap.objs.size)(hb:BCells X scope cl C h')(hk:∀ b o,s.heap.get? b=Ab o->h'.get? b=Ab o)(hC:s.heap.objs.size<=C)(hn:h'.Ns C m):Inv (cxC X scope cl C N' s H fp) [] (hideT ts U) H {s with heap:=h',toks:=tk}:=by
 have stf:∀ b∈fp,b∉frs X.stack:=λb hb z=>by
  rcases Au.mp (I.stkSub b z) with e|e
  .exact(hf b hb).2.1 e
  .exact(hf b hb).2.2.1 e
 have frOf:∀ x,((relabel scope X.env).names.lookup x=Ab .cell\/(relabel scope X.env).names.lookup x=Ab .free)->scope.names.lookup x=Ab .free\/scope.names.lookup x=Ab .cell:=λx hx=>by
  rcases hx with z|z
  .rcases M0 z with z|⟨_,z⟩
   .exact .inr z
   .exact .inl z
  .rcases M0 z with z|⟨z,_⟩
   .exact .inl z
   .cases z
 have gtC:∀ c:Ak,C<c->s.heap.objs.size<=c:=λc z=>Cn hC (E8 z)
 have cellK:∀ c v,s.heap.IsCell c v->h'.IsCell c v:=λc v ⟨o,ho,hd⟩=>⟨o,hk _ _ ho,hd⟩
 refine⟨⟨I.ok.mod,B.kind,I.ok.glob,I.ok.blt,hC,hb.inj,λx hx=>?_,λx c h e=>?_,I.ok.hd,I.ok.frames,.inl rfl,λb hbb=>⟨?_,λx c e=>?_⟩,I.bs,Cn I.ok.bsz I.sz,λb o e hbb=>?_,stf,I.stack,I.stkFree⟩,rfl,I.bare,Un.kept hk,⟨m,hn,λi x v h1 h2 h3=>?_⟩,λx c e=>?_,I.hok.fresh hC,λx c e=>(hb.own x c e).elim (I.freeC x c) (λz=>I.hok.fresh (gtC c z.2.1)),λp hp=>absurd (show p∈([]:Pn) from hp) (by simp),I.hok.kept hk,?_⟩
 .rcases frOf x hx with z|z
  .obtain⟨c,q,_⟩:=hb.fr x (C2 z);exact⟨c,q⟩
  .obtain⟨c,q,_⟩:=hb.has x z;exact⟨c,q⟩
 .obtain⟨c',q,z⟩:=hb.has x (eq_of_beq h);have e':cl.lookup x=Ab c:=e;rw[q]at e';cases e';exact gtC _ z
 .intro z;have z':b=C:=z;have:=hfo b hbb;rw[z']at this;exact absurd (AI this hC) (Bx _)
 .rcases hb.own x c e with z|z
  .exact(hf b hbb).2.2.2.2.1 x c z
  .intro q;have:=hfo b hbb;have:=gtC c z.2.1;rw[q]at this;exact absurd ‹b<_› (FY.mpr this)
 .rcases (hf b hbb).2.2.2.1 with z|z
  .exact I.ok.noex b o e z
  .exact absurd (AI (AE e) (Cn I.ok.bsz z)) (Bx _)
 .obtain⟨h2,hts⟩:=Tx ts U h2;have h3':(relabel scope X.env).names.lookup x=Ab .local\/(relabel scope X.env).names.lookup x=Ab .cell\/(relabel scope X.env).names.lookup x=Ab .free:=h3;have h1':N'[i]?=Ab x:=h1;rcases h3' with z|z
  .rcases M0 z with z|⟨z,_⟩
   .exact absurd (B.loc i x h1' (.inl z)) hts
   .cases z
  .have fr:=(frOf x z).resolve_right λq=>hts (B.loc i x h1' (.inr q))
   have hm:=C2 fr;have hX:=B.same i x h1' fr hts;obtain⟨m0,hn0,hl0⟩:=I.loc;obtain⟨u,ru,lk⟩:=hl0 i x v hX h2 (by
    rcases B.free _ hm rfl with q|q
    .exact .inr (.inl q)
    .exact .inr (.inr q))
   refine⟨u,ru,?_⟩;obtain⟨c,hc,hcX⟩:=hb.fr x hm;rcases lk with ⟨q,_⟩|⟨_,c',hc',hcell⟩
   .have q':X.env.scope.names.lookup x=Ab .local:=q;rcases B.free _ hm rfl with p|p
    .rw[show X.env.scope.names.lookup x=_ from p]at q';cases q'
    .rw[show X.env.scope.names.lookup x=_ from p]at q';cases q'
   .have e:=hcX;rw[hc']at e;cases e;exact .inr ⟨z,c,hc,cellK _ _ hcell⟩
 .rcases hb.own x c e with z|z
  .obtain⟨v,q⟩:=I.cell x c z;exact⟨v,cellK _ _ q⟩
  .exact⟨_,z.2.2⟩
 .show (hideT ts U).length=N'.length;rw[Qc,I.len,B.len]
theorem Uq{C D:Ak}{s':As}{U':L2.St}{pins':Pn}{h'':AJ}{ys:Ac Ai}(I:Inv X pI U H s)(hf:∀ b∈fp,Hh X pI H b)(I':Inv (cxC X scope cl C N' s H fp) pins' U' H' s')(hD:s.heap.objs.size<=D)(hDC:D≠C)(hC:s.heap.objs.size<=C)(hd:s'.heap.get? D=Ab { cls:=.type "list",data:=.seq ys.toArray n })(hDn:H' D=Af)(rv:Bk xs ys)(hz:xs.length<=sizeLine)(hs:EE C s'.heap h''):Inv X pI U (upd H' D (.lst xs)) {s' with heap:=h''}:=by
  have u:Un (frs X.stack) fp H H' s.heap s'.heap:=I'.base;have lt:∀ b o,s.heap.get? b=Ab o->b≠C/\b≠D:=λb o e=>⟨λz=>absurd (AI (AE e) (z ▸ hC)) (Bx _),λz=>absurd (AI (AE e) (z ▸ hD)) (Bx _)⟩
  have HD:H D=Af:=I.hok.fresh hD;have hCn:H' C=Af:=I'.free;have kb:∀ b o,b≠C->s'.heap.get? b=Ab o->h''.get? b=Ab o:=λb o hb e=>(hs.2 b hb).trans e
  have u2:Un (frs X.stack) fp H (upd H' D (.lst xs)) s.heap h'':=⟨λb o e q hb hx=>kb b o (lt b o e).1 (u.keep b o e q hb hx),λb o e q hb hx=>by
      obtain⟨sl,e1⟩:=u.slot b o e q hb hx;exact⟨sl,kb b _ (lt b o e).1 e1⟩,λb o e q hx=>by rw[DF (lt b o e).2];exact u.free b o e q hx,λb o e hx=>by
      obtain⟨o',e1⟩:=u.there b o e hx;exact⟨o',kb b _ (lt b o e).1 e1⟩,λb zs q=>by rw[DF (Gw q HD)];exact u.tups b zs q,λb o zs q=>by rw[DF (Gw q HD)];exact u.frzs b o zs q,λb ps q=>by rw[DF (Gw q HD)];exact u.tbls b ps q⟩
  have hok:HOk X.prog X.w (upd H' D (.lst xs)) h'':=λb o e=>by
    by_cases hb:b=D
    · subst hb;rw[Iw]at e;cases e;exact⟨hz,ys,n,rv,kb _ _ hDC hd⟩
    · rw[DF hb]at e;refine(I'.hok b o e).stay (λc v hc q=>kb c v ?_ q) (λc q=>by rw[DF (Gw q hDn)];exact q) λc zs q=>by rw[DF (Gw q hDn)];exact q
      rcases hc with rfl|hc
      · exact Gw e hCn
      · exact Gw hc hCn
  exact I.call' (s':={s' with heap:=h''}) (ch:=fp) I'.os u2 hok I'.bare λb hb=>⟨(hf b hb).2.2.2.1,(hf b hb).2.1,(hf b hb).2.2.2.2.1,(hf b hb).2.2.2.2.2⟩
end
def PTs(X:Cx)(ifs:Ac Ao)(tt:TT):Prop:=∀(pI:Pn)(s:As)(U:L2.St)(H:Hp)(Q:Al->Hp->Prop),Inv X pI U H s->tt U H Q ->
 Az (model X.prog X.w) X.A (forIn ifs Aa λc r=>if r=Aa then do let ok <-IP c X.env (eval c X.env);pure (EW ok) else pure (EW r)) (TP X pI U Q) X.xe s
theorem pS:PTs X [] (λU H Q=>Q Aa H):=λpI s U H Q I h=>wpAny_tests_nil ⟨H,I,h⟩
theorem pR{t:TT}(h:PT X c t):PTs X [c] t:=λpI s U H Q I q=>wpAny_tests_one (h pI s U H Q I q)
theorem iN{D:Ak}{ys:Ac Ai}{E:Vq}{Q:Vq}(I:Inv X ((D,{ cls:=.type "list",data:=.seq ys.toArray n })::pI) U H s)(hD:X.s₀.heap.objs.size<=D)(hp:∀ p∈X.pn++pI,p.1≠D)(hc:∀ x c,X.env.cells.lookup x=Ab c->c≠D)(hz:ys.length<=sizeLine)(h:∀ s',Inv X ((D,{ cls:=.type "list",data:=.seq (ys++[y]).toArray (n+1) })::pI) U H s'->(∀ b o,b≠D->s.heap.get? b=Ab o->s'.heap.get? b=Ab o)->Q .none s'):Az (model X.prog X.w) X.A (call (.builtin "list.append") [.ref D,y]) Q E s:=by
 obtain⟨e,hn,hL,hfs,_⟩:=I.pin (D,{ cls:=.type "list",data:=.seq ys.toArray n }) (Bw _ Aw);refine append_at (hsz:=by rw[AG];exact hz) e λh' hs hd=>?_
 have hd':h'.get? D=Ab { cls:=.type "list",data:=.seq (ys++[y]).toArray (n+1) }:=by rw[hd];simp
 have kb:∀ b o,b≠D->s.heap.get? b=Ab o->h'.get? b=Ab o:=λb o hb q=>(hs.2 b hb).trans q
 have I0:Inv X pI U H s:=I.pins_of λp hp=>I.pin p (Bw _ (Av _ hp))
 have I1:Inv X pI U H {s with heap:=h'}:=I0.turned (t':=s.toks) kb hn hL (.inr hD) hc hp
 refine h _ (I1.pins_of λp hp=>?_) kb
 rcases Au.mp hp with rfl|hp
 .exact⟨hd',hn,hL,hfs,λv z=>by
   have z':L8 _ _=L7 v:=z;cases z'⟩
 .exact I1.pin p (Bw _ hp)
section
variable{prog:AT}{w:AD}{A:Bc}{R:JD->As->Prop}{s:As}
theorem gC{target:Ao}{it acc:Ai}(I:Ag->As->Prop)(turn:∀ n s,I n s->Az (model prog w) A (EG it) (λr s₁=>match r with
      |none=>R (.ok .next) s₁
      | some v=>Az (model prog w) A (GQ target it v) (λ_ s₁'=>Az (model prog w) A (assign target env v) (λ_ s₂=>
          Az (model prog w) A (forIn ifs Aa λc r=>if r=Aa then do let ok <-IP c env (eval c env);pure (EW ok) else pure (EW r)) (λok s₃=>
            if ok=Aa then Az (model prog w) A (eval elt env) (λx s₄=>
              Az (model prog w) A (call (.builtin "list.append") [acc,x]) (λ_ s₅=>∃ m,m<n/\I m s₅) (IR (model prog w) A env λe s'=>R (.error e) s') s₄) (IR (model prog w) A env λe s'=>R (.error e) s') s₃
            else ∃ m,m<n/\I m s₃) (IR (model prog w) A env λe s'=>R (.error e) s') s₂) (IR (model prog w) A env λe s'=>R (.error e) s') s₁') (IR (model prog w) A env λe s'=>R (.error e) s') s₁) (IR (model prog w) A env λe s'=>R (.error e) s') s)(n:Ag)(h:I n s):F1 (model prog w) A (.compLoop (.ListComp elt [⟨target,iter,ifs,0⟩] scope pos) 0 it acc env) R s:=by
  refine codeAny_loop rfl I (λn s hI=>?_) n h
  show Az _ A ((compTurn (.ListComp elt [⟨target,iter,ifs,0⟩] scope pos) 0 it acc env).onRaise (λx=>do JL x env;theTreesLotGoes x)) _ _ s
  refine wpAny_noted ?_;rw[compTurn_list];refine Ah (Jx (Ah (CW (turn n s hI) (λr s₁ h₁=>?_) λ_ _ h'=>h')))
  cases r with
  |none=>exact Ax h₁
  |some v=>
    refine Ah (CW h₁ (λ_ s₁' h₁'=>?_) λ_ _ h'=>h')
    refine Ah (CW h₁' (λ_ s₂ h₂=>Ah (CW h₂ (λok s₃ h₃=>?_) λ_ _ h'=>h')) λ_ _ h'=>h')
    cases ok with
    |false=>exact Ax ⟨rfl,h₃⟩
    |true=>
      exact Ah (Ah (CW h₃ (λx s₄ h₄=>Ah (CW h₄ (λ_ s₅ h₅=>Ax (Ax ⟨rfl,h₅⟩)) λ_ _ h'=>h')) λ_ _ h'=>h'))
end
def Mp(J:It)(ts:Ac Ag)(g:TG)(tt:TT)(te:TE)(U:L2.St)(H:Hp)(Q:VK):Prop:=∃ W:Ag->Ag->Ac V->L2.St->Hp->Prop,(∃ m,W 0 m [] (hideT ts U) H)/\∀ i m xs U H,W i m xs U H ->
 (J.stop i H/\∀ p,H p=Af->Q (.ref p) (upd H p (.lst xs))) \/
 (J.go i H/\xs.length<sizeLine/\∀ x H',J.yld i H x H'->g x U H' λU2 H2=>tt U2 H2 λb H3=>if b=Aa then te U2 H3 λy H4=>∃ m',m'<m/\W (i+1) m' (xs++[y]) U2 H4 else ∃ m',m'<m/\W (i+1) m' xs U2 H3)
theorem UI{g:TG}{it:Ak}{tn:Ag->AJ->Prop}{E:Vq}{RR:Ai->Ak->JD->As->Prop}(hc:X.calm=Aa)(B:BlockOk X scope N' ts)(I:Inv X pI U H s)(T:Turn X.prog X.w X.K tg J fp it tn)(st:tn 0 s.heap)(hf:∀ b∈fp,Hh X pI H b)(hcl:∀ x c,cl.lookup x=Ab c->X.env.cells.lookup x=Ab c)(hcl2:∀ x,(x,Em)∈scope.names->∃ c,cl.lookup x=Ab c)(hg:∀ cl C s H,PG (cxC X scope cl C N' s H fp) tg g)(ht:∀ cl C s H,PTs (cxC X scope cl C N' s H fp) ifs tt)(he:∀ cl C s H,PE (cxC X scope cl C N' s H fp) elt te)(h:Mp J ts g tt te U H Q)(hRR:∀ cl D C s' H' U' pins' xs ys n m,Inv (cxC X scope cl C N' s H fp) pins' U' H' s'->s'.heap.get? D=Ab { cls:=.type "list",data:=.seq (GH ys) n }->H' D=Af->Bk xs ys->xs.length<=sizeLine->s.heap.objs.size<=D->D≠C->s.heap.objs.size<=C->s'.heap.Ns C m->Q (.ref D) (upd H' D (.lst xs))->RR (.ref D) C (.ok .next) s'):Az (model X.prog X.w) X.A (newList []) (λacc s₃=>Az (model X.prog X.w) X.A (IQ scope X.env.globals cl [] X.env.qual Af .none (Ab X.env)) (λcenv s₄=>F1 (model X.prog X.w) X.A (.compStart (.ListComp elt [⟨tg,iter,ifs,0⟩] scope pos) 0 (.ref it) acc {cenv with scope:=relabel scope X.env}) (RR acc cenv.locals) s₄) E s₃) E s:=by
 refine CP (fV ?_);dsimp only;generalize hH2:s.heap.push { cls:=.type "list",dict:=Af,data:=.seq ([]:Ac Ai).toArray }=H2;have hns₁:(Hn (H2.push { cls:=.type "dict",data:=.dict #[] }) scope.names).Ns H2.objs.size (λ_=>Af):=(Heap.Ns.new H2 (.type "dict")).keeps (Ip _ _)
 have hkp₁:∀ b o,H2.get? b=Ab o->(Hn (H2.push { cls:=.type "dict",data:=.dict #[] }) scope.names).get? b=Ab o:=λb o e=>Ip _ _ b o (Ar _ e)
 have hown:=PZ scope.names (H2.push { cls:=.type "dict",data:=.dict #[] }) cl;have hinj:=P5 scope.names (H2.push { cls:=.type "dict",data:=.dict #[] }) cl;rw[Bz]at hown hinj;generalize hcl':DP (H2.objs.size+1) scope.names cl=cl' at hown hinj;have hcf:∀ x,(x,Cc)∉scope.names->cl'.lookup x=cl.lookup x:=λx hx=>by rw[<-hcl'];exact Qh _ _ _ x hx
 have hch:∀ x,(x,Cc)∈scope.names->∃ c,cl'.lookup x=Ab c/\H2.objs.size+1<=c:=λx hx=>by rw[<-hcl'];exact P6 _ _ _ _ x (A1 _) (.inl hx)
 generalize hh₁:Hn (H2.push { cls:=.type "dict",data:=.dict #[] }) scope.names=h₁ at hns₁ hkp₁ hown;have hC:H2.objs.size=s.heap.objs.size+1:=by rw[<-hH2,Bz]
 have hCle:s.heap.objs.size<=H2.objs.size:=by rw[hC];exact Nat.le_succ _
 have hDC:s.heap.objs.size≠H2.objs.size:=by rw[hC];exact Bb (Fm _)
 have below:∀ b,b<s.heap.objs.size->b≠H2.objs.size:=λb hb=>by rw[hC];exact Bb (DX hb)
 have old:∀ b o,s.heap.get? b=Ab o->h₁.get? b=Ab o:=λb o e=>hkp₁ b o (hH2 ▸ Ar _ e)
 have hacc:h₁.get? s.heap.objs.size=Ab { cls:=.type "list",data:=.seq ([]:Ac Ai).toArray 0 }:=hkp₁ _ _ (hH2 ▸ Ay _ rfl);have clt:∀ x c,cl.lookup x=Ab c->c<s.heap.objs.size:=λx c e=>by
  obtain⟨v,q⟩:=I.cell x c (hcl x c e);exact q.lt
 have bc:BCells X scope cl' H2.objs.size h₁:=by
  refine⟨λx c e=>?_,hinj (λx y c e1 e2=>I.ok.inj x y c (hcl x c e1) (hcl y c e2)) (λx c e=>DX (AI (clt x c e) hCle)),λx hx=>?_,λx hx=>?_⟩
  .rcases hown x c e with q|⟨q1,q2,q3⟩
   .exact .inl (hcl x c q)
   .exact .inr ⟨B.uniq _ q1,q2,q3⟩
  .have hm:=C2 hx;obtain⟨c,e,hc⟩:=hch x hm;exact⟨c,e,hc⟩
  .have hno:(x,Cc)∉scope.names:=λz=>by
    have e1:=B.uniq _ hx;have e2:=B.uniq _ z;rw[show scope.names.lookup x=_ from e1]at e2
    cases e2
   obtain⟨c,e⟩:=hcl2 x hx;exact⟨c,by rw[hcf x hno];exact e,hcl x c e⟩
 have hfo:∀ b∈fp,b<s.heap.objs.size:=λb hb=>by
  obtain⟨o,e,_⟩:=T.obj 0 _ st b hb;exact AE e
 generalize hD:s.heap.objs.size=D at *;generalize hC':H2.objs.size=C at *;have I0:Inv (cxC X scope cl' C N' s H fp) [] (hideT ts U) H {s with heap:=h₁,toks:=s.toks+([]:Ac (An×Ai)).length}:=gD (tk:=s.toks+([]:Ac (An×Ai)).length) I B hf (λb hb=>by rw[hD];exact hfo b hb) bc old (by rw[hD];exact hCle) hns₁
 have nD:H D=Af:=I.hok.fresh (by rw[hD];exact A1 _)
 have noD:∀ b∈fp,b≠D:=λb hb=>Bb (hfo b hb)
 have noC:∀ b∈fp,b≠C:=λb hb=>below b (hfo b hb)
 have stfs:D∉frs X.stack:=λz=>by
  obtain⟨_,o,ho,_⟩:=I.stack.mem z;exact absurd (AE ho) (by rw[hD];exact Bx _)
 have cD:∀ x c,cl'.lookup x=Ab c->c≠D:=λx c e z=>by
  rcases bc.own x c e with q|⟨_,q,_⟩
  .obtain⟨v,q⟩:=I.cell x c q;exact absurd q.lt (by rw[z,hD];exact Bx _)
  .rw[z]at q;exact absurd (AI q hCle) (Bx _)
 have I1:Inv (cxC X scope cl' C N' s H fp) [(D,{ cls:=.type "list",data:=.seq ([]:Ac Ai).toArray 0 })] (hideT ts U) H {s with heap:=h₁,toks:=s.toks+([]:Ac (An×Ai)).length}:=I0.pins_of λp hp=>by
  have e:=AR.mp hp;subst e;exact⟨hacc,nD,hDC,stfs,λv z=>by
   have z':L8 _ _=L7 v:=z;cases z'⟩
 have st1:tn 0 h₁:=T.keep _ _ _ st λb _ o e=>old b o e
 obtain⟨W,⟨m0,w0⟩,turn⟩:=h;have fpk:∀{pl:Pn}{H':Hp},(∀ p∈pl,p.1=D)->(∀ b∈fp,H' b=Af)->∀ b∈fp,Hh (cxC X scope cl' C N' s H fp) pl H' b:=λ{pl H'} hp hn b hb=>
  ⟨hn b hb,noC b hb,λz=>by
   rcases Au.mp (I.stkSub b z) with e|e
   .exact(hf b hb).2.1 e
   .exact(hf b hb).2.2.1 e,.inl hb,λx c e=>(bc.own x c e).elim ((hf b hb).2.2.2.2.1 x c) (λz q=>absurd (Eb hCle z.2.1) (FY.mpr (by rw[q];exact E8 (hfo b hb)))),λp hp'=>by
   have hp2:p∈pl:=hp';rw[hp p hp2];exact(noD b hb).symm⟩
 have loop:∀ s₃:As,s₃={s with heap:=h₁,toks:=s.toks+([]:Ac (An×Ai)).length} ->
   F1 (model X.prog X.w) X.A (.compLoop (.ListComp elt [⟨tg,iter,ifs,0⟩] scope pos) 0 (.ref it) (.ref D) (compEnvC scope cl' C X.env)) (RR (.ref D) C) s₃:=by
  rintro s₃ rfl;refine gC (λk s'=>∃ i U' H' xs ys n,Inv (cxC X scope cl' C N' s H fp) [(D,{ cls:=.type "list",data:=.seq (GH ys) n })] U' H' s'/\tn i s'.heap/\(∀ b∈fp,H' b=Af)/\Bk xs ys/\xs.length<=sizeLine/\W i k xs U' H') ?_ m0
   ⟨0,_,H,[],[],0,I1,st1,λb hb=>(hf b hb).1,.nil,Gh _,w0⟩
  rintro k s' ⟨i,U',H',xs,ys,n,I',st',fr',rv,hz,w'⟩;have one:∀ p∈[((D,{ cls:=.type "list",data:=.seq (GH ys) n }):Ak×Dk)],p.1=D:=λp hp=>by rw[AR.mp hp]
  rcases turn i k xs U' H' w' with ⟨stop,q⟩|⟨go,hlt,step⟩
  .refine CW (T.done (cxC X scope cl' C N' s H fp) rfl rfl rfl hc i _ s' U' H' (λ_ _=>Bu) I' (fpk one fr') st' stop) (λr s1 ⟨hr,J1⟩=>?_) λ_ _ f=>f.elim
   subst hr;obtain⟨e,hn,_⟩:=J1.pin _ (Bw _ Aw);obtain⟨m,hm,_⟩:=J1.loc;exact hRR cl' D C s1 H' U' _ xs ys n m J1 e hn rv hz (A1 _) hDC hCle hm (q D hn)
  .refine CW (T.item (cxC X scope cl' C N' s H fp) rfl rfl rfl hc i _ s' U' H' (λ_ _=>Bu) I' (fpk one fr') st' go) (λr s1 ⟨u,hr,h4⟩=>?_) λ_ _ f=>f.elim
   subst hr;refine CW h4 (λ_ s5 ⟨x,H5,I5,r5,y5,st5,fr5⟩=>?_) λ_ _ f=>f.elim
   have I5':=I5.pinned (fpk one fr5) (T.obj _ _ st5);refine CW (hg cl' C s H _ s5 U' H5 x u _ I5' r5 (step x H5 y5)) (λ_ s6 ⟨U6,H6,I6,q6⟩=>?_) λ_ _ f=>f.elim
   refine CW (ht cl' C s H _ s6 U6 H6 _ I6 q6) (λok s7 ⟨H7,I7,q7⟩=>?_) λ_ _ f=>f.elim
   have again:∀{s8:As}{H8:Hp}{ys':Ac Ai}{n':Ag},Inv (cxC X scope cl' C N' s H fp) ((D,{ cls:=.type "list",data:=.seq (GH ys') n' })::KA fp s5.heap) U6 H8 s8->Inv (cxC X scope cl' C N' s H fp) [(D,{ cls:=.type "list",data:=.seq (GH ys') n' })] U6 H8 s8/\tn (i+1) s8.heap/\∀ b∈fp,H8 b=Af:=λ{s8 H8 ys' n'} I8=>
    ⟨I8.pins_of λp hp=>I8.pin p (Bw _ (by rw[AR.mp hp];exact Aw)),T.keep _ _ _ st5 λb hb o e=>(I8.pin (b,o) (Bw _ (Av _ (Nq hb e)))).1,λb hb=>by
     obtain⟨o,e,d⟩:=T.obj _ _ st5 b hb;exact(I8.pin (b,o) (Bw _ (Av _ (Nq hb e)))).2.1⟩
   cases ok with
   |false=>
    rw[AN (by decide)]at q7
    obtain⟨m',hm,w7⟩:=q7;obtain⟨a1,a2,a3⟩:=again I7;rw[AN (by decide)]
    exact⟨m',hm,i+1,U6,H7,xs,ys,n,a1,a2,a3,rv,hz,w7⟩
   |true=>
    rw[AF rfl]at q7;rw[AF rfl];refine CW (he cl' C s H _ s7 U6 H7 _ I7 q7) (λval s8 ⟨y,H8,I8,r8,m',hm,w8⟩=>?_) λ_ _ f=>f.elim
    have hl:=rv.length;refine iN (X:=cxC X scope cl' C N' s H fp) (ys:=ys) (n:=n) (pI:=KA fp s5.heap) I8 (by show s.heap.objs.size<=D;rw[hD];exact A1 _) (λp hp=>?_) cD (by omega) λs9 I9 kb=>?_
    .have hp2:p∈KA fp s5.heap:=hp;exact noD _ (TZ hp2).1
    .obtain⟨a1,a2,a3⟩:=again I9;exact⟨m',hm,i+1,U6,H8,xs++[y],ys++[val],n+1,a1,a2,a3,rv.append (.cons r8 .nil),by rw[A4];exact hlt,w8⟩
 exact codeAny_compStart_list (loop _ rfl) (T.self _ 0 _ _ _ st1 (loop _ rfl))
theorem sU{g:TG}(hc:X.calm=Aa)(B:BlockOk X scope N' ts)(hi:PI X tg iter wi)(hg:∀ cl C s H fp,PG (cxC X scope cl C N' s H fp) tg g)(ht:∀ cl C s H fp,PTs (cxC X scope cl C N' s H fp) ifs tt)(he:∀ cl C s H fp,PE (cxC X scope cl C N' s H fp) elt te)(hs:∀ x,Dr iter X.env x=pure x):PE X (.ListComp elt [⟨tg,iter,ifs,0⟩] scope pos) (λU H Q=>wi U H λJ H1=>Mp J ts g tt te U H1 Q):=by
 intro pI s U H Q I h;obtain⟨cl,hclos,hcl,hcl2⟩:=Tp (scope:=scope) (env:=X.env) λx hx hk=>I.ok.has x.1 ((B.free x hx hk).imp id id)
 rw[eval_ListComp];refine aH (use:=Af) rfl hs hclos B.kind B.names (thn (hi pI s U H _ I h) λv s1 h1=>thn h1 λitv s2 h2=>?_)
 obtain⟨it,fp,tn,J,H2,e,I2,T,st2,f2,h3⟩:=h2;subst e;refine UI (RR:=λacc C=>compPost (model X.prog X.w) X.A X.xe Af (EP X pI U Q) acc C) hc B I2 T st2 f2 hcl hcl2 (λcl C s H=>hg cl C s H fp) (λcl C s H=>ht cl C s H fp) (λcl C s H=>he cl C s H fp) h3 λcl' D C s' H' U' pins' xs ys n m I' hd hDn rv hz hD hDC hC hm q=>?_
 exact⟨m,hm,λh'' hs''=>⟨.ref D,_,Uq I2 f2 I' hD hDC hC hd hDn rv hz hs'',rfl,q⟩⟩
theorem pV{n:An}{g:TG}(hc:X.calm=Aa)(B:BlockOk X scope N' ts)(hi:PI X tg iter wi)(hg:∀ cl C s H fp,PG (cxC X scope cl C N' s H fp) tg g)(ht:∀ cl C s H fp,PTs (cxC X scope cl C N' s H fp) ifs tt)(he:∀ cl C s H fp,PE (cxC X scope cl C N' s H fp) elt te)(hs:∀ x,Dr iter X.env x=pure x)(hN:X.N.Nodup)(hni:X.N[i]?=Ab n)(hx:X.env.scope.names.lookup n=Ab .local)(hsw:DQ (.ListComp elt [⟨tg,iter,ifs,0⟩] scope pos) (Ab (.Name n pos')) pos2.line X.env=pure Aa):PS X (.Assign [.Name n pos'] (.ListComp elt [⟨tg,iter,ifs,0⟩] scope pos) pos2) (Ou (λU H Q=>wi U H λJ H1=>Mp J ts g tt te U H1 Q) (F8 i)):=by
 intro pI s U H Dn I h;obtain⟨cl,hclos,hcl,hcl2⟩:=Tp (scope:=scope) (env:=X.env) λx hx hk=>I.ok.has x.1 ((B.free x hx hk).imp id id)
 rw[exec_Assign_Name_used _ _ _ _ hsw];refine Ah (Jx (Ah ?_));show Az _ X.A (do let _ <-comprehension (.ListComp elt [⟨tg,iter,ifs,0⟩] scope pos) scope X.env _ (newList []) Ae (eval iter X.env) (Ab (assign (.Name n pos') X.env))) _ _ s
 refine Ah (CW (aH (use:=Ab (assign (.Name n pos') X.env)) (Q:=λ_ s'=>SP X pI Dn .next s') rfl hs hclos B.kind B.names
  (thn (hi pI s U H _ I h) λv s1 h1=>thn h1 λitv s2 h2=>?_)) (λ_ s' hq=>Ax (Ax hq)) λ_ _ e=>e)
 obtain⟨it,fp,tn,J,H2,e,I2,T,st2,f2,h3⟩:=h2;subst e;refine UI (RR:=λacc C=>compPost (model X.prog X.w) X.A X.xe (Ab (assign (.Name n pos') X.env)) (λ_ s'=>SP X pI Dn .next s') acc C) hc B I2 T st2 f2 hcl hcl2 (λcl C s H=>hg cl C s H fp) (λcl C s H=>ht cl C s H fp) (λcl C s H=>he cl C s H fp) h3 λcl' D C s' H' U' pins' xs ys n' m I' hd hDn rv hz hD hDC hC hm q=>?_
 have J0:Inv X pI U (upd H' D (.lst xs)) s':=Uq I2 f2 I' hD hDC hC hd hDn rv hz (Heap.SameBut.refl ..);refine aG (TJ J0 hN hni (.inl hx) (show BP (.ref D) (.ref D) from rfl) (λs'' J1 ⟨a,sb,ha⟩=>?_) (.inr hx))
 have hC0:X.s₀.heap.objs.size<=C:=Cn I2.sz hC;have hL:C≠X.env.locals:=λz=>absurd (AI I2.lt (z ▸ hC)) (Bx _)
 have hcC:∀ x c,X.env.cells.lookup x=Ab c->c≠C:=λx c e z=>by
  obtain⟨v,q'⟩:=I2.cell x c e;exact absurd (AI q'.lt (by rw[z];exact hC)) (Bx _)
 have hp:∀ p∈X.pn++pI,p.1≠C:=λp hp z=>absurd (AI (AE (I2.pin p hp).1) (by rw[z];exact hC)) (Bx _)
 have hCn:upd H' D (.lst xs) C=Af:=by rw[DF hDC.symm];exact I'.free
 have hCa:C≠a:=by
  rcases ha with rfl|ha
  .exact hL
  .exact λz=>hcC n a ha z.symm
 refine⟨m,hm.sameBut sb hCa,λh'' hs''=>⟨_,_,J1.turned (t':=s''.toks) (λb o hb e=>(hs''.2 b hb).trans e) hCn hL (.inr hC0) hcC hp,q⟩⟩
theorem Ld:∀(ts:Ac Ag)(Y:Rho)(j:Ag),(FV ts Y)[j]?=if j∈ts then (Y[j]?).map (λ_=>Af) else Y[j]?
 |[],Y,j=>by simp[FV]
 |t::ts,Y,j=>by
  show (FV ts (Y.set t Af))[j]?=_;rw[Ld ts];by_cases h1:j∈ts
  .rw[AF h1,AF (Av _ h1)];by_cases h2:t=j
   .subst h2;rw[F3];cases Y[t]?<;>rfl
   .rw[Dm h2]
  .rw[AN h1];by_cases h2:t=j
   .subst h2;rw[AF Aw,F3];cases Y[t]?<;>rfl
   .rw[Dm h2,AN (by simp only[Au,Dh];exact⟨λz=>h2 z.symm,h1⟩)]
theorem No:∀(ts:Ac Ag)(Y:Rho),(FV ts Y).length=Y.length
 |[],_=>rfl
 |t::ts,Y=>by show (FV ts (Y.set t Af)).length=_;rw[No ts,BH]
theorem PK:∀(ts:Ac Ag)(U:L2.St){i:Ag},i∉ts->(hideT ts U)[i]?=U[i]?
 |[],_,_,_=>rfl
 |t::ts,U,i,h=>by
  simp only[Au,Dh]at h;show (hideT ts (U.set t Af))[i]?=_;rw[PK ts _ h.2,Dm (λz=>h.1 z.symm)]
theorem Tb:∀(ts:Ac Ag)(ds:Ac D)(Y1 Y2:Rho),Y1.length=Y2.length->(∀ j,j∉ts->Y1[j]?=Y2[j]?)->Ff ts ds Y1=Ff ts ds Y2
 |[],[],Y1,Y2,hl,h=>congrArg Ab (Yi λj=>h j (by simp))
 |[],_::_,_,_,_,_=>rfl
 |_::_,[],_,_,_,_=>rfl
 |t::ts,d::ds,Y1,Y2,hl,h=>by
  refine Tb ts ds _ _ (by rw[BH,BH];exact hl) λj hj=>?_
  by_cases e:t=j
  .subst e;rw[HG,HG,AF rfl,AF rfl,hl]
  .rw[Dm e,Dm e];exact h j (by simp only[Au,Dh];exact⟨λz=>e z.symm,hj⟩)
theorem S8:∀(ts us:Ac Ag)(ds:Ac D)(Y Y':Rho),(∀ t∈ts,t∈us)->Ff ts ds Y=Ab Y'->FV us Y'=FV us Y
 |[],us,[],Y,Y',_,e=>by cases e;rfl
 |t::ts,us,d::ds,Y,Y',hs,e=>by
  rw[S8 ts us ds _ Y' (λu hu=>hs u (Av _ hu)) e]
  refine Yi λj=>?_
  rw[Ld,Ld];by_cases h:j∈us
  .rw[AF h,AF h,HG];split
   .rename_i e2;subst e2;split
    .rename_i h3;rw[Cm h3];rfl
    .rename_i h3;rw[List.getElem?_eq_none (by omega)]
   .rfl
  .rw[AN h,AN h,Dm];rintro rfl;exact h (hs _ Aw)
 |[],_,_::_,_,_,_,e=>by cases e
 |_::_,_,[],_,_,_,e=>by cases e
section
variable{K:Fg}{CL:ClA}{A:Ak->Prop}{Y Y':Rho}{U:L2.St}{H:Hp}
theorem Good.less(g:Good K CL A Y U H)(hl:Y'.length=Y.length)(h:∀(i:Ag)(d:D)(o:Al),Y'[i]?=Ab (Ab (d,o))->Y[i]?=Ab (Ab (d,o))):Good K CL A Y' U H:=⟨λi d e=>g.sh i d (h i d Ae e),λi d e=>g.ow i d (h i d Aa e),hl.trans g.len⟩
theorem Good.put(g:Good K CL A Y U H)(t:Ag)(r:Rep K CL H A v d):Good K CL A (Y.set t (Ab (d,Ae))) (U.set t (Ab v)) H:=by
 refine⟨λj e h=>?_,λj e h=>?_,by rw[BH,BH];exact g.len⟩
 .by_cases hj:t=j
  .subst hj;have e1:=HX h;cases e1;have hl:t<U.length:=by
    rw[<-g.len];have:=(Bf.mp h).1;simpa using this
   exact⟨v,by rw[DB hl],r⟩
  .rw[Dm hj]at h;obtain⟨w',q,rw'⟩:=g.sh j e h;exact⟨w',by rw[Dm hj];exact q,rw'⟩
 .have hj:t≠j:=by
   rintro rfl;have:=HX h;cases this
  rw[Dm hj]at h;obtain⟨a,xs,q,z⟩:=g.ow j e h;exact⟨a,xs,by rw[Dm hj];exact q,z⟩
theorem Good.hide(g:Good K CL A Y U H)(ts:Ac Ag):Good K CL A (FV ts Y) U H:=g.less (No _ _) λi d o e=>by
 rw[Ld]at e;split at e
 .cases q:Y[i]? with
  |none=>rw[q]at e;cases e
  |some x=>rw[q]at e;cases e
 .exact e
theorem Good.hideT(g:Good K CL A Y U H)(ts:Ac Ag):Good K CL A (FV ts Y) (hideT ts U) H:=by
 have key:∀ i x,(FV ts Y)[i]?=Ab (Ab x)->Y[i]?=Ab (Ab x)/\i∉ts:=λi x e=>by
  rw[Ld]at e;split at e
  .cases q:Y[i]? with
   |none=>rw[q]at e;cases e
   |some x=>rw[q]at e;cases e
  .exact⟨e,by assumption⟩
 refine⟨λi d e=>?_,λi d e=>?_,by rw[No,Qc];exact g.len⟩
 .obtain⟨e1,e2⟩:=key i _ e;obtain⟨v,q,r⟩:=g.sh i d e1;exact⟨v,by rw[PK _ _ e2];exact q,r⟩
 .obtain⟨e1,e2⟩:=key i _ e;obtain⟨a,xs,q,r⟩:=g.ow i d e1;exact⟨a,xs,by rw[PK _ _ e2];exact q,r⟩
end
def GG(K:Fg)(CL:ClA)(ts:Ac Ag)(as:D->Rho->R Rho)(g:TG):Prop:=∀ A Y U H v d Y' Q,Good K CL A (FV ts Y) U H->Rep K CL H A v d->as d Y=.ok Y'->(∀ U',Good K CL A Y' U' H->Good K CL A (FV ts Y) U' H->Q U' H)->g v U H Q
theorem vD(i:Ag):GG K CL [i] (λd Y=>.ok (Y.set i (Ab (d,Ae)))) (F8 i):=λA Y U H v d Y' Q g r e k=>by
 cases e;have g2:=g.put i r;have e1:(FV [i] Y).set i (Ab (d,Ae))=Y.set i (Ab (d,Ae)):=by
  show (Y.set i Af).set i (Ab (d,Ae))=_;rw[Yx]
 rw[e1]at g2;refine k _ g2 ?_;have:=g2.hide [i];have e2:FV [i] (Y.set i (Ab (d,Ae)))=FV [i] Y:=by
  show (Y.set i _).set i Af=Y.set i Af;rw[Yx]
 rw[e2]at this;exact this
theorem Vy{K:Fg}{CL:ClA}{A:Ak->Prop}{H:Hp}:∀(ts:Ac Ag)(ds:Ac D)(vs:Ac V)(Y Y':Rho)(U:L2.St)(Q:L2.St->Hp->Prop),Good K CL A Y U H->Reps K CL H A vs ds->Ff ts ds Y=Ab Y'->(∀ U',Good K CL A Y' U' H->Q U' H)->(ts.foldr (λt u=>Jn (F8 t) u) Jr) vs U H Q
 |[],[],[],Y,Y',U,Q,x,_,e,k=>by
  cases e;exact⟨rfl,k U x⟩
 |t::ts,d::ds,v::vs,Y,Y',U,Q,x,r,e,k=>⟨v,vs,rfl,Vy ts ds vs _ Y' _ Q (x.put t r.1) r.2 e k⟩
 |[],_::_,_,_,_,_,_,_,_,e,_=>by cases e
 |_::_,[],_,_,_,_,_,_,_,e,_=>by cases e
 |[],[],_::_,_,_,_,_,_,r,_,_=>r.elim
 |_::_,_::_,[],_,_,_,_,_,r,_,_=>r.elim
theorem eh(ts:Ac Ag):GG K CL ts (F7 ts) (MU K ts.length (ts.foldr (λt u=>Jn (F8 t) u) Jr)):=λA Y U H v d Y' Q g r e k=>by
 cases d with
 |tup ds=>
  obtain⟨a,xs,rfl,na,sq,rs⟩:=r;rw[Tr]at e;cases e2:Ff ts ds Y with
  |none=>rw[e2]at e;cases e
  |some Y2=>
   rw[e2]at e;cases e;have e3:Ff ts ds (FV ts Y)=Ab Y':=by
    rw[<-e2];exact Tb ts ds _ _ (No _ _) λj hj=>by rw[Ld,AN hj]
   refine⟨a,xs,rfl,sq,by rw[rs.length];exact PH _ _ _ _ e2,Vy ts ds xs _ Y' U Q g rs e3 λU' g'=>k U' g' ?_⟩
   have:=g'.hide ts;rw[S8 ts ts ds Y Y' (λ_ h=>h) e2]at this
   exact this
 |_=>cases e
noncomputable abbrev W0:XW:=λ_ _=>Bu
def STs(X:Cx)(CL:ClA)(ifs:Ac Ao)(f:Rho->R Al):Prop:=∀ A,PTs X ifs (λU H Q=>AOk H A/\∃ Y,Good X.K CL A Y U H/\DG W0 H (f Y) Q)
theorem nZ:STs X CL [] (λ_=>.ok Aa):=λA pI s U H Q I ⟨hA,Y,g,p⟩=>pS pI s U H Q I (p H (AH.refl H))
theorem nY(h:SB X CL W0 c f):STs X CL [c] f:=λA pI s U H Q I q=>pR (h A) pI s U H Q I q
section
variable{X:Cx}{CL:ClA}{W:XW}{tg iter elt:Ao}{ifs:Ac Ao}{scope:Cu}{pos:AX}{N':Ac An}{ts:Ac Ag}{fi:Rho->R (Ac D)}{fc:Rho->R Al}{fe:Rho->R D}{as:D->Rho->R Rho}{g:TG}
theorem gB{g:D->R Al}{f:D->R D}{x:D}{xs ys:Ac D}(h:BR g f (x::xs)=.ok ys):(g x=.ok Ae/\BR g f xs=.ok ys)\/∃ y r,g x=.ok Aa/\f x=.ok y/\BR g f xs=.ok r/\ys=y::r:=by
 unfold BR at h;cases e:g x with
 |bad=>rw[e]at h;cases h
 |exn z=>rw[e]at h;cases h
 |ok b=>
  rw[e,R.bind_ok]at h;cases b with
  |false=>exact .inl ⟨rfl,h⟩
  |true=>
   rw[AF rfl]at h;cases e2:f x with
   |bad=>rw[e2]at h;cases h
   |exn z=>rw[e2]at h;cases h
   |ok y=>
    rw[e2,R.bind_ok]at h;cases e3:BR g f xs with
    |bad=>rw[e3]at h;cases h
    |exn z=>rw[e3]at h;cases h
    |ok r=>
     rw[e3,R.bind_ok]at h;cases h;exact .inr ⟨y,r,rfl,rfl,rfl,rfl⟩
theorem Kn{β:Type}{r:R α}{f:α->R β}{b:β}(h:r.bind f=.ok b):∃ a,r=.ok a/\f a=.ok b:=by
 cases r with
 |ok a=>exact⟨a,rfl,h⟩
 |exn x=>cases h
 |bad=>cases h
theorem kH{ds ys:Ac D}(hGG:GG K CL ts as g)(hA:AOk H1 A)(gd:Good K CL A Y U H1)(yl:Js K CL A ds J H1)(hz:ds.length<=sizeLine)(hcp:BR (λx=>(as x Y).bind fc) (λx=>(as x Y).bind fe) ds=.ok ys)(q:∀ xs H2,AH H1 H2->Reps K CL H2 A xs ys->∀ p,H2 p=Af->Q (.ref p) (upd H2 p (.lst xs))):Mp J ts g (λU H Q=>AOk H A/\∃ Y,Good K CL A Y U H/\DG W0 H (fc Y) Q) (λU H Q=>AOk H A/\∃ Y,Good K CL A Y U H/\Br (λH=>Rep K CL H A) W0 H (fe Y) Q) U H1 Q:=by
 refine⟨λi m xs U' H'=>m=ds.length-i/\i<=ds.length/\xs.length<=i/\AH H1 H'/\Good K CL A (FV ts Y) U' H'/\∃ outs rest,Reps K CL H' A xs outs/\BR (λx=>(as x Y).bind fc) (λx=>(as x Y).bind fe) (ds.drop i)=.ok rest/\ys=outs++rest,
  ⟨ds.length,by simp,Gh _,A1 _,AH.refl _,gd.hideT ts,[],ys,trivial,hcp,rfl⟩,?_⟩
 rintro i m xs U' H' ⟨rfl,hi,hxl,sm,g',outs,rest,rs,hc,e⟩;obtain⟨yst,ygo⟩:=yl H' (Kp.of sm) i;by_cases hlt:i<ds.length
 .have hd:ds[i]?=Ab ds[i]:=Cm hlt;obtain⟨hgo,hyl⟩:=ygo _ hd;refine .inr ⟨hgo,by omega,λx H2 hx=>?_⟩
  obtain⟨s2,rx⟩:=hyl x H2 hx;have rx':=rx A (λa ha=>.inl ha) (hA.same sm)
  rw[Yg hlt]at hc;have sm2:=sm.trans s2;rcases gB hc with ⟨h1,h2⟩|⟨y,r,h1,h2,h3,h4⟩
  .obtain⟨Y',ea,ec⟩:=Kn h1;refine hGG A Y U' H2 x ds[i] Y' _ (g'.same s2) rx' ea λU3 g3 g4=>⟨hA.same sm2,Y',g3,?_⟩
   rw[ec];exact λH3 s3=>by
    dsimp only;rw[AN (by decide)]
    exact⟨ds.length-(i+1),by omega,rfl,hlt,by omega,sm2.trans s3,g4.same s3,outs,rest,(rs.same s2).same s3,h2,e⟩
  .obtain⟨Y',ea,ec⟩:=Kn h1;obtain⟨Y2,ea2,ee⟩:=Kn h2;rw[ea]at ea2;cases ea2;refine hGG A Y U' H2 x ds[i] Y' _ (g'.same s2) rx' ea λU3 g3 g4=>⟨hA.same sm2,Y',g3,?_⟩
   rw[ec];exact λH3 s3=>by
    dsimp only;rw[AF rfl];refine⟨(hA.same sm2).same s3,Y',g3.same s3,?_⟩;rw[ee];exact λv H4 s4 r4=>⟨ds.length-(i+1),by omega,rfl,hlt,by rw[A4,Bq];omega,(sm2.trans s3).trans s4,(g4.same s3).same s4,outs++[y],r,(((rs.same s2).same s3).same s4).append ⟨r4,trivial⟩,h3,by rw[e,h4];simp⟩
 .have hk':ds.length<=i:=by omega
  rw[Yh hk']at hc;have hr:rest=[]:=by cases hc;rfl
  subst hr;rw[Du]at e;subst e;exact .inl ⟨yst hk',λp hp=>q xs H' sm rs p hp⟩
theorem Fv.ok_of{r:R (Ac D)}{f:Ac D->R D}{Q':It->Hp->Prop}(h:Br Rq W H (r.bind f) Q)(k:∀ ds J H',r=.ok ds->AH H H'->Js K CL A ds J H'->ds.length<=sizeLine->Br Rq W H' (f ds) Q->Q' J H'):Fv K CL A W H r Q':=by
 cases r with
 |ok d=>exact λJ H2 s2 y z=>k d J H2 rfl s2 y z (Br.same s2 h)
 |exn x=>exact h
 |bad=>exact h
theorem gu{r:R α}{a:α}(h:noX r=.ok a):r=.ok a:=by
 cases r with
 |ok b=>exact h
 |exn x=>cases h
 |bad=>cases h
theorem TD(hGG:GG X.K CL ts as g)(hA:AOk H A)(gd:Good X.K CL A Y U H)(p:Br (Fi X.K CL Aa H A) W H ((fi Y).bind λxs=>(noX (BR (λx=>(as x Y).bind fc) (λx=>(as x Y).bind fe) xs)).bind λys=>.ok (.lst ys)) Q):Fv X.K CL A W H (fi Y) (λJ H1=>Mp J ts g (λU H Q=>AOk H A/\∃ Y,Good X.K CL A Y U H/\DG W0 H (fc Y) Q) (λU H Q=>AOk H A/\∃ Y,Good X.K CL A Y U H/\Br (λH=>Rep X.K CL H A) W0 H (fe Y) Q) U H1 Q):=
 Fv.ok_of p λds J H1 e1 s1 yl hz p1=>by
  cases e2:noX (BR (λx=>(as x Y).bind fc) (λx=>(as x Y).bind fe) ds) with
  |ok ys=>
   rw[e2]at p1;exact kH hGG (hA.same s1) (gd.same s1) yl hz (gu e2) λxs H2 s2 rs q hq=>p1 _ _ (s2.trans (Gv hq _)) (Lk (s1.trans s2) ((hA.same s1).same s2) hq rs)
  |exn x=>rw[e2]at p1;cases hq:BR (λx=>(as x Y).bind fc) (λx=>(as x Y).bind fe) ds<;>rw[hq]at e2<;>cases e2
  |bad=>rw[e2]at p1;exact p1.elim
theorem rK(hc:X.calm=Aa)(B:BlockOk X scope N' ts)(hi:SI X CL W tg iter fi)(hGG:GG X.K CL ts as g)(hg:∀ cl C s H fp,PG (cxC X scope cl C N' s H fp) tg g)(ht:∀ cl C s H fp,STs (cxC X scope cl C N' s H fp) CL ifs fc)(he:∀ cl C s H fp,SE (cxC X scope cl C N' s H fp) CL W0 elt fe)(hs:∀ x,Dr iter X.env x=pure x):SC X CL W Aa (.ListComp elt [⟨tg,iter,ifs,0⟩] scope pos) (λY=>(fi Y).bind λxs=>(noX (BR (λx=>(as x Y).bind fc) (λx=>(as x Y).bind fe) xs)).bind λys=>.ok (.lst ys)):=λA pI s U H Q I ⟨hA,Y,gd,p⟩=>
 sU hc B (hi A) hg (λcl C s H fp=>ht cl C s H fp A) (λcl C s H fp=>he cl C s H fp A) hs pI s U H Q I ⟨hA,Y,gd,TD hGG hA gd p⟩
end
section
variable{K:Fg}{CL:ClA}{Fz:Ak->HO->Prop}{B:Ak->Prop}{Y:Rho}{U:L2.St}{H H':Hp}
theorem Ds.rep(h:Ds K CL H A a o d)(na:¬ A' a)(hh:H a=Ab o)(sub:∀ b,A' b->A b):Rep K CL H A' (.ref a) d:=by
 rcases h with ⟨xs,ds,rfl,rfl,r⟩|⟨es,ds,rfl,rfl,r⟩
 .exact⟨a,xs,rfl,.inl na,SqL.of hh,Reps.sub sub _ r⟩
 .exact⟨a,es,rfl,na,hh,Repk.sub sub _ r⟩
theorem Sx.setO(x:Sx K CL Fz B Y U H)(s:AH H H'){u:HO}(h0:H a=Af)(h1:H' a=Ab u)(r:Ds K CL H' (λb=>Cp B Y U b\/b=a) a u d):Sx K CL Fz B (Y.set i (Ab (d,Aa))) (U.set i (Ab (.ref a))) H':=by
 have nA:¬ Cp B Y U a:=x.aok.new h0;have own:∀(j:Ag)(e:D),(Y.set i (Ab (d,Aa)))[j]?=Ab (Ab (e,Aa))->(i=j/\e=d)\/(i≠j/\Y[j]?=Ab (Ab (e,Aa))):=λj e h=>by
  by_cases hj:i=j
  .subst hj;have:=HX h;cases this;exact .inl ⟨rfl,rfl⟩
  .exact .inr ⟨hj,by rw[Dm hj]at h;exact h⟩
 have atI:∀{j:Ag}{y:Sl},(Y.set i (Ab (d,Aa)))[j]?=Ab y->i=j->(U.set i (Ab (.ref a)))[j]?=Ab (Ab (.ref a)):=λ{j y} h e=>by
  subst e;have hl:i<U.length:=by
   rw[<-x.len];have:=(Bf.mp h).1;simpa using this
  rw[DB hl]
 have sub:∀ b,Cp B (Y.set i (Ab (d,Aa))) (U.set i (Ab (.ref a))) b->Cp B Y U b\/b=a:=λb h=>by
  rcases h with h|⟨j,e,h1,h2⟩
  .exact .inl (.inl h)
  .rcases own j e h1 with ⟨hj,_⟩|⟨hj,h1'⟩
   .rw[atI h1 hj]at h2;cases h2;exact .inr rfl
   .rw[Dm hj]at h2;exact .inl (.inr ⟨j,e,h1',h2⟩)
 have wide:∀{v:V}{e:D},Rep K CL H (Cp B Y U) v e->Rep K CL H' (Cp B (Y.set i (Ab (d,Aa))) (U.set i (Ab (.ref a)))) v e:=λr=>(Rep.wide (λb hb=>(sub b hb).imp id λe=>by rw[e];exact h0) _ r).same s
 have wides:∀{b:Ak}{o:HO}{e:D},Ds K CL H (Cp B Y U) b o e->Ds K CL H' (Cp B (Y.set i (Ab (d,Aa))) (U.set i (Ab (.ref a)))) b o e:=λr=>(r.wide (λb hb=>(sub b hb).imp id λe=>by rw[e];exact h0)).same s
 refine⟨⟨λj e h=>?_,λj e h=>?_,by rw[BH,BH];exact x.len⟩,λb h=>?_,λj e b g1 g2=>?_,λj k e f b g1 g2 g3 g4=>?_,λb o z=>s _ _ (x.same b o z),by rw[BH,BH];exact x.len⟩
 .have hj:i≠j:=by
   rintro rfl;have:=HX h;cases this
  rw[Dm hj]at h;obtain⟨w',q,rw'⟩:=x.good.sh j e h;exact⟨w',by rw[Dm hj];exact q,wide rw'⟩
 .rcases own j e h with ⟨hj,rfl⟩|⟨hj,h'⟩
  .have q:=atI h hj;exact⟨a,u,q,.inr ⟨j,_,h,q⟩,h1,r.sub sub⟩
  .obtain⟨b,o,q,ha,hh,rr⟩:=x.good.ow j e h';have q':(U.set i (Ab (.ref a)))[j]?=Ab (Ab (.ref b)):=by rw[Dm hj];exact q
   exact⟨b,o,q',.inr ⟨j,e,h,q'⟩,s _ _ hh,wides rr⟩
 .rcases sub b h with z|z
  .obtain⟨ys,q,w⟩:=x.aok b z;exact⟨ys,s _ _ q,w⟩
  .rw[z];exact⟨u,h1,r.owk⟩
 .rcases own j e g1 with ⟨hj,_⟩|⟨hj,h'⟩
  .rw[atI g1 hj]at g2;cases g2;refine⟨λo z=>?_,λz=>nA (.inl z)⟩
   have:=x.same a o z;rw[h0]at this;cases this
  .rw[Dm hj]at g2;exact x.new j e b h' g2
 .rcases own j e g1 with ⟨hj,_⟩|⟨hj,h'⟩
  .rw[atI g1 hj]at g3;cases g3;rcases own k f g2 with ⟨hk,_⟩|⟨hk,h''⟩
   .exact hj.symm.trans hk
   .rw[Dm hk]at g4;exact absurd (.inr ⟨k,f,h'',g4⟩) nA
  .rw[Dm hj]at g3;rcases own k f g2 with ⟨hk,_⟩|⟨hk,h''⟩
   .rw[atI g2 hk]at g4;cases g4;exact absurd (.inr ⟨j,e,h',g3⟩) nA
   .rw[Dm hk]at g4;exact x.dis j k e f b h' h'' g3 g4
theorem Sx.setF(x:Sx K CL Fz B Y U H)(s:AH H H'){ds:Ac D}(h0:H a=Af)(h1:H' a=Ab (.lst xs))(r:Reps K CL H' (λb=>Cp B Y U b\/b=a) xs ds):Sx K CL Fz B (Y.set i (Ab (.lst ds,Aa))) (U.set i (Ab (.ref a))) H':=x.setO s h0 h1 (.lst r)
theorem Sx.updO(x:Sx K CL Fz B Y U H){u:HO}{d':D}(hi:Y[i]?=Ab (Ab (d,Aa)))(ha:U[i]?=Ab (Ab (.ref a)))(r:Ds K CL H (Cp B Y U) a u d'):Sx K CL Fz B (Y.set i (Ab (d',Aa))) U (L2.upd H a u):=by
 have oa:Cp B Y U a:=.inr ⟨i,d,hi,ha⟩;have hil:i<Y.length:=(Bf.mp hi).1;have get:∀(j:Ag)(e:D),(Y.set i (Ab (d',Aa)))[j]?=Ab (Ab (e,Aa))↔(i=j/\e=d')\/(i≠j/\Y[j]?=Ab (Ab (e,Aa))):=λj e=>by
  by_cases hj:i=j
  .subst hj;rw[DB hil];simp;exact⟨λz=>z.symm,λz=>z.symm⟩
  .rw[Dm hj];simp[hj]
 have same:∀ b,Cp B (Y.set i (Ab (d',Aa))) U b↔Cp B Y U b:=λb=>by
  constructor
  .rintro (h|⟨j,e,h1,h2⟩)
   .exact .inl h
   .rcases (get j e).mp h1 with ⟨rfl,_⟩|⟨_,h1⟩
    .exact .inr ⟨i,d,hi,h2⟩
    .exact .inr ⟨j,e,h1,h2⟩
  .rintro (h|⟨j,e,h1,h2⟩)
   .exact .inl h
   .by_cases hj:i=j
    .subst hj;exact .inr ⟨i,d',(get i _).mpr (.inl ⟨rfl,rfl⟩),h2⟩
    .exact .inr ⟨j,e,(get j e).mpr (.inr ⟨hj,h1⟩),h2⟩
 have kp:Kp (Cp B Y U) H (L2.upd H a u):=λb o e na=>by
  have hne:b≠a:=by
   rintro rfl;exact na oa
  rw[DF hne];exact e
 refine⟨⟨λj e h=>?_,λj e h=>?_,by rw[BH];exact x.len⟩,λb h=>?_,λj e b g1 g2=>?_,λj k e f b g1 g2 g3 g4=>?_,λb o z=>?_,by rw[BH];exact x.len⟩
 .have hj:i≠j:=by
   rintro rfl;have:=HX h;cases this
  rw[Dm hj]at h;obtain⟨w',q,rw'⟩:=x.good.sh j e h;exact⟨w',q,Rep.sub (λb hb=>(same b).mp hb) _ (Rep.kp kp _ rw')⟩
 .rcases (get j e).mp h with ⟨rfl,rfl⟩|⟨hj,h'⟩
  .exact⟨a,u,ha,(same a).mpr oa,Iw,(r.kp kp).sub λb hb=>(same b).mp hb⟩
  .obtain⟨b,o,q,hb,hh,rr⟩:=x.good.ow j e h';have hne:b≠a:=λz=>hj (x.dis i j d e a hi h' ha (z ▸ q))
   exact⟨b,o,q,(same b).mpr hb,by rw[DF hne];exact hh,(rr.kp kp).sub λb hb=>(same b).mp hb⟩
 .obtain⟨ys,q,w⟩:=x.aok b ((same b).mp h);by_cases e:b=a
  .rw[e];exact⟨u,Iw,r.owk⟩
  .exact⟨ys,by rw[DF e];exact q,w⟩
 .rcases (get j e).mp g1 with ⟨rfl,_⟩|⟨_,h'⟩
  .exact x.new i d b hi g2
  .exact x.new j e b h' g2
 .rcases (get j e).mp g1 with ⟨rfl,_⟩|⟨hj,h'⟩
  .rcases (get k f).mp g2 with ⟨rfl,_⟩|⟨hk,h''⟩
   .rfl
   .exact x.dis i k d f b hi h'' g3 g4
  .rcases (get k f).mp g2 with ⟨rfl,_⟩|⟨hk,h''⟩
   .exact x.dis j i e d b h' hi g3 g4
   .exact x.dis j k e f b h' h'' g3 g4
 .have hne:b≠a:=λe=>(x.new i d a hi ha).1 o (e ▸ z)
  rw[DF hne];exact x.same b o z
theorem Sx.upd(x:Sx K CL Fz B Y U H){ds:Ac D}(hi:Y[i]?=Ab (Ab (d,Aa)))(ha:U[i]?=Ab (Ab (.ref a)))(r:Reps K CL H (Cp B Y U) xs ds):Sx K CL Fz B (Y.set i (Ab (.lst ds,Aa))) U (L2.upd H a (.lst xs)):=x.updO hi ha (.lst r)
theorem Sx.rel(x:Sx K CL Fz B Y U H)(hi:Y[i]?=Ab (Ab (d,Aa))):Sx K CL Fz B (Y.set i (Ab (d,Ae))) U H:=by
 obtain⟨a,u,q,oa,hh,rr⟩:=x.good.ow i d hi;have own:∀(j:Ag)(e:D),(Y.set i (Ab (d,Ae)))[j]?=Ab (Ab (e,Aa))->i≠j/\Y[j]?=Ab (Ab (e,Aa)):=λj e h=>by
  by_cases hj:i=j
  .subst hj;have:=HX h;cases this
  .exact⟨hj,by rw[Dm hj]at h;exact h⟩
 have sub:∀ b,Cp B (Y.set i (Ab (d,Ae))) U b->Cp B Y U b:=λb h=>by
  rcases h with h|⟨j,e,h1,h2⟩
  .exact .inl h
  .exact .inr ⟨j,e,(own j e h1).2,h2⟩
 have na:¬ Cp B (Y.set i (Ab (d,Ae))) U a:=λh=>by
  rcases h with h|⟨j,e,h1,h2⟩
  .exact(x.new i _ a hi q).2 h
  .obtain⟨hj,h1⟩:=own j e h1;exact hj (x.dis i j _ e a hi h1 q h2)
 refine⟨⟨λj e h=>?_,λj e h=>?_,by rw[BH];exact x.len⟩,λb h=>x.aok b (sub b h),λj e b g1 g2=>x.new j e b (own j e g1).2 g2,λj k e f b g1 g2 g3 g4=>x.dis j k e f b (own j e g1).2 (own k f g2).2 g3 g4,x.same,by rw[BH];exact x.len⟩
 .by_cases hj:i=j
  .subst hj;have e1:=HX h;cases e1;exact⟨_,q,rr.rep na hh sub⟩
  .rw[Dm hj]at h;obtain⟨w',q',rw'⟩:=x.good.sh j e h;exact⟨w',q',Rep.sub sub _ rw'⟩
 .obtain⟨hj,h'⟩:=own j e h;obtain⟨b,o,q',hb,hh',rr'⟩:=x.good.ow j e h';exact⟨b,o,q',.inr ⟨j,e,h,q'⟩,hh',rr'.sub sub⟩
end
section
variable{X:Cx}{CL:ClA}{W:XW}{pos:AX}{e:Ao}{fe:Rho->R D}{fr:Al}
theorem CG.exC{f:D->O}(x:Sx X.K CL Fz B Y U H)(h:CG X.K CL Fz B W (O.of Y r f) D')(k:∀ d v H',r=.ok d->AH H H'->Fi X.K CL fr H A H' v d->Sx X.K CL Fz B Y U H'->CG X.K CL Fz B W (f d) D'->Q v H'):Br (Fi X.K CL fr H A) W H r Q:=by
 cases r with
 |ok d=>exact λv H' s r=>k d v H' rfl s r (x.grow s) h
 |exn y=>exact λH' s=>h H' λb o z=>s _ _ (x.same b o z)
 |bad=>exact h
def SAs(X:Cx)(CL:ClA)(W:XW)(fr:Al)(i:Ag)(st:Bp)(f:Rho->R D):Prop:=∀ A,PS X st (Ou (λU H Q=>AOk H A/\∃ Y,Good X.K CL A Y U H/\Br (Fi X.K CL fr H A) W H (f Y) Q) (F8 i))
theorem SC.sas{n:An}(hN:X.N.Nodup)(hi:X.N[i]?=Ab n)(hx:Loc X.env.scope n)(he:SC X CL W fr e fe)(hs:DQ e (Ab (.Name n pos')) pos.line X.env=pure Ae)(hf:X.fn n=Aa\/X.env.scope.names.lookup n=Ab .local):SAs X CL W fr i (.Assign [.Name n pos'] e pos) fe:=
 λA=>Wu hN hi hx (he A) hs hf
theorem lZ{n:An}{fe:Rho->R D}{g:TG}(hc:X.calm=Aa)(B:BlockOk X scope N' ts)(hi:SI X CL W tg iter fi)(hGG:GG X.K CL ts as g)(hg:∀ cl C s H fp,PG (cxC X scope cl C N' s H fp) tg g)(ht:∀ cl C s H fp,STs (cxC X scope cl C N' s H fp) CL ifs fc)(he:∀ cl C s H fp,SE (cxC X scope cl C N' s H fp) CL W0 elt fe)(hs:∀ x,Dr iter X.env x=pure x)(hN:X.N.Nodup)(hni:X.N[i]?=Ab n)(hx:X.env.scope.names.lookup n=Ab .local)(hsw:DQ (.ListComp elt [⟨tg,iter,ifs,0⟩] scope pos) (Ab (.Name n pos')) pos2.line X.env=pure Aa):SAs X CL W Aa i (.Assign [.Name n pos'] (.ListComp elt [⟨tg,iter,ifs,0⟩] scope pos) pos2) (λY=>(fi Y).bind λxs=>(noX (BR (λx=>(as x Y).bind fc) (λx=>(as x Y).bind fe) xs)).bind λys=>.ok (.lst ys)):=λA pI s U H Dn I ⟨hA,Y,gd,p⟩=>
 pV hc B (hi A) hg (λcl C s H fp=>ht cl C s H fp A) (λcl C s H fp=>he cl C s H fp A) hs hN hni hx hsw pI s U H Dn I ⟨hA,Y,gd,TD hGG hA gd p⟩
theorem Wq{st:Bp}(h:SAs X CL W fr i st fe):SS X CL W st (λY=>O.of Y (fe Y) λd=>.next (Y.set i (Ab (d,Ae)))):=λFz B pI s U H D I ⟨Y,x,p⟩=>
 h (Cp B Y U) pI s U H D I ⟨x.aok,Y,x.good,CG.exC x p λd v H' _ s r x' q=>q _ H' (x'.set i r.1)⟩
theorem rB{st:Bp}(h:SAs X CL W Aa i st fe):SS X CL W st (λY=>O.of Y (fe Y) λd=>setF Y i d):=λFz B pI s U H D I ⟨Y,x,p⟩=>
 h (Cp B Y U) pI s U H D I ⟨x.aok,Y,x.good,CG.exC x p λd v H' _ s r x' q=>by
  cases d with
  |lst ds=>
   obtain⟨a,xs,rfl,h0,h1,rs⟩:=r.2 rfl ds rfl;exact q _ H' (x.setF s h0 h1 rs)
  | _=>exact q.elim⟩
theorem oE(he:SC X CL W Aa e fe):SS X CL W (.Return (Ab e) pos) (λY=>O.of Y (fe Y) λd=>.ret d Aa):=λFz B pI s U H D I ⟨Y,x,p⟩=>
 Rg (he (Cp B Y U)) pI s U H D I ⟨x.aok,Y,x.good,CG.exC x p λd v H' _ s r x' q=>q v H' x'.same (Rep.sub (λa h=>.inl h) _ r.1) λ_ ds e=>by
  obtain⟨a,xs,h0,h1,h2,h3⟩:=r.2 rfl ds e;refine⟨a,xs,h0,λo z=>?_,h2,Reps.sub (λb hb=>hb.imp .inl id) _ h3⟩
  have:=x.same a o z;rw[h1]at this;cases this⟩
noncomputable def OM(Y:Rho)(i:Ag):Al:=match Y[i]? with
  |some (Ab (_,o))=>o
  |_=>Ae
theorem oC(he:PE X e (HE i)):SS X CL W (.Return (Ab e) pos) (λY=>O.of Y (EN Y i) λd=>.ret d (OM Y i)):=λFz B pI s U H D I ⟨Y,x,p⟩=>
 Rg he pI s U H D I (by
  dsimp only at p;cases e:EN Y i with
  |bad=>rw[e]at p;exact p.elim
  |exn z=>exact(Uj e).elim
  |ok d=>
   rw[e]at p;obtain⟨o,e⟩:=Vj e;have eo:OM Y i=o:=by unfold OM;rw[e]
   rw[O.of_ok,eo]at p;cases o with
   |false=>
    obtain⟨v,q,r⟩:=x.good.sh i d e;exact⟨v,q,p v H x.same (Rep.sub (λa h=>.inl h) _ r) λz=>nomatch z⟩
   |true=>
    obtain⟨a,u,q,ha,hh,r⟩:=x.good.ow i d e;obtain⟨n1,n2⟩:=x.new i _ a e q;refine⟨_,q,p _ H x.same (r.rep n2 hh λa h=>.inl h) λ_ ds' e'=>?_⟩
    cases e';obtain⟨xs,rfl,r'⟩:=r.lst_of;exact⟨a,xs,rfl,n1,hh,Reps.sub (λb hb=>hb.elim .inl λz=>z ▸ ha) _ r'⟩)
theorem NH{ds:Ac D}(h:C3 Y i=.ok ds):Y[i]?=Ab (Ab (.lst ds,Aa)):=by
 unfold C3 at h;split at h
 .rename_i e;cases h;exact e
 .cases h
theorem NA(h:C3 Y i=.exn x):Bu:=by
 unfold C3 at h;split at h<;>cases h
variable{o:Ao}{i:Ag}{apos cpos:AX}
theorem xW(ho:PE X o (HE i))(he:SE X CL W e fe)(hbase:EU o "append" X.env (eval o X.env)=eval o X.env)(hfew:((Ct cpos (AB [e] X.env)).all (λx=>!x.1)&&(G8 cpos (FE [] X.env)).all (λx=>x.1.isSome)&&decide ([e].length+([]:Ac Dy).length+(if ([]:Ac Dy).isEmpty then 0 else 1)<30))=Aa)(hline:(apos.endLine==cpos.line)=Aa)(hs:AB [e] X.env=[(Ae,eval e X.env)])(hsw:DQ (.Call (.Attribute o "append" apos) [e] [] cpos) Af pos.line X.env=pure Ae):
  SS X CL W (.Expr (.Call (.Attribute o "append" apos) [e] [] cpos) pos) (λY=>O.of Y (C3 Y i) λxs=>O.of Y (fe Y) λd=>if CN (xs.length+1)=Aa then .next (Y.set i (Ab (.lst (xs++[d]),Aa))) else .bad):=λFz B pI s U H D I ⟨Y,x,p⟩=>by
 refine Mw (RO F5 PySem.F.slot_list_append PySem.F.type_list_append iW ho (Fe (he (Cp B Y U)) Hc hs) hbase hfew hline hs rfl) hsw pI s U H D I ?_;dsimp only at p;cases e1:C3 Y i with
 |bad=>rw[e1]at p;exact p.elim
 |exn z=>exact(NA e1).elim
 |ok ds=>
  rw[e1,O.of_ok]at p;have hi:=NH e1;obtain⟨a,xs,ds',q,e2,ha,hh,r⟩:=x.good.owL hi;cases e2;refine⟨_,q,.inl ⟨rfl,xs,SqL.of hh⟩,x.aok,Y,x.good,CG.ex x p λd v H' _ s rv x' q'=>?_⟩
  split at q'
  .rename_i hz;refine⟨a,xs,v,rfl,rfl,s _ _ hh,?_,q' _ _ (x'.upd hi q ((r.same s).append ⟨rv,trivial⟩))⟩;have:=Hv hz;rw[r.length];omega
  .exact q'.elim
theorem xT(ho:PE X o (HE i))(he:SC X CL W Aa e fe)(hbase:EU o "extend" X.env (eval o X.env)=eval o X.env)(hfew:((Ct cpos (AB [e] X.env)).all (λx=>!x.1)&&(G8 cpos (FE [] X.env)).all (λx=>x.1.isSome)&&decide ([e].length+([]:Ac Dy).length+(if ([]:Ac Dy).isEmpty then 0 else 1)<30))=Aa)(hline:(apos.endLine==cpos.line)=Aa)(hs:AB [e] X.env=[(Ae,eval e X.env)])(hsw:DQ (.Call (.Attribute o "extend" apos) [e] [] cpos) Af pos.line X.env=pure Ae):
  SS X CL W (.Expr (.Call (.Attribute o "extend" apos) [e] [] cpos) pos) (λY=>O.of Y (C3 Y i) λxs=>O.of Y (fe Y) λd=>O.of Y (LP d) λys=>if CN (xs.length+ys.length)=Aa then .next (Y.set i (Ab (.lst (xs++ys),Aa))) else .bad):=λFz B pI s U H D I ⟨Y,x,p⟩=>by
 refine Mw (RO F5 E9 ZA iV ho (Fe (he (Cp B Y U)) Hc hs) hbase hfew hline hs rfl) hsw pI s U H D I ?_;dsimp only at p;cases e1:C3 Y i with
 |bad=>rw[e1]at p;exact p.elim
 |exn z=>exact(NA e1).elim
 |ok ds=>
  rw[e1,O.of_ok]at p;have hi:=NH e1;obtain⟨a,xs,ds',q,e2,ha,hh,r⟩:=x.good.owL hi;cases e2;refine⟨_,q,.inl ⟨rfl,xs,SqL.of hh⟩,x.aok,Y,x.good,CG.exC x p λd v H' _ s rv x' q'=>?_⟩
  cases d with
  |lst es=>
   obtain⟨b,ys,rfl,h0,h1,rs⟩:=rv.2 rfl es rfl;rw[Uw,O.of_ok]at q';split at q'
   .rename_i hz;refine⟨a,b,xs,ys,rfl,rfl,s _ _ hh,h1,?_,q' _ _ (x'.upd hi q ((r.same s).append (Reps.sub (λc hc=>.inl hc) _ rs)))⟩
    rw[r.length,rs.length];exact Hv hz
   .exact q'.elim
  |_=>exact q'.elim
theorem zH{k:Ao}{fk:Rho->R Ov.D}(ho:PE X o (HE i))(hk:ST X CL W k fk)(he:SE X CL W e fe)(ha:∀ v,assign (.Subscript o k spos) X.env v=(do
      let ov <-holding [v] (eval o X.env)
      let iv <-holding [v,ov] (eval k X.env)
      IS spos
      holding [v,ov,iv] (J9 ov iv v)
      release [v,ov,iv] []))(hs:Hu [.Subscript o k spos] e pos.line X.env=pure Ae)(hw:Jw [.Subscript o k spos] e X.env=pure Af)(h1:(DJ [.Subscript o k spos] X.env).map (·.2)=[assign (.Subscript o k spos) X.env]):
    SS X CL W (.Assign [.Subscript o k spos] e pos) (λY=>O.of Y (fe Y) λd=>O.of Y (C3 Y i) λxs=>O.of Y ((fk Y).bind Fu) λj=>match plD xs.length j with
      |some n=>.next (Y.set i (Ab (.lst (xs.set n d),Aa)))
      | none=>.bad):=λFz B pI s U H D I ⟨Y,x,p⟩=>
  Wv (he (Cp B Y U)) (Wy ho (hk (Cp B Y U)) lV ha) hs hw h1 pI s U H D I ⟨x.aok,Y,x.good,CG.ex x p λd v H' _ s rv x' q'=>by
    cases e1:C3 Y i with
    |bad=>rw[e1]at q';exact q'.elim
    |exn z=>exact(NA e1).elim
    |ok ds=>
      rw[e1,O.of_ok]at q';have hi:=NH e1;obtain⟨a,xs,ds',q,e2,ha,hh,r⟩:=x'.good.owL hi;cases e2;refine⟨_,q,x'.aok,Y,x'.good,?_⟩;cases e3:fk Y with
      |bad=>rw[e3]at q';exact q'.elim
      |exn z=>rw[e3]at q';exact λH2 s2=>q' H2 λb o z=>s2 _ _ (x'.same b o z)
      |ok dk=>
        rw[e3]at q';intro y H2 s2 ry;cases dk with
        |int j=>
          have ey:=ry.int_of;subst ey;rw[R.bind_ok,Qu,O.of_ok]at q';cases e4:plD ds.length j with
          |none=>rw[e4]at q';exact q'.elim
          |some n=>
            rw[e4]at q';refine⟨a,xs,j,n,rfl,rfl,s2 _ _ hh,?_,q' _ _ ((x'.grow s2).upd hi q (Reps.set (rv.same s2) n (r.same s2)))⟩;rw[r.length];exact e4
        | _=>exact q'.elim⟩
theorem oA{rest:Ac Bp}{f:Rho->O}(i:Ag)(h:SSs X CL W rest f):SSs X CL W rest (λY=>(match Y[i]? with
   |some (Ab (d,Aa))=>O.next (Y.set i (Ab (d,Ae)))
   | _=>O.next Y).seq f):=λFz B=>PSs.weak (h Fz B) λD U H ⟨Y,x,p⟩=>by
 dsimp only at p;split at p
 .rename_i d e;exact⟨_,x.rel e,p⟩
 .exact⟨Y,x,p⟩
end
section
variable{X:Cx}{pI:Pn}{U:L2.St}{H:Hp}{s:As}{a ka:Ak}{k:Ac Ad}{CL:ClA}{A:Ak->Prop}{es:Ac (Ac Ad×Ak×V)}{kvs:Ac (Ac Ad×D)}
noncomputable def sdD(kvs:Ac (Ac Ad×D))(k:Ac Ad)(d:D):Ac (Ac Ad×D):=if (kvs.any λp=>p.1==k)=Aa then kvs else Gx kvs k d
theorem iA{B:Bc}{E:Vq}{v:Ai}{Q:Vq}(hu:(TK X.prog X.w).room B)(hkey:(TK X.prog X.w).is s.heap k ka)(hm:s.heap.DictOfH (TK X.prog X.w) a ys)(hsz:ys.length<=sizeLine)(q1:∀ p,Hk ys k=Ab p->Q p.2 {s with toks:=s.toks+(TK X.prog X.w).draws k})(q2:Hk ys k=Af->∀ h',h'.DictOfH (TK X.prog X.w) a (ys++[(k,ka,v)])->EE a s.heap h'->Q v {s with heap:=h',toks:=s.toks+(TK X.prog X.w).draws k}):Az (model X.prog X.w) B (IN a (.ref ka) v) Q E s:=by
  obtain⟨o,es,ep,ho,hc,hd,he,his,hn⟩:=hm;unfold IN
  try with_reducible refine Dj ?_
  refine Ah ((TK X.prog X.w).pyHash hu hkey ?_);refine Ah (wpAny_dictFind_heap (knd:=TK X.prog X.w) (s:={s with toks:=s.toks+(TK X.prog X.w).draws k}) hu hkey ho hd he his hn ?_ ?_)
  · intro hno;have hnot:k∉ys.map (·.1):=not_mem_keys_of_get hno;refine Ah (Fp (Ah (wpAny_updateDictKeys (hz:=by have e:=size_of_entries he;omega) (s:={s with toks:=s.toks+(TK X.prog X.w).draws k}) ho hd (Ax (q2 (atKey_none_of_get hno) _ ⟨_,_,ep+1,Ca _ ho (Obj.isFreed_of_dict (ZE hd _)),
      hc.mapDictKeys _,ZE hd _,?_,?_,?_⟩ (D5 ..))))))
    · simp[he,Ja]
    · intro x hx;rcases Dv.mp hx with hx|hx
      · exact(TK X.prog X.w).keeps (his x hx) ho hd (D5 ..)
      · simp only[AR]at hx;subst hx;exact(TK X.prog X.w).keeps hkey ho hd (D5 ..)
    · rw[EX,F6];refine⟨hn,by simp,?_⟩
      intro x hx y hy;simp only[Bm,HP,AR]at hy;subst hy;exact λe=>hnot (e ▸ hx)
  · intro j p hj;refine Ah (aI (s:={s with toks:=s.toks+(TK X.prog X.w).draws k}) ho hd ?_)
    have ej:es[j]?=Ab (Ja (TK X.prog X.w) (k,p)):=by
      rw[<-XJ,he,C0,hj];rfl
    rw[ej];exact Ah (Fp (Ax (q1 p (atKey_of_get hn hj))))
theorem fQ(hd:(a==Ez)=Ae)(v:Ai):MeetsIn X.prog X.w (Builtin.«dict.setdefault» ⟨[.ref a,.ref ka,v],[]⟩) (λB R s=>(TK X.prog X.w).room B.in1/\∃ k ys,(TK X.prog X.w).is s.heap k ka/\s.heap.DictOfH (TK X.prog X.w) a ys/\ys.length<=sizeLine/\(∀ p,Hk ys k=Ab p->R (.ok (.ret p.2)) {s with toks:=s.toks+(TK X.prog X.w).draws k})/\(Hk ys k=Af->∀ h',h'.DictOfH (TK X.prog X.w) a (ys++[(k,ka,v)])->EE a s.heap h'->R (.ok (.ret v)) {s with heap:=h',toks:=s.toks+(TK X.prog X.w).draws k})):=
 .of_wp λB R s ⟨hu,k,ys,hkey,hm,hz,h1,h2⟩=>by
  unfold Builtin.«dict.setdefault»;refine Ah ?_;unfold Builtin.Dict.keyAndDefault;refine Ah (wpAny_notOrdered_dict hm.typeIs ?_);show Az _ _ (pure (a,Dx ka,Ab v)) _ _ s;refine Ax ?_;show Az _ _ (if (a==Ez)=Aa then _ else (IN a (.ref ka) v >>= _)) _ _ s
  rw[AN (by rw[hd];exact AM)]
  exact Ah (iA hu hkey hm hz (λp hp=>Ax ⟨p.2,rfl,h1 p hp⟩) λhn h' hm' hs'=>Ax ⟨v,rfl,h2 hn h' hm' hs'⟩)
theorem d7{x:V}{v:Ai}{E:Vq}(hu:X.A.units+1<BV)(I:Inv X pI U H s)(hH:H a=Ab (.ext (DS a es)))(r:Repk X.K CL H A es kvs)(hk:D8 X.K H A ka k)(rx:BP x v)(rd:Rep X.K CL H A x d)(hz:kvs.length<=sizeLine)(q:∀ x' es',Repk X.K CL H A es' (sdD kvs k d)->Q x' (upd H a (.ext (DS a es')))):Az (model X.prog X.w) X.A (call (.builtin "dict.setdefault") [.ref a,.ref ka,v]) (EP X pI U Q) E s:=by
 obtain⟨ys,ve,hs,m⟩:=dic_of I hH r;have zz:ys.length<=sizeLine:=by rw[<-ve.length,r.length];exact hz
 refine JH F.slot_dict_setdefault m.typeIs F.entry_dict_setdefault (F.args_dict_setdefault_3 _ _ _) (fQ hs v) ⟨Ed hu,k,ys,KD I hk,m,zz,λp hp=>?_,λhp h' m' sb=>?_⟩
 .rcases KG ve k r with ⟨z1,_⟩|⟨p',x',d',z1,z2,z3,z4,z5⟩
  .rw[hp]at z1;cases z1
  .rw[hp]at z1;cases z1;have e1:sdD kvs k d=kvs:=AF z3;have I2:Inv X pI U (upd H a (.ext (DS a es))) {s with toks:=s.toks+(TK X.prog X.w).draws k}:=by
    have e:upd H a (.ext (DS a es))=H:=by
     funext b
     unfold upd;split
     .rename_i e;rw[e,hH]
     .rfl
    rw[e];exact I.kept λb o e=>e
   exact⟨x',_,I2,z4,q x' es (by rw[e1];exact r)⟩
 .rcases KG ve k r with ⟨z1,z2,z3⟩|⟨p',_,_,z1,_⟩
  .obtain⟨es',ve',r'⟩:=Vh ve hk rx rd r;have e1:sdD kvs k d=kvs++[(k,d)]:=by
    unfold sdD Gx;rw[AN (by rw[z3];exact AM),AN (by rw[z3];exact AM)]
   obtain⟨o,_,_,h1,_⟩:=id m';exact⟨x,upd H a (.ext (DS a es')),I.write (x:=a) (e:=a) (by rw[hH];exact trivial) (.inl rfl) (λb u hb hu=>(sb.2 b hb).trans hu) ⟨o,h1⟩ ⟨⟨_,ve',(GZ.to hs m').any⟩,⟨o,h1⟩,λh1 h2 d k=>d.keep k⟩,rx,q x es' (by rw[e1];exact r')⟩
  .rw[hp]at z1;cases z1
theorem dic_get{x:V}{v:Ai}{E:Vq}(hu:X.A.units+1<BV)(I:Inv X pI U H s)(hH:H a=Ab (.ext (DS a es)))(r:Repk X.K CL H A es kvs)(hk:D8 X.K H A ka k)(rx:BP x v)(rd:Rep X.K CL H A x d)(q:∀ x',Rep X.K CL H A x' ((Dl kvs k).getD d)->Q x' H):Az (model X.prog X.w) X.A (call (.builtin "dict.get") [.ref a,.ref ka,v]) (EP X pI U Q) E s:=by
 obtain⟨ys,ve,hs,m⟩:=dic_of I hH r;refine JH F.slot_dict_get m.typeIs F.entry_dict_get (F.args_dict_get_3 _ _ _) (meetsH_dict_get_default (TK X.prog X.w) a ka hs v) ⟨Ed hu,k,ys,KD I hk,m,?_⟩;rcases KG ve k r with ⟨z1,z2,_⟩|⟨p',x',d',z1,z2,z3,z4,z5⟩
 .rw[z1];rw[z2]at q;exact⟨x,H,I.kept λb o e=>e,rx,q x rd⟩
 .rw[z1];rw[z2]at q;exact⟨x',H,I.kept λb o e=>e,z4,q x' z5⟩
end
section
variable{X:Cx}{o e:Ao}{es:Ac Ao}{t:TA}{name:An}{apos cpos:AX}{id:Dp}{r:V->Ac V->Hp->VK->Prop}{to:TE}
theorem Wz(slot:Slot "dict" name id)(hty:typeOf (.builtin id)=pure (.type "method_descriptor"))(hm:MtR X id r)(ho:PE X o to)(ha:PA X (e::es) t)(hbase:EU o name X.env (eval o X.env)=eval o X.env)(hfew:((Ct cpos (AB (e::es) X.env)).all (λx=>!x.1)&&(G8 cpos (FE [] X.env)).all (λx=>x.1.isSome)
   && decide ((e::es).length+([]:Ac Dy).length+(if ([]:Ac Dy).isEmpty then 0 else 1)<30))=Aa)(hline:(apos.endLine==cpos.line)=Aa)(hs:AB (e::es) X.env=(Ae,eval e X.env)::AB es X.env)(hplain:(Ct cpos (AB es X.env)).any (·.1)=Ae):PE X (.Call (.Attribute o name apos) (e::es) [] cpos) (λU H Q=>to U H λx H1=>(∃ a es,x=.ref a/\H1 a=Ab (.ext (DS a es)))/\t U H1 λxs H2=>r x xs H2 Q):=by
 intro pI s U H Q I h;refine aF hbase hfew hline rfl (thn (ho pI s U H _ I h) λv s1 ⟨x,H1,I1,r1,⟨a,xs,e0,hH⟩,q1⟩=>?_)
 subst e0;obtain⟨ys,_,d⟩:=(I1.hok a _ hH).1;obtain⟨_,ob,_,_,h1,h2,h3,_⟩:=d X.prog X.w;cases r1;have ty:s1.TypeIs (.ref a) "dict" := ⟨ob,h1,h2.1⟩;refine⟨"dict",id,F.plainAttrs_dict,slot,hty,ty,λb e=>by cases e;exact⟨ob,h1,h2.2.1⟩,?_⟩
 have hA:=ha cpos pI s1 U H1 _ I1 q1;rw[hs]at hA ⊢;refine YQ (by show (Ae||(Ct cpos (AB es X.env)).any (·.1))=Ae;rw[hplain]<;>rfl) (YR ?_)
 exact thn hA λus s2 ⟨vs,H2,I2,r2,q2⟩=>hm pI s2 U H2 (.ref a) vs _ us Q I2 rfl r2 q2
end
section
variable{X:Cx}{CL:ClA}{W:XW}{pos:AX}{e k o:Ao}{fe fk:Rho->R D}{i:Ag}{apos cpos:AX}
noncomputable def m7(K:Fg)(CL:ClA)(A:Ak->Prop):OE:=λo i v H Q=>∃ a ka es kvs k d,o=.ref a/\i=.ref ka/\H a=Ab (.ext (DS a es))/\Repk K CL H A es kvs/\D8 K H A ka k/\Rep K CL H A v d/\kvs.length<=sizeLine/\∀ es',Repk K CL H A es' (Gx kvs k d)->Q (upd H a (.ext (DS a es')))
theorem rH(hu:X.A.units+1<BV):OW X (m7 X.K CL A):=by
 intro pI s U H o i v ov iv u Q I ro ri rv h;obtain⟨a,ka,es,kvs,k,d,rfl,rfl,hH,r,hk,rd,hz,q⟩:=h;cases ro;cases ri;exact uB hu I hH r hk rv rd hz λs' es' r' I'=>⟨_,I',q es' r'⟩
theorem VH{ds:Ac (Ac Ad×D)}(h:He Y i=.ok ds):Y[i]?=Ab (Ab (.dic ds,Aa)):=by
 unfold He at h;split at h
 .rename_i e;cases h;exact e
 .cases h
theorem UU(h:He Y i=.exn x):Bu:=by
 unfold He at h;split at h<;>cases h
theorem QJ{j:Ac Ad}(h:Ft d=.ok j):EQ d=Ab j:=by
 unfold Ft at h;split at h
 .rename_i e;cases h;exact e
 .cases h
theorem Qt(h:Ft d=.exn x):Bu:=by
 unfold Ft at h;split at h<;>cases h
theorem xV{n:An}{dpos:AX}(hN:X.N.Nodup)(hi:X.N[i]?=Ab n)(hx:Loc X.env.scope n)(hs:DQ (.Dict [] [] dpos) (Ab (.Name n pos')) pos.line X.env=pure Ae)(hf:X.fn n=Aa\/X.env.scope.names.lookup n=Ab .local):SS X CL W (.Assign [.Name n pos'] (.Dict [] [] dpos) pos) (λY=>.next (Y.set i (Ab (.dic [],Aa)))):=λFz B pI s U H D I ⟨Y,x,p⟩=>
 Wu hN hi hx uD hs hf pI s U H D I λa ha=>p _ _ (x.setO (Gv ha _) ha Iw (.dic trivial))
theorem rA(hu:X.A.units+1<BV)(ho:PE X o (HE i))(hk:ST X CL W k fk)(he:SE X CL W e fe)(ha:∀ v,assign (.Subscript o k spos) X.env v=(do
   let ov <-holding [v] (eval o X.env)
   let iv <-holding [v,ov] (eval k X.env)
   IS spos
   holding [v,ov,iv] (J9 ov iv v)
   release [v,ov,iv] []))(hs:Hu [.Subscript o k spos] e pos.line X.env=pure Ae)(hw:Jw [.Subscript o k spos] e X.env=pure Af)(h1:(DJ [.Subscript o k spos] X.env).map (·.2)=[assign (.Subscript o k spos) X.env]):SS X CL W (.Assign [.Subscript o k spos] e pos) (λY=>O.of Y (fe Y) λd=>O.of Y (He Y i) λxs=>O.of Y ((fk Y).bind Ft) λj=>if CN (xs.length+1)=Aa then .next (Y.set i (Ab (.dic (Gx xs j d),Aa))) else .bad):=λFz B pI s U H D I ⟨Y,x,p⟩=>
 Wv (he (Cp B Y U)) (Wy ho (hk (Cp B Y U)) (rH (A:=Cp B Y U) hu) ha) hs hw h1 pI s U H D I ⟨x.aok,Y,x.good,CG.ex x p λd v H' _ s rv x' q'=>by
  cases e1:He Y i with
  |bad=>rw[e1]at q';exact q'.elim
  |exn z=>exact(UU e1).elim
  |ok ds=>
   rw[e1,O.of_ok]at q';have hi:=VH e1;obtain⟨a,xs,q,ha,hh,r⟩:=x'.good.owK hi;refine⟨_,q,x'.aok,Y,x'.good,?_⟩;cases e3:fk Y with
   |bad=>rw[e3]at q';exact q'.elim
   |exn z=>rw[e3]at q';exact λH2 s2=>q' H2 λb o z=>s2 _ _ (x'.same b o z)
   |ok dk=>
    rw[e3,R.bind_ok]at q';intro y H2 s2 ry;cases e4:Ft dk with
    |bad=>rw[e4]at q';exact q'.elim
    |exn z=>exact(Qt e4).elim
    |ok j=>
     rw[e4,O.of_ok]at q';split at q'
     .rename_i hz;have hz:=Hv hz;obtain⟨ka,rfl,kr⟩:=Lj ry (QJ e4);exact⟨a,ka,xs,ds,j,d,rfl,rfl,s2 _ _ hh,Repk.kp (Kp.of s2) _ r,kr,rv.same s2,by omega,λes' r'=>q' _ _ ((x'.grow s2).updO hi q (.dic r'))⟩
     .exact q'.elim⟩
theorem bW(hu:X.A.units+1<BV):MtR X "dict.setdefault" (λx xs H Q=>∃ a ka es kvs k v d,x=.ref a/\xs=[.ref ka,v]/\H a=Ab (.ext (DS a es))/\Repk X.K CL H A es kvs/\D8 X.K H A ka k/\Rep X.K CL H A v d/\kvs.length<=sizeLine/\∀ x' es',Repk X.K CL H A es' (sdD kvs k d)->Q x' (upd H a (.ext (DS a es')))):=by
 intro pI s U H x xs v us Q I rx rs h;obtain⟨a,ka,es,kvs,k,v',d,rfl,rfl,hH,r,hk,rd,hz,q⟩:=h;cases rx;cases rs with
 |cons r1 r2=>
  cases r1;cases r2 with
  |cons r3 r4=>
   cases r4;exact d7 hu I hH r hk r3 rd hz q
theorem gw(hu:X.A.units+1<BV):MtR X "dict.get" (λx xs H Q=>∃ a ka es kvs k v d,x=.ref a/\xs=[.ref ka,v]/\H a=Ab (.ext (DS a es))/\Repk X.K CL H A es kvs/\D8 X.K H A ka k/\Rep X.K CL H A v d/\∀ x',Rep X.K CL H A x' ((Dl kvs k).getD d)->Q x' H):=by
 intro pI s U H x xs v us Q I rx rs h;obtain⟨a,ka,es,kvs,k,v',d,rfl,rfl,hH,r,hk,rd,q⟩:=h;cases rx;cases rs with
 |cons r1 r2=>
  cases r1;cases r2 with
  |cons r3 r4=>
   cases r4;exact dic_get hu I hH r hk r3 rd q
theorem xU(hu:X.A.units+1<BV)(ho:PE X o (HE i))(hk:ST X CL W k fk)(he:SE X CL W e fe)(hbase:EU o "setdefault" X.env (eval o X.env)=eval o X.env)(hfew:((Ct cpos (AB [k,e] X.env)).all (λx=>!x.1)&&(G8 cpos (FE [] X.env)).all (λx=>x.1.isSome)&&decide ([k,e].length+([]:Ac Dy).length+(if ([]:Ac Dy).isEmpty then 0 else 1)<30))=Aa)(hline:(apos.endLine==cpos.line)=Aa)(hs:AB [k,e] X.env=(Ae,eval k X.env)::AB [e] X.env)(hs2:AB [e] X.env=[(Ae,eval e X.env)])(hpl:(Ct cpos (AB [e] X.env)).any (·.1)=Ae)(hsw:DQ (.Call (.Attribute o "setdefault" apos) [k,e] [] cpos) Af pos.line X.env=pure Ae):
  SS X CL W (.Expr (.Call (.Attribute o "setdefault" apos) [k,e] [] cpos) pos) (λY=>O.of Y (He Y i) λxs=>O.of Y ((fk Y).bind Ft) λj=>O.of Y (fe Y) λd=>if CN (xs.length+1)=Aa then .next (Y.set i (Ab (.dic (if (xs.any λp=>p.1==j)=Aa then xs else Gx xs j d),Aa))) else .bad):=λFz B pI s U H D I ⟨Y,x,p⟩=>by
 refine Mw (Wz PySem.F.slot_dict_setdefault PySem.F.type_dict_setdefault (bW (A:=Cp B Y U) (CL:=CL) hu) ho (Fe (hk (Cp B Y U)) (Fe (he (Cp B Y U)) Hc hs2) hs) hbase hfew hline hs hpl) hsw pI s U H D I ?_;dsimp only at p;cases e1:He Y i with
 |bad=>rw[e1]at p;exact p.elim
 |exn z=>exact(UU e1).elim
 |ok ds=>
  rw[e1,O.of_ok]at p;have hi:=VH e1;obtain⟨a,xs,q,ha,hh,r⟩:=x.good.owK hi;refine⟨_,q,⟨a,xs,rfl,hh⟩,x.aok,Y,x.good,?_⟩;cases e3:fk Y with
  |bad=>rw[e3]at p;exact p.elim
  |exn z=>rw[e3]at p;exact λH2 s2=>p H2 λb o z=>s2 _ _ (x.same b o z)
  |ok dk=>
   rw[e3,R.bind_ok]at p;intro y H1 s1 ry;cases e4:Ft dk with
   |bad=>rw[e4]at p;exact p.elim
   |exn z=>exact(Qt e4).elim
   |ok j=>
    rw[e4,O.of_ok]at p;have x1:=x.grow s1;refine⟨x1.aok,Y,x1.good,CG.ex x1 p λd v H' _ s2 rv x' q'=>?_⟩
    split at q'
    .rename_i hz;have hz:=Hv hz;obtain⟨ka,rfl,kr⟩:=Lj ry (QJ e4);exact⟨a,ka,xs,ds,j,v,d,rfl,rfl,s2 _ _ (s1 _ _ hh),Repk.kp (Kp.of (s1.trans s2)) _ r,kr.kp (Kp.of s2),rv,by omega,λx2 es' r'=>q' _ _ (x'.updO hi q (.dic r'))⟩
    .exact q'.elim
theorem rJ(hu:X.A.units+1<BV)(ho:PE X o (HE i))(hk:ST X CL W k fk)(he:SE X CL W e fe)(hbase:EU o "get" X.env (eval o X.env)=eval o X.env)(hfew:((Ct cpos (AB [k,e] X.env)).all (λx=>!x.1)&&(G8 cpos (FE [] X.env)).all (λx=>x.1.isSome)&&decide ([k,e].length+([]:Ac Dy).length+(if ([]:Ac Dy).isEmpty then 0 else 1)<30))=Aa)(hline:(apos.endLine==cpos.line)=Aa)(hs:AB [k,e] X.env=(Ae,eval k X.env)::AB [e] X.env)(hs2:AB [e] X.env=[(Ae,eval e X.env)])(hpl:(Ct cpos (AB [e] X.env)).any (·.1)=Ae):
  SE X CL W (.Call (.Attribute o "get" apos) [k,e] [] cpos) (λY=>(EN Y i).bind λd=>(R5 d).bind λkvs=>(fk Y).bind λa=>(Ft a).bind λj=>(fe Y).bind λy=>.ok ((Dl kvs j).getD y)):=λA pI s U H Q I ⟨hA,Y,gd,p⟩=>by
 refine Wz PySem.F.slot_dict_get PySem.F.type_dict_get (gw (A:=A) (CL:=CL) hu) (Wo (CL:=CL) (W:=W) ho A) (Fe (hk A) (Fe (he A) Hc hs2) hs) hbase hfew hline hs hpl pI s U H Q I ⟨hA,Y,gd,Br.bind p λd v H1 _ s1 r1 p1=>?_⟩
 cases d with
 |dic kvs=>
  have p1:Br (λH=>Rep X.K CL H A) W H1 ((fk Y).bind λa=>(Ft a).bind λj=>(fe Y).bind λy=>.ok ((Dl kvs j).getD y)) Q:=p1
  obtain⟨a,es,rfl,hH,rk⟩:=r1.dic_of;refine⟨⟨a,es,rfl,hH⟩,hA.same s1,Y,gd.same s1,Br.bind p1 λdk y H2 _ s2 r2 p2=>?_⟩
  cases e4:Ft dk with
  |bad=>rw[e4]at p2;exact p2.elim
  |exn z=>exact(Qt e4).elim
  |ok j=>
   rw[e4,R.bind_ok]at p2;obtain⟨ka,rfl,kr⟩:=Lj r2 (QJ e4);refine⟨(hA.same s1).same s2,Y,(gd.same s1).same s2,Br.bind p2 λd v H3 _ s3 r3 p3=>?_⟩
   exact⟨a,ka,es,kvs,j,v,d,rfl,rfl,s3 _ _ (s2 _ _ hH),Repk.kp (Kp.of (s2.trans s3)) _ rk,kr.kp (Kp.of s3),r3,λx' r'=>p3 x' H3 (AH.refl H3) r'⟩
 |_=>exact p1.elim
end
section
variable{X:Cx}{CL:ClA}{W:XW}{pos:AX}{e k o:Ao}{fe fk:Rho->R D}{i:Ag}{apos cpos:AX}
theorem Bk.take{its:Ac Ai}(r:Bk xs its):∀ n,Bk (xs.take n) (its.take n):=by
 induction r with
 |nil=>intro n;simp;exact .nil
 |cons h _ ih=>
  intro n;cases n with
  |zero=>exact .nil
  |succ n=>exact .cons h (ih n)
theorem Bk.drop{its:Ac Ai}(r:Bk xs its):∀ n,Bk (xs.drop n) (its.drop n):=by
 induction r with
 |nil=>intro n;simp;exact .nil
 |cons h t ih=>
  intro n;cases n with
  |zero=>exact .cons h t
  |succ n=>exact ih n
end
section
variable{prog:AT}{w:AD}{A:Bc}{E:Vq}{s:As}
theorem zU{j t:Ak}{k:Ag}{x:Ai}{Q:Vq}(st:s.heap.IsTupleIter j t k)(sq:s.heap.IsTuple t its)(at_:its[k]?=Ab x)(go:∀ h2,h2.IsTupleIter j t (k+1)->EE j s.heap h2->Q x {s with heap:=h2}):Az (model prog w) A (A2 (.ref j)) Q E s:=by
 obtain⟨oj,gj,cj,dj⟩:=id st;obtain⟨ot,gt,_,nt,dt⟩:=sq;show Az _ _ (JF _ _ >>= _) _ _ _;refine Ah (BW st.typeIs El (CV El st.typeIs Zt ?_ (Zo _)));show Az _ _ (field (.ref j) 0 >>= _) _ _ _;refine Ah (Bi gj dj (x:=.ref t) rfl ?_);show Az _ _ (field (.ref j) 1 >>= _) _ _ _;refine Ah (Bi gj dj (x:=.int k 0) rfl ?_);refine Ah (B4 gt dt ?_);simp only[Ep,at_];exact Ah (F2 gj dj (by simp) (Ax ⟨x,rfl,Ax (go _ ⟨_,Ca _ gj (Fd (DN dj _)),(ZD ..).trans cj,by rw[DN dj];simp[Co]⟩ (D5 ..))⟩))
theorem iT{j t:Ak}{k:Ag}{Q:Vq}(calm:A.handled=Af)(st:s.heap.IsTupleIter j t k)(sq:s.heap.IsTuple t its)(at_:its[k]?=Af)(up:∀ h2 e,ZB j s.heap h2->(∃ o,h2.get? e=Ab o/\o.cls=.type "StopIteration")->E (.ref e) {s with heap:=h2}):Az (model prog w) A (A2 (.ref j)) Q E s:=by
 obtain⟨oj,gj,cj,dj⟩:=id st;obtain⟨ot,gt,_,nt,dt⟩:=sq;show Az _ _ (JF _ _ >>= _) _ _ _;refine Ah (BW st.typeIs El (CV El st.typeIs Zt ?_ (Zo _)));show Az _ _ (field (.ref j) 0 >>= _) _ _ _;refine Ah (Bi gj dj (x:=.ref t) rfl ?_);show Az _ _ (field (.ref j) 1 >>= _) _ _ _;refine Ah (Bi gj dj (x:=.int k 0) rfl ?_);refine Ah (B4 gt dt ?_);simp only[Ep,at_];refine Ah (Fp (Ah (F2 gj dj (by simp) ?_)))
 refine Ah ?_;simp only[newExc,newTuple];refine Ah (CP ?_ (by size_fits))
 refine Ah (m:=Z_8 _ _) (wpAny_of_eq (a:=.none) (by first|rfl|(simp only[Z_8];rfl)) (CP ?_ (by size_fits)))
 simp only[raiseNew];refine Ah (wpAny_handled ?_)
 first|rw[show A.in1.handled=Af from calm]|rw[calm]
 exact Ah (Ax (wpAny_throw (up _ _ (((D5 ..).extBut.push _).push _) ⟨_,Ay _ rfl,rfl⟩)))
end
structure Dw (prog:AT) (w:AD) (A:Bc) (j:Ak) (fp:Ac Ak) (n:Ag) (P:Ag->Ai->Prop) (S:Ag->AJ->Prop):Prop where
 frame:∀ i h h2,S i h->(∀ c∈fp,∀ o,h.get? c=Ab o->h2.get? c=Ab o)->S i h2
 item:∀ i (s:As) (Q:Vq) (E:Vq),i<n->S i s.heap->(∀ x h2 tk,P i x->S (i+1) h2->EE j s.heap h2->Q x {s with heap:=h2,toks:=tk})->Az (model prog w) A (A2 (.ref j)) Q E s
 done:∀ i (s:As) (Q:Vq) (E:Vq),n<=i->S i s.heap->(∀ h2 e,ZB j s.heap h2->(∃ o,h2.get? e=Ab o/\o.cls=.type "StopIteration")->E (.ref e) {s with heap:=h2})->Az (model prog w) A (A2 (.ref j)) Q E s
def E4(t:Al)(h:AJ)(j l:Ak)(i:Ag):Prop:=match t with
  |true=>h.IsTupleIter j l i
  |false=>h.IsListIter j l i
def Cq(t:Al)(h:AJ)(l:Ak)(its:A6 Ai):Prop:=match t with
  |true=>h.IsTuple l its
  |false=>h.IsList l its
theorem IF{A:Bc}(calm:A.handled=Af)(t:Al)(j l:Ak)(ne:l≠j)(its:A6 Ai):Dw prog w A j [j,l] its.size (λi v=>its[i]?=Ab v) (λi h=>E4 t h j l i/\Cq t h l its):=by
 cases t with
 |true=>exact⟨λ_ _ _ z k=>⟨z.1.at λo e=>k j (by simp) o e,z.2.at λo e=>k l (by simp) o e⟩,λi s Q E hi z q=>zU z.1 z.2 (x:=its[i]) (by simp[hi]) λh2 z2 sb=>q _ h2 s.toks (by simp[hi]) ⟨z2,z.2.extBut sb.extBut ne⟩ sb,λi s Q E hi z q=>iT calm z.1 z.2 (by simp[hi]) q⟩
 |false=>exact⟨λ_ _ _ z k=>⟨z.1.at λo e=>k j (by simp) o e,z.2.at λo e=>k l (by simp) o e⟩,λi s Q E hi z q=>wpAny_nextOf_list_item z.1 z.2 (x:=its[i]) (by simp[hi]) λh2 z2 sb=>q _ h2 s.toks (by simp[hi]) ⟨z2,z.2.extBut sb.extBut ne⟩ sb,λi s Q E hi z q=>wpAny_nextOf_list_end calm z.1 z.2 (by simp[hi]) q⟩
theorem nb1{I l c:Ag}(b:l<I)(h:c∈[I,l])(j:Ag):c≠I+(j+1):=by
 have h':c=I\/c=l:=by simpa using h
 omega
theorem nb2{I l c:Ag}(b:l<I)(h:c∈[I+1,l]):c≠I/\c≠I+3/\c≠I+4:=by
 have h':c=I+1\/c=l:=by simpa using h
 omega
theorem nij{I i j:Ag}(h:i≠j):I+i≠I+j:=by omega
theorem ni0{I i:Ag}(h:i≠0):I+i≠I:=by omega
section
variable{prog:AT}{w:AD}{A:Bc}{E:Vq}{s:As}
theorem jY{I l1 l2 n1 n2 k:Ag}{a b:Ai}{Q:Vq}(b1:l1<I)(b2:l2<I)(D1:Dw prog w A I [I,l1] n1 P1 S1)(D2:Dw prog w A (I+1) [I+1,l2] n2 P2 S2)(hz:GN s.heap (I+4) (I+2) (I+3) .none)(hI:Fa s.heap (I+2) (.ref I) (.ref (I+1)))(hO:Fa s.heap (I+3) a b)(g1:S1 k s.heap)(g2:S2 k s.heap)(k1:k<n1)(k2:k<n2)(go:∀ x y h2 tk,P1 k x->P2 k y->GN h2 (I+4) (I+2) (I+3) (Co s.heap.objs.size)->Fa h2 (I+3) x y->S1 (k+1) h2->S2 (k+1) h2->Fa h2 s.heap.objs.size x y ->
   (∀ c o,c∉[I,I+1,I+3,I+4]->s.heap.get? c=Ab o->h2.get? c=Ab o)->Q (.ref s.heap.objs.size) {s with heap:=h2,toks:=tk}):Az (model prog w) A (Builtin.«zip.__next__» ⟨[.ref (I+4)],[]⟩) (λfin s'=>∃ v,fin=.done (.ret v)/\Q v s') E s:=by
 refine Ah (m:=field (.ref (I+4)) 2) (Bi hz rfl (x:=.bool Ae) rfl ?_);refine Ah (m:=field (.ref (I+4)) 3) (Bi hz rfl (x:=.ref (I+2)) rfl (Ah (B4 hI rfl ?_)));refine Ah (m:=A3 (.ref (I+4))) ?_;simp only[A3];refine Ah (Bi hz rfl (x:=.none) rfl (Ax ?_));rw[AF rfl];refine Ah (Fp (Ah (Bi hz rfl (x:=.ref (I+3)) rfl (Ah (B9 hz (by simp) λp1 z1 e1=>Ah ?_)))))
 have z1':GN p1 (I+4) (I+2) (I+3) .ellipsis:=z1;simp only[Gs,GI,Eh,D7];refine Ah (Ah (DY (Ah (m:=A2 (.ref I)) (D1.item k _ _ _ k1 (D1.frame _ _ _ g1 λc hc o q=>e1.extBut c o (nb1 b1 hc 3) q) λx p2 t2 px s2 e2=>Ax ?_))))
 have o2:Fa p2 (I+3) a b:=e2.extBut _ _ (ni0 (by decide)) (e1.extBut _ _ (nij (by decide)) hO)
 refine Ah (B4 o2 rfl (Ah (GR o2 λp3 o3 e3=>Ah (FH (Ax ?_)))))
 have o3':Fa p3 (I+3) x b:=o3;have g2':S2 k p3:=D2.frame _ _ _ g2 λc hc o q=>e3.extBut c o (nb2 b2 hc).2.1 (e2.extBut c o (nb2 b2 hc).1 (e1.extBut c o (nb2 b2 hc).2.2 q))
 refine Ah (Ah (DY (Ah (m:=A2 (.ref (I+1))) (D2.item k _ _ _ k2 g2' λy p4 t4 py s4 e4=>Ax ?_))))
 have o4:Fa p4 (I+3) x b:=e4.extBut _ _ (nij (by decide)) o3'
 refine Ah (B4 o4 rfl (Ah (GR o4 λp5 o5 e5=>Ah (FH (Ax (Ax ?_))))))
 have o5':Fa p5 (I+3) x y:=o5;have sz:p5.objs.size=s.heap.objs.size:=by rw[e5.1,e4.1,e3.1,e2.1,e1.1]
 have z5:GN p5 (I+4) (I+2) (I+3) .ellipsis:=e5.extBut _ _ (nij (by decide)) (e4.extBut _ _ (nij (by decide)) (e3.extBut _ _ (nij (by decide)) (e2.extBut _ _ (ni0 (by decide)) z1')))
 refine Ah (B4 o5' rfl (Ah (IT ?_)));refine Ah (m:=Dd (.ref (I+4)) (.ref p5.objs.size)) ?_;simp only[Dd];have z6:GN (p5.push { cls:=.type "tuple",data:=.seq #[x,y] }) (I+4) (I+2) (I+3) .ellipsis:=Ar _ z5;refine Ah (B9 z6 (by simp) λp7 z7 e7=>?_)
 have z7':GN p7 (I+4) (I+2) (I+3) (Co p5.objs.size):=z7;refine B9 z7' (by simp) λp8 z8 e8=>Ax ⟨_,rfl,?_⟩
 have z8':GN p8 (I+4) (I+2) (I+3) (Co p5.objs.size):=z8;have lt5:I+4<p5.objs.size:=AE z5;have up:∀ c o,c≠I+4->p5.get? c=Ab o->p8.get? c=Ab o:=λc o nc q=>e8.extBut _ _ nc (e7.extBut _ _ nc (Ar _ q))
 have t8:Fa p8 p5.objs.size x y:=e8.extBut _ _ (DD lt5) (e7.extBut _ _ (DD lt5) (Ay _ rfl));have a1:S1 (k+1) p8:=D1.frame _ _ _ s2 λc hc o q=>up c o (nb1 b1 hc 3) (e5.extBut c o (nb1 b1 hc 2) (e4.extBut c o (nb1 b1 hc 0) (e3.extBut c o (nb1 b1 hc 2) q)))
 have a2:S2 (k+1) p8:=D2.frame _ _ _ s4 λc hc o q=>up c o (nb2 b2 hc).2.2 (e5.extBut c o (nb2 b2 hc).2.1 q)
 have kp:∀ c o,c∉[I,I+1,I+3,I+4]->s.heap.get? c=Ab o->p8.get? c=Ab o:=λc o nc q=>by
  simp only[Au,AO,BM,Dh]at nc;exact up c o nc.2.2.2 (e5.extBut c o nc.2.2.1 (e4.extBut c o nc.2.1 (e3.extBut c o nc.2.2.1 (e2.extBut c o nc.1 (e1.extBut c o nc.2.2.2 q)))))
 have q:=go x y p8 t4 px py (by rw[<-sz];exact z8') (up _ _ (nij (by decide)) o5') a1 a2 (by rw[<-sz];exact t8) kp
 rw[<-sz]at q;exact q
theorem pJ{I l1 l2 n1 n2 k:Ag}{a b:Ai}{Q:Fin->As->Prop}(b1:l1<I)(b2:l2<I)(D1:Dw prog w A I [I,l1] n1 P1 S1)(D2:Dw prog w A (I+1) [I+1,l2] n2 P2 S2)(hz:GN s.heap (I+4) (I+2) (I+3) .none)(hI:Fa s.heap (I+2) (.ref I) (.ref (I+1)))(hO:Fa s.heap (I+3) a b)(g1:S1 k s.heap)(g2:S2 k s.heap)(hk:n1<=k\/(k<n1/\n2<=k))(up:∀ h2 e tk,(∀ c o,c∉[I,I+1,I+3,I+4]->s.heap.get? c=Ab o->h2.get? c=Ab o)->(∃ o,h2.get? e=Ab o/\o.cls=.type "StopIteration")->E (.ref e) {s with heap:=h2,toks:=tk}):Az (model prog w) A (Builtin.«zip.__next__» ⟨[.ref (I+4)],[]⟩) Q E s:=by
 refine Ah (m:=field (.ref (I+4)) 2) (Bi hz rfl (x:=.bool Ae) rfl ?_);refine Ah (m:=field (.ref (I+4)) 3) (Bi hz rfl (x:=.ref (I+2)) rfl (Ah (B4 hI rfl ?_)));refine Ah (m:=A3 (.ref (I+4))) ?_;simp only[A3];refine Ah (Bi hz rfl (x:=.none) rfl (Ax ?_));rw[AF rfl];refine Ah (Fp (Ah (Bi hz rfl (x:=.ref (I+3)) rfl (Ah (B9 hz (by simp) λp1 z1 e1=>Ah ?_)))))
 have z1':GN p1 (I+4) (I+2) (I+3) .ellipsis:=z1;simp only[Gs,GI,Eh,D7];have g1':S1 k p1:=D1.frame _ _ _ g1 λc hc o q=>e1.extBut c o (nb1 b1 hc 3) q
 rcases hk with k1|⟨k1,k2⟩
 .refine Ah (Ah (DY (Ah (m:=A2 (.ref I)) (D1.done _ _ _ _ k1 g1' λp2 e e2 he=>?_))))
  obtain⟨oe,hoe,hce⟩:=he;have z2:GN p2 (I+4) (I+2) (I+3) .ellipsis:=e2 _ _ (ni0 (by decide)) z1'
  have ne:e≠I+4:=λx=>by subst x;rw[z2]at hoe;cases hoe;simp at hce
  refine B9 z2 (by simp) λp3 _ e3=>up p3 e s.toks (λc o nc q=>?_) ⟨oe,e3.extBut _ _ ne hoe,hce⟩
  simp only[Au,AO,BM,Dh]at nc;exact e3.extBut c o nc.2.2.2 (e2 c o nc.1 (e1.extBut c o nc.2.2.2 q))
 .refine Ah (Ah (DY (Ah (m:=A2 (.ref I)) (D1.item k _ _ _ k1 g1' λx p2 t2 px s2 e2=>Ax ?_))))
  have o2:Fa p2 (I+3) a b:=e2.extBut _ _ (ni0 (by decide)) (e1.extBut _ _ (nij (by decide)) hO)
  refine Ah (B4 o2 rfl (Ah (GR o2 λp3 o3 e3=>Ah (FH (Ax ?_)))))
  have g2':S2 k p3:=D2.frame _ _ _ g2 λc hc o q=>e3.extBut c o (nb2 b2 hc).2.1 (e2.extBut c o (nb2 b2 hc).1 (e1.extBut c o (nb2 b2 hc).2.2 q))
  refine Ah (Ah (DY (Ah (m:=A2 (.ref (I+1))) (D2.done _ _ _ _ k2 g2' λp4 e e4 he=>?_))))
  obtain⟨oe,hoe,hce⟩:=he;have z4:GN p4 (I+4) (I+2) (I+3) .ellipsis:=e4 _ _ (nij (by decide)) (e3.extBut _ _ (nij (by decide)) (e2.extBut _ _ (ni0 (by decide)) z1'))
  have ne:e≠I+4:=λx=>by subst x;rw[z4]at hoe;cases hoe;simp at hce
  refine B9 z4 (by simp) λp5 _ e5=>up p5 e t2 (λc o nc q=>?_) ⟨oe,e5.extBut _ _ ne hoe,hce⟩
  simp only[Au,AO,BM,Dh]at nc;exact e5.extBut c o nc.2.2.2 (e4 c o nc.2.1 (e3.extBut c o nc.2.2.1 (e2.extBut c o nc.1 (e1.extBut c o nc.2.2.2 q))))
end
def SqX(t:Al)(K:Fg)(H:Hp)(a:Ak)(xs:Ac V):Prop:=match t with
  |true=>SqT K H a xs
  |false=>SqL K H a xs
theorem Hy(I:Inv X pI U H s)(h:SqX t X.K H a xs):∃ its:Ac Ai,Bk xs its/\Cq t s.heap a its.toArray/\xs.length<=sizeLine:=by
 cases t with
 |true=>
  obtain⟨its,rv,p,z⟩:=I.tuple h;exact⟨its,rv,p,z⟩
 |false=>
  obtain⟨its,rv,p,z⟩:=I.list h;exact⟨its,rv,p.isList,z⟩
theorem PJ{ys:Ac V}(I:Inv X pI U H s)(h:SqX t X.K H a xs)(h2:SqX t X.K H a ys):xs=ys:=by
 cases t with
 |true=>exact I.tuple_inj h h2
 |false=>exact I.list_inj h h2
noncomputable def Itz(K:Fg)(t1 t2:Al)(a b:Ak):It:=
  ⟨λi H=>∃ xs ys x y,SqX t1 K H a xs/\SqX t2 K H b ys/\xs[i]?=Ab x/\ys[i]?=Ab y,
   λi H v H'=>∃ p x y,H p=Af/\v=.ref p/\(∀ xs,SqX t1 K H a xs->xs[i]?=Ab x)/\(∀ ys,SqX t2 K H b ys->ys[i]?=Ab y)/\H'=upd H p (.tup [x,y]),
   λi H=>∃ xs ys,SqX t1 K H a xs/\SqX t2 K H b ys/\(xs.length<=i\/(i<xs.length/\ys.length<=i))⟩
theorem Inv.turnedL(ch:Ac Ak)(I:Inv X pI U H s)(k:∀ b o,b∉ch->s.heap.get? b=Ab o->h'.get? b=Ab o)(hf:∀ b∈ch,Hh X pI H b):Inv X pI U H {s with heap:=h',toks:=t'}:=by
 have nit:∀ b u,H b=Ab u->b∉ch:=λb u e z=>by rw[(hf b z).1]at e;cases e
 refine I.step (g':=s.gens) (d':=s.drawn) (ch:=ch) (λb hb=>⟨(hf b hb).2.2.2.1,(hf b hb).2.1,(hf b hb).2.2.2.2.1,(hf b hb).2.2.2.2.2⟩) (λb o _ _ hc e _=>k b o hc e) (λb o _ _ hc e _=>⟨o.slots,k b o hc e⟩) (λ_ _ _ _ n=>n)
  (λb o hc e=>⟨o,k b o hc e⟩) (λ_ _ e=>e) (λ_ _ _ e=>e) (λb ps e=>⟨#[],by rw[e];simp⟩) (λm ⟨o,es,ep,ho,r⟩=>⟨o,es,ep,k _ o (λz=>(hf _ z).2.1 rfl) ho,r⟩) (λb u e=>(I.hok b u e).stay (λc v hc q=>k c v ?_ q) (λ_ q=>q) λ_ _ q=>q) I.bare
 rcases hc with z|z
 .rw[z];exact nit b u e
 .exact nit c _ z
def zTn(t1 t2:Al)(I l1 l2:Ag)(i:Ag)(h:AJ):Prop:=GN h (I+4) (I+2) (I+3) .none/\Fa h (I+2) (.ref I) (.ref (I+1))/\(∃ a b,Fa h (I+3) a b)/\E4 t1 h I l1 i/\E4 t2 h (I+1) l2 i
noncomputable def zFp(I:Ag):Ac Ak:=[I,I+1,I+2,I+3,I+4]
theorem E4.obj{j:Ak}(z:E4 t h j l i):∃ o,h.get? j=Ab o/\∀ v,o.data≠.cell v:=by
 cases t with
 |true=>obtain⟨o,e,c,d⟩:=z;exact⟨o,e,λv z=>by rw[d]at z;cases z⟩
 |false=>obtain⟨o,e,c,d⟩:=z;exact⟨o,e,λv z=>by rw[d]at z;cases z⟩
theorem E4.at'{j:Ak}(z:E4 t h j l i)(k:∀ o,h.get? j=Ab o->h2.get? j=Ab o):E4 t h2 j l i:=by
 cases t with
 |true=>exact PySem.Heap.IsTupleIter.at z k
 |false=>exact PySem.Heap.IsListIter.at z k
theorem jP(t1 t2:Al)(I l1 l2:Ag)(b1:l1<I)(b2:l2<I):Turn P w K (.Tuple es n pos) (Itz K t1 t2 l1 l2) (zFp I) (I+4) (zTn t1 t2 I l1 l2) where
  mem:=by simp[zFp]
  obj:=λi h ⟨z1,z2,⟨a,b,z3⟩,z4,z5⟩ c hc=>by
    simp only[zFp,Au,AO,BM]at hc;rcases hc with rfl|rfl|rfl|rfl|rfl
    · exact z4.obj
    · exact z5.obj
    · exact⟨_,z2,λv z=>by cases z⟩
    · exact⟨_,z3,λv z=>by cases z⟩
    · exact⟨_,z1,λv z=>by cases z⟩
  keep:=λi h h2 ⟨z1,z2,⟨a,b,z3⟩,z4,z5⟩ k=>⟨k _ (by simp[zFp]) _ z1,k _ (by simp[zFp]) _ z2,⟨a,b,k _ (by simp[zFp]) _ z3⟩,z4.at' λo e=>k _ (by simp[zFp]) o e,z5.at' λo e=>k _ (by simp[zFp]) o e⟩
  item:=by
    intro X hP hw hK hc i pI s U H E Iv hf ⟨z1,z2,⟨a,b,z3⟩,z4,z5⟩ ⟨xs,ys,x,y,q1,q2,hx,hy⟩;subst hP hw hK;obtain⟨us,rx,sx,_⟩:=Hy Iv q1;obtain⟨vs,ry,sy,_⟩:=Hy Iv q2;obtain⟨u,hu,ru⟩:=rx.get hx;obtain⟨v,hv,rv⟩:=ry.get hy;have hT:s.TypeIs (.ref (I+4)) "zip" := ⟨_,z1,rfl⟩;have calm:X.A.in1.handled=Af:=Iv.ok.hd hc;show Az _ _ (EG _) _ _ _;simp only[EG];refine Ah (FB (BW hT CD (CV CD hT ED (jY (k:=i) b1 b2 (IF calm t1 I l1 (Bb b1) us.toArray) (IF calm t2 (I+1) l2 (Bb (DX b2)) vs.toArray) z1 z2 z3 ⟨z4,sx⟩ ⟨z5,sy⟩
      (by have:=(Bf.mp hu).1;simpa using this) (by have:=(Bf.mp hv).1;simpa using this) λx' y' h2 tk px py c1 c2 c3 c4 c5 kp=>Ax ?_) (Er _))))
    have ex:x'=u:=by
      have px':us[i]?=Ab x':=by simpa using px
      rw[hu]at px';exact(BN px').symm
    have ey:y'=v:=by
      have py':vs[i]?=Ab y':=by simpa using py
      rw[hv]at py';exact(BN py').symm
    subst ex ey;refine⟨_,rfl,wpAny_letOwnedTupleGo_zip c1 λh3 d1 sb=>?_⟩
    have lt4:I+4<s.heap.objs.size:=AE z1;have kp3:∀ c o,c∉zFp I->s.heap.get? c=Ab o->h3.get? c=Ab o:=λc o nc q=>by
      simp only[zFp,Au,AO,BM,Dh]at nc;exact sb.extBut c o nc.2.2.2.2 (kp c o (by simp only[Au,AO,BM,Dh];exact⟨nc.1,nc.2.1,nc.2.2.2.1,nc.2.2.2.2⟩) q)
    have nT:∀ c∈zFp I,c≠s.heap.objs.size:=λc hc z=>by
      have:c<=I+4:=by
        simp only[zFp,Au,AO,BM]at hc;rcases hc with z|z|z|z|z<;>rw[z]<;>simp
      exact absurd (z ▸ Eb this lt4) (Bx _)
    have I1:Inv X pI U (upd H s.heap.objs.size (.tup [x,y])) { s with heap:=s.heap.push { cls:=.type "tuple",data:=.seq #[x',y'] },toks:=s.toks }:=
      Iv.laid (λ_ _ q=>Ar _ q) (A1 _) ⟨(by decide:2<=sizeLine),[x',y'],.cons ru (.cons rv .nil),⟨_,Ay _ rfl,rfl,_,rfl⟩⟩
    have hf':∀ b∈zFp I,Hh X pI (upd H s.heap.objs.size (.tup [x,y])) b:=λb hb=>⟨by rw[DF (nT b hb)];exact(hf b hb).1,(hf b hb).2⟩
    have I2:Inv X pI U (upd H s.heap.objs.size (.tup [x,y])) {s with heap:=h3,toks:=tk}:=Inv.turnedL (s:={ s with heap:=s.heap.push { cls:=.type "tuple",data:=.seq #[x',y'] },toks:=s.toks }) (zFp I) I1 (λc o nc q=>by
      rcases ZC q with ⟨e1,e2⟩|e1
      · subst e1 e2;exact sb.extBut _ _ (DD lt4) c5
      · exact kp3 c o nc e1) hf'
    refine⟨.ref s.heap.objs.size,_,I2,rfl,⟨s.heap.objs.size,x,y,Iv.fresh,rfl,λzs hz=>by rw[PJ Iv hz q1];exact hx,λzs hz=>by rw[PJ Iv hz q2];exact hy,rfl⟩,⟨d1,sb.extBut _ _ (nij (by decide)) (kp _ _ (by simp) z2),⟨_,_,sb.extBut _ _ (nij (by decide)) c2⟩,c3.1.at' λo q=>sb.extBut _ o (CK (ni0 (by decide))) q,c4.1.at' λo q=>sb.extBut _ o (nij (by decide)) q⟩,λb hb=>(hf' b hb).1⟩
  done:=by
    intro X hP hw hK hc i pI s U H E Iv hf ⟨z1,z2,⟨a,b,z3⟩,z4,z5⟩ ⟨xs,ys,q1,q2,hk⟩;subst hP hw hK;obtain⟨us,rx,sx,_⟩:=Hy Iv q1;obtain⟨vs,ry,sy,_⟩:=Hy Iv q2;have hT:s.TypeIs (.ref (I+4)) "zip" := ⟨_,z1,rfl⟩;have calm:X.A.in1.handled=Af:=Iv.ok.hd hc;have e1:=rx.length;have e2:=ry.length;simp only[EG];refine Ah (FB (BW hT CD (CV CD hT ED (pJ (k:=i) b1 b2 (IF calm t1 I l1 (Bb b1) us.toArray) (IF calm t2 (I+1) l2 (Bb (DX b2)) vs.toArray) z1 z2 z3 ⟨z4,sx⟩ ⟨z5,sy⟩
      (by simp only[AG];omega) λh2 e tk kp he=>?_) (Er _))))
    obtain⟨o,ho,hcl⟩:=he;refine Ah (aJ (T := "StopIteration") (b:=Aa) ⟨o,ho,hcl⟩ Z_9 (Ax ⟨rfl,Inv.turnedL [I,I+1,I+3,I+4] Iv (λc o nc q=>kp c o nc q) λc hc=>hf c ?_⟩))
    simp only[Au,AO,BM]at hc;simp only[zFp,Au,AO,BM];rcases hc with rfl|rfl|rfl|rfl<;>simp
  self:=λ_ _ _ _ _ st h=>aL st.1 h
section
variable{prog:AT}{w:AD}{A:Bc}{E:Vq}{s:As}
noncomputable def itO(t:Al)(l:Ak):Dk:=match t with
  |true=>{ cls:=.type "tuple_iterator",data:=.fields #[.ref l,.int 0 0] }
  |false=>{ cls:=.type "list_iterator",data:=.fields #[.ref l,.int 0 0] }
theorem JV{Q:Vq}(h:Cq t s.heap l its)(q:Q (.ref s.heap.objs.size) {s with heap:=s.heap.push (itO t l)}):Az (model prog w) A (K0 (.ref l)) Q E s:=by
 cases t with
 |true=>exact FU h q
 |false=>exact E6 h q
theorem Cq.push(z:Cq t h l its)(o:Dk):Cq t (h.push o) l its:=by
 cases t with
 |true=>exact PySem.Heap.IsTuple.at z λ_ e=>Ar _ e
 |false=>exact PySem.Heap.IsList.at z λ_ e=>Ar _ e
theorem Lz{j:Ak}(e:h.get? j=Ab (itO t l)):E4 t h j l 0:=by
 cases t with
 |true=>exact⟨_,e,rfl,rfl⟩
 |false=>exact⟨_,e,rfl,rfl⟩
theorem Lp(t:Al)(l:Ak):(itO t l).isFreed=Ae:=by cases t<;>rfl
noncomputable abbrev zh2(t1 t2:Al)(h:AJ)(l1 l2:Ak):AJ:=(h.push (itO t1 l1)).push (itO t2 l2)
noncomputable abbrev zh3(t1 t2:Al)(h:AJ)(l1 l2:Ak):AJ:=(zh2 t1 t2 h l1 l2).push { cls:=.type "tuple",data:=.seq #[.ref h.objs.size,.ref (h.push (itO t1 l1)).objs.size] }
noncomputable abbrev zh4(t1 t2:Al)(h:AJ)(l1 l2:Ak):AJ:=(zh3 t1 t2 h l1 l2).push { cls:=.type "tuple",data:=.seq #[.none,.none] }
noncomputable abbrev zh5(t1 t2:Al)(h:AJ)(l1 l2:Ak):AJ:=(zh4 t1 t2 h l1 l2).push { cls:=.type "zip",data:=.fields #[.none,.bool Ae,.bool Ae,.ref (zh2 t1 t2 h l1 l2).objs.size,.ref (zh3 t1 t2 h l1 l2).objs.size] }
theorem pH(t1 t2:Al)(l1 l2:Ak)(xs ys:A6 Ai):Meets (Builtin.«zip.__new__» ⟨[.type "zip",.ref l1,.ref l2],[]⟩) (λ_ R s=>Cq t1 s.heap l1 xs/\Cq t2 s.heap l2 ys/\R (.ok (.ret (.ref (zh4 t1 t2 s.heap l1 l2).objs.size))) {s with heap:=zh5 t1 t2 s.heap l1 l2}):=
 .of_wp λprog w A R s h=>by
  obtain⟨hp,g,d,tk,os⟩:=s;obtain⟨a1,a2,q⟩:=h;have hsub:=sub_zip;have L1:Cq t1 (Gj ⟨hp,g,d,tk,os⟩) l1 xs:=a1;have L2:Cq t2 (Gj ⟨hp.push (itO t1 l1),g,d,tk,os⟩) l2 ys:=a2.push _
  wp_walk using JV L1,JV L2
  exact⟨_,rfl,q⟩
theorem jZ{t1 t2:Al}{l1 l2:Ak}{xs ys:A6 Ai}{Q:Vq}(a1:Cq t1 s.heap l1 xs)(a2:Cq t2 s.heap l2 ys)(q:∀ h2,zTn t1 t2 s.heap.objs.size l1 l2 0 h2->(∀ c o,s.heap.get? c=Ab o->h2.get? c=Ab o)->Q (.ref (s.heap.objs.size+4)) {s with heap:=h2}):Az (model prog w) A (call (.type "zip") [.ref l1,.ref l2]) Q E s:=by
 refine JG Zp (by decide) (F.typeCall_zip_2 _ _) (F.newCall_zip_2 _ _) (λobj=>F.args_object_init_3 obj _ _) Zu (pH t1 t2 l1 l2 xs ys) ⟨a1,a2,?_⟩
 have s1:(s.heap.push (itO t1 l1)).objs.size=s.heap.objs.size+1:=Bz ..;have s2:(zh2 t1 t2 s.heap l1 l2).objs.size=s.heap.objs.size+2:=by rw[Bz,s1]
 have s3:(zh3 t1 t2 s.heap l1 l2).objs.size=s.heap.objs.size+3:=by rw[Bz,s2]
 have s4:(zh4 t1 t2 s.heap l1 l2).objs.size=s.heap.objs.size+4:=by rw[Bz,s3]
 have u5:∀ {c o},(zh4 t1 t2 s.heap l1 l2).get? c=Ab o->(zh5 t1 t2 s.heap l1 l2).get? c=Ab o:=λe=>Ar _ e
 have u4:∀ {c o},(zh3 t1 t2 s.heap l1 l2).get? c=Ab o->(zh5 t1 t2 s.heap l1 l2).get? c=Ab o:=λe=>u5 (Ar _ e)
 have u3:∀ {c o},(zh2 t1 t2 s.heap l1 l2).get? c=Ab o->(zh5 t1 t2 s.heap l1 l2).get? c=Ab o:=λe=>u4 (Ar _ e)
 have u2:∀ {c o},(s.heap.push (itO t1 l1)).get? c=Ab o->(zh5 t1 t2 s.heap l1 l2).get? c=Ab o:=λe=>u3 (Ar _ e)
 have g5:(zh5 t1 t2 s.heap l1 l2).get? (zh4 t1 t2 s.heap l1 l2).objs.size=Ab _:=Ay _ rfl;have g4:(zh5 t1 t2 s.heap l1 l2).get? (zh3 t1 t2 s.heap l1 l2).objs.size=Ab _:=u5 (Ay _ rfl);have g3:(zh5 t1 t2 s.heap l1 l2).get? (zh2 t1 t2 s.heap l1 l2).objs.size=Ab _:=u4 (Ay _ rfl);have g2:(zh5 t1 t2 s.heap l1 l2).get? (s.heap.push (itO t1 l1)).objs.size=Ab _:=u3 (Ay _ (Lp _ _));have g1:(zh5 t1 t2 s.heap l1 l2).get? s.heap.objs.size=Ab _:=u2 (Ay _ (Lp _ _));show _/\_;rw[s2,s3,s4]at g5;rw[s3]at g4;rw[s1,s2]at g3;rw[s1]at g2;rw[s4];exact⟨⟨_,g5,rfl⟩,q _ ⟨g5,g3,⟨_,_,g4⟩,Lz g1,Lz g2⟩ λc o e=>u2 (Ar _ e)⟩
end
def eZ(K:Fg)(ta:TA):TI:=λU H R=>ta U H λvs H1=>∃ t1 t2 a b xs ys,vs=[.ref a,.ref b]/\SqX t1 K H1 a xs/\SqX t2 K H1 b ys/\(xs.length<=sizeLine->R (Itz K t1 t2 a b) H1)
theorem Cq.lt(z:Cq t h a its):a<h.objs.size:=by
 cases t with
 |true=>obtain⟨o,e,_⟩:=z;exact AE e
 |false=>obtain⟨o,e,_⟩:=z;exact AE e
theorem aj{a b:Ao}(hg:Gl X "zip")(hm:X.mg "zip" = Af)(ha:PA X [a,b] ta)(hs:AB [a,b] X.env=[(Ae,eval a X.env),(Ae,eval b X.env)])(hs2:AB [b] X.env=[(Ae,eval b X.env)]):
  PI X (.Tuple es n tpos) (.Call (.Name "zip" p) [a,b] [] pos) (eZ X.K ta):=by
 intro pI s U H R I h;refine KS (Jh I hg hm YG (Cs (thn (ha pos pI s U H _ I h) λus s1 ⟨vs,H1,I1,r1,q1⟩=>?_) (by rw[hs,hs2]) (by rw[hs2];rfl)))
 obtain⟨t1,t2,c,d,xs,ys,e,sx,sy,q⟩:=q1;subst e;cases r1 with
 |cons r rr=>
  cases rr with
  |cons r' rr=>
   cases rr;cases r;cases r';obtain⟨us,ru,iu,zu⟩:=Hy I1 sx;obtain⟨vs,rv,iv,_⟩:=Hy I1 sy;refine jZ iu iv λh2 z kp=>aL z.1 ?_
   refine⟨s1.heap.objs.size+4,zFp s1.heap.objs.size,_,_,H1,rfl,I1.kept (t':=s1.toks) kp,jP t1 t2 s1.heap.objs.size c d iu.lt iv.lt,z,λb hb=>?_,q zu⟩
   have hb':s1.heap.objs.size<=b:=by
    simp only[zFp,Au,AO,BM]at hb;rcases hb with z|z|z|z|z<;>rw[z]<;>simp
   exact I1.fpOk hb' (I1.hok.fresh hb')
theorem LG{ds:Ac D}(r:Rep K CL H A v d)(e:Ch d=.ok ds):∃ t a xs,v=.ref a/\(∀ H2,Kp A H H2->SqX t K H2 a xs)/\Reps K CL H A xs ds:=by
 cases d with
 |lst es=>
  cases e;obtain⟨q,xs,rfl,na,sq,r⟩:=r;exact⟨Ae,q,xs,rfl,λH2 k=>NS k na sq,r⟩
 |tup es=>
  cases e;obtain⟨q,xs,rfl,na,sq,r⟩:=r;exact⟨Aa,q,xs,rfl,λH2 k=>MI k na sq,r⟩
 |_=>cases e
theorem Qn:∀(xs ys:Ac D),(FJ xs ys).length=min xs.length ys.length
 |[],_=>by simp[FJ]
 |_::_,[]=>by simp[FJ]
 |x::xs,y::ys=>by
  rw[FJ,Bl,Qn xs ys];simp only[Bl];omega
theorem Uh:∀(xs ys:Ac D)(i:Ag)(d:D),(FJ xs ys)[i]?=Ab d->∃ x y,xs[i]?=Ab x/\ys[i]?=Ab y/\d=.tup [x,y]
 |[],_,i,d,h=>by simp[FJ]at h
 |_::_,[],i,d,h=>by simp[FJ]at h
 |x::xs,y::ys,0,d,h=>by
  rw[FJ]at h;simp only[EK,Ce]at h;exact⟨x,y,rfl,rfl,h.symm⟩
 |x::xs,y::ys,i+1,d,h=>by
  rw[FJ]at h;simp only[EJ]at h ⊢;exact Uh xs ys i d h
theorem kE{t1 t2:Al}{ys:Ac V}{ds es:Ac D}(s1:∀ H2,Kp A H1 H2->SqX t1 K H2 a xs)(s2:∀ H2,Kp A H1 H2->SqX t2 K H2 b ys)(r1:Reps K CL H1 A xs ds)(r2:Reps K CL H1 A ys es):Js K CL A (FJ ds es) (Itz K t1 t2 a b) H1:=λH k i=>by
 refine⟨λhi=>⟨xs,ys,s1 H k,s2 H k,?_⟩,λd hd=>?_⟩
 .rw[Qn]at hi;rw[r1.length,r2.length];omega
 .obtain⟨x,y,hx,hy,rfl⟩:=Uh _ _ _ _ hd;obtain⟨u,hu,ru⟩:=r1.get hx;obtain⟨v,hv,rv⟩:=r2.get hy;refine⟨⟨xs,ys,u,v,s1 H k,s2 H k,hu,hv⟩,?_⟩;rintro w' H' ⟨p,x',y',hp,rfl,c1,c2,rfl⟩;have ex:x'=u:=BN ((c1 xs (s1 H k)).symm.trans hu);have ey:y'=v:=BN ((c2 ys (s2 H k)).symm.trans hv);subst ex ey;have sm:=Gv hp (.tup [x',y']);exact⟨sm,λB hB aB=>Li aB hp ⟨Mk ru k hB,Mk rv k hB,trivial⟩⟩
section
variable{X:Cx}{CL:ClA}{W:XW}{pos p:AX}{a b:Ao}{fa fb:Rho->R D}
theorem yB(ha:SE X CL W a fa)(hb:SE X CL W b fb)(hg:Gl X "zip")(hm:X.mg "zip" = Af)(hs:AB [a,b] X.env=[(Ae,eval a X.env),(Ae,eval b X.env)])(hs2:AB [b] X.env=[(Ae,eval b X.env)]):
  SI X CL W (.Tuple es n tpos) (.Call (.Name "zip" p) [a,b] [] pos) (λY=>(fa Y).bind λx=>(fb Y).bind λy=>(Ch x).bind λxs=>(Ch y).bind λys=>.ok (FJ xs ys)):=
 λA=>PI.weak (aj hg hm (Fe (ha A) (Fe (hb A) Hc hs2) (by rw[hs,hs2])) hs hs2) λU H R ⟨hA,Y,g,q⟩=>⟨hA,Y,g,Fv.ex q λd v H1 _ s1 r1 p1=>⟨hA.same s1,Y,g.same s1,Fv.ex p1 λd2 v2 H2 _ s2 r2 p2=>by
  cases e1:Ch d with
  |bad=>rw[e1]at p2;exact p2.elim
  |exn z=>exact absurd e1 (by cases d<;>simp[Ch])
  |ok ds=>
   cases e2:Ch d2 with
   |bad=>rw[e1,e2]at p2;exact p2.elim
   |exn z=>exact absurd e2 (by cases d2<;>simp[Ch])
   |ok es=>
    rw[e1,e2]at p2;obtain⟨t1,c1,xs,rfl,k1,rs1⟩:=LG (r1.same s2) e1;obtain⟨t2,c2,ys,rfl,k2,rs2⟩:=LG r2 e2;refine⟨t1,t2,c1,c2,xs,ys,rfl,k1 H2 (Kp.of (AH.refl H2)),k2 H2 (Kp.of (AH.refl H2)),λhz=>p2 _ H2 (AH.refl H2) (kE k1 k2 rs1 rs2) ?_⟩
    rw[Qn,<-rs1.length];omega⟩⟩
end
theorem E4.live{l:Ag}(z:E4 t h j l i):∃ o,h.get? j=Ab o/\∀ v,o.data≠.cell v:=by
 cases t with
 |true=>obtain⟨o,e,c,d⟩:=z;exact⟨o,e,λv z=>by rw[d]at z;cases z⟩
 |false=>obtain⟨o,e,c,d⟩:=z;exact⟨o,e,λv z=>by rw[d]at z;cases z⟩
theorem E4.keep{l:Ag}(z:E4 t h j l i)(k:∀ o,h.get? j=Ab o->h2.get? j=Ab o):E4 t h2 j l i:=by
 cases t with
 |true=>exact PySem.Heap.IsTupleIter.at z k
 |false=>exact PySem.Heap.IsListIter.at z k
theorem d6{A:Bc}(calm:A.handled=Af)(t:Al)(j l:Ak)(ne:l≠j)(its:A6 Ai):Draws prog w A j [j,l] its.size (λi v=>its[i]?=Ab v) (λi h=>E4 t h j l i/\Cq t h l its):=
 have d:=IF (prog:=prog) (w:=w) calm t j l ne its
 ⟨λi h z=>let ⟨o,e,_⟩:=z.1.live;⟨o,e⟩,d.frame,d.item,λs Q E h q=>d.done _ s Q E (A1 _) h q⟩
theorem vY{A:Bc}(calm:A.handled=Af)(t:Al)(j l:Ak)(ne:l≠j)(its:A6 Ai)(i:Ag)(hi:its.size<=i):Draws prog w A j [j,l] i (λ_ _=>Bu) (λk h=>k=i/\E4 t h j l i/\Cq t h l its):=
 have d:=IF (prog:=prog) (w:=w) calm t j l ne its
 ⟨λ_ h z=>let ⟨o,e,_⟩:=z.2.1.live;⟨o,e⟩,λk h h' z q=>⟨z.1,d.frame i h h' z.2 q⟩,λk s Q E lt z=>absurd z.1 (Bb lt),λs Q E h q=>d.done i s Q E hi h.2 q⟩
noncomputable def Ite(K:Fg)(t:Al)(a:Ak):It:=
 ⟨λi H=>∃ xs x,SqX t K H a xs/\xs[i]?=Ab x,λi H v H'=>∃ p x,H p=Af/\v=.ref p/\(∀ xs,SqX t K H a xs->xs[i]?=Ab x)/\H'=upd H p (.tup [.int i,x]),λi H=>∃ xs,SqX t K H a xs/\xs.length<=i⟩
def eTn(t:Al)(I l:Ag)(i:Ag)(h:AJ):Prop:=(∃ old,IsEnum h (I+1) I i old)/\E4 t h I l i
theorem gY(t:Al)(I l:Ag)(b:l<I):Turn P w K (.Tuple es n pos) (Ite K t l) [I,I+1] (I+1) (eTn t I l) where
  mem:=by simp
  obj:=λi h ⟨⟨old,z1⟩,z2⟩ c hc=>by
    simp only[Au,AO,BM]at hc;rcases hc with rfl|rfl
    · exact z2.live
    · exact⟨_,z1,λv z=>by cases z⟩
  keep:=λi h h2 ⟨⟨old,z1⟩,z2⟩ k=>⟨⟨old,k _ (by simp) _ z1⟩,z2.keep λo e=>k _ (by simp) o e⟩
  item:=by
    intro X hP hw hK hc i pI s U H E Iv hf ⟨⟨old,z1⟩,z2⟩ ⟨xs,x,q1,hx⟩;subst hP hw hK;obtain⟨us,rx,px,_⟩:=Hy Iv q1;obtain⟨u,hu,ru⟩:=rx.get hx;have lu:i<us.toArray.size:=by
      have:=(Bf.mp hu).1;simpa using this
    refine wpAny_pyNext_enum_itemD (d6 (A:=X.A.in1) (Iv.ok.hd hc) t I l (Bb b) us.toArray) z1 ⟨z2,px⟩ lu (ni0 (by decide)) (by simp only[Au,AO,BM,Dh];exact⟨ni0 (by decide),DD (AI b (EC _ _))⟩) λu' h2 tk hu' ho it2 hT sz kp=>⟨_,rfl,wpAny_letOwnedTupleGo_enum ho λh3 d1 sb=>?_⟩
    have eu:u'=u:=by
      rw[Yn,hu]at hu';exact(BN hu').symm
    subst eu;have lt:I+1<s.heap.objs.size:=AE z1;have kp3:∀ c o,c∉[I,I+1]->s.heap.get? c=Ab o->h3.get? c=Ab o:=λc o nc q=>by
      simp only[Au,AO,BM,Dh]at nc;exact sb.extBut c o nc.2 (kp c o nc.2 nc.1 q)
    have nT:∀ c∈[I,I+1],c≠s.heap.objs.size:=λc hc z=>by
      have:c<=I+1:=by
        simp only[Au,AO,BM]at hc;rcases hc with z|z<;>rw[z]<;>simp
      exact absurd (z ▸ Eb this lt) (Bx _)
    have I1:Inv X pI U (upd H s.heap.objs.size (.tup [.int i,x])) { s with heap:=s.heap.push { cls:=.type "tuple",data:=.seq #[.int i tk,u'] },toks:=s.toks }:=
      Iv.laid (λ_ _ q=>Ar _ q) (A1 _) ⟨(by decide:2<=sizeLine),[.int i tk,u'],.cons ⟨_,rfl⟩ (.cons ru .nil),⟨_,Ay _ rfl,rfl,_,rfl⟩⟩
    have hf':∀ b∈[I,I+1],Hh X pI (upd H s.heap.objs.size (.tup [.int i,x])) b:=λb hb=>⟨by rw[DF (nT b hb)];exact(hf b hb).1,(hf b hb).2⟩
    have I2:Inv X pI U (upd H s.heap.objs.size (.tup [.int i,x])) {s with heap:=h3,toks:=tk+1}:=Inv.turnedL (s:={ s with heap:=s.heap.push { cls:=.type "tuple",data:=.seq #[.int i tk,u'] },toks:=s.toks }) [I,I+1] I1 (λc o nc q=>by
      rcases ZC q with ⟨e1,e2⟩|e1
      · subst e1 e2;exact sb.extBut _ _ (DD lt) hT
      · exact kp3 c o nc e1) hf'
    exact⟨.ref s.heap.objs.size,_,I2,rfl,⟨s.heap.objs.size,x,Iv.fresh,rfl,λzs hz=>by rw[PJ Iv hz q1];exact hx,rfl⟩,⟨⟨u',by simpa using d1⟩,it2.1.keep λo q=>sb.extBut _ o (CK (ni0 (by decide))) q⟩,λb hb=>(hf' b hb).1⟩
  done:=by
    intro X hP hw hK hc i pI s U H E Iv hf ⟨⟨old,z1⟩,z2⟩ ⟨xs,q1,hk⟩;subst hP hw hK;obtain⟨us,rx,px,_⟩:=Hy Iv q1;have e1:=rx.length;have e2:us.toArray.size<=i:=by rw[AG,<-e1];exact hk
    refine wpAny_pyNext_enum_endD (vY (A:=X.A.in1) (Iv.ok.hd hc) t I l (Bb b) us.toArray i e2) z1 ⟨rfl,z2,px⟩ λh2 eb=>⟨rfl,Inv.turnedL [I] Iv (t':=s.toks) (λc o nc q=>eb c o (λz=>nc (by simp[z])) q) λc hc=>hf c ?_⟩
    have:c=I:=by simpa using hc
    subst this;simp
  self:=λ_ _ _ _ _ st h=>aK st.1.choose_spec h
section
variable{prog:AT}{w:AD}{A:Bc}{E:Vq}{s:As}
theorem nG(t:Al)(l:Ak)(xs:A6 Ai):Meets (Builtin.«enumerate.__new__» ⟨[.type "enumerate",.ref l],[]⟩) (λ_ R s=>Cq t s.heap l xs /\
   R (.ok (.ret (.ref (s.heap.push (itO t l)).objs.size))) { s with heap:=(s.heap.push (itO t l)).push { cls:=.type "enumerate",data:=.fields #[.none,.bool Ae,.ref s.heap.objs.size,Co 0,.none,.none] } }):=
 .of_wp λprog w A R s h=>by
  obtain⟨hp,g,d,tk,os⟩:=s;obtain⟨hl,h⟩:=h;have hsub:=sub_enumerate;have hL:Cq t (Gj ⟨hp,g,d,tk,os⟩) l xs:=hl
  wp_walk
  refine wpAny_stack_any λst=>Ax ?_
  split
  .rename_i c _ _ _ _ _;cases (c==GP "enumerate")
   .wp_walk using JV hL
    exact⟨_,rfl,h⟩
   .wp_walk using JV hL
    exact⟨_,rfl,h⟩
  .wp_walk using JV hL
   exact⟨_,rfl,h⟩
theorem iR{xs:A6 Ai}{Q:Vq}(hL:Cq t s.heap l xs)(h:∀ h',IsEnum h' (s.heap.objs.size+1) s.heap.objs.size 0 .none->E4 t h' s.heap.objs.size l 0->(∀ b o,s.heap.get? b=Ab o->h'.get? b=Ab o)->Q (.ref (s.heap.objs.size+1)) {s with heap:=h'}):
    Az (model prog w) A (call (.type "enumerate") [.ref l]) Q E s:=by
  refine JG F.called_enumerate (by decide) (F.typeCall_enumerate_1 _) (F.newCall_enumerate_1 _) (λobj=>Zm obj _) F.entry_enumerate_new (nG t l xs) ⟨hL,?_⟩
  have hz:(s.heap.push (itO t l)).objs.size=s.heap.objs.size+1:=Bz ..;show _/\_;rw[hz];have he:IsEnum ((s.heap.push (itO t l)).push { cls:=.type "enumerate",data:=.fields #[.none,.bool Ae,.ref s.heap.objs.size,Co 0,.none,.none] }) (s.heap.objs.size+1) s.heap.objs.size 0 .none:=by
    have:=Ay (s.heap.push (itO t l)) (o:={ cls:=.type "enumerate",data:=.fields #[.none,.bool Ae,.ref s.heap.objs.size,Co 0,.none,.none] }) rfl;rw[hz]at this;exact this
  exact⟨⟨_,he,rfl⟩,h _ he (Lz (Ar _ (Ay _ (Lp _ _)))) λb o x=>Ar _ (Ar _ x)⟩
end
def fA(K:Fg)(ta:TA):TI:=λU H R=>ta U H λvs H1=>∃ t a xs,vs=[.ref a]/\SqX t K H1 a xs/\(xs.length<=sizeLine->R (Ite K t a) H1)
theorem pY{a:Ao}(hg:Gl X "enumerate")(hm:X.mg "enumerate" = Af)(ha:PA X [a] ta)(hs:AB [a] X.env=[(Ae,eval a X.env)]):
  PI X (.Tuple es n tpos) (.Call (.Name "enumerate" p) [a] [] pos) (fA X.K ta):=by
 intro pI s U H R I h;refine KS (Jh I hg hm PyProof.Rows.boot_enumerate (Cs (thn (ha pos pI s U H _ I h) λus s1 ⟨vs,H1,I1,r1,q1⟩=>?_) hs rfl))
 obtain⟨t,c,xs,e,sx,q⟩:=q1;subst e;cases r1 with
 |cons r rr=>
  cases rr;cases r;obtain⟨us,ru,pu,zu⟩:=Hy I1 sx;refine iR pu λh2 z1 z2 kp=>aK z1 ?_
  refine⟨s1.heap.objs.size+1,[s1.heap.objs.size,s1.heap.objs.size+1],_,_,H1,rfl,I1.kept (t':=s1.toks) kp,gY t s1.heap.objs.size c pu.lt,⟨⟨_,z1⟩,z2⟩,λb hb=>?_,q zu⟩
  have hb':s1.heap.objs.size<=b:=by
   simp only[Au,AO,BM]at hb;rcases hb with z|z<;>rw[z]<;>simp
  exact I1.fpOk hb' (I1.hok.fresh hb')
theorem QG:∀(j:Ad)(xs:Ac D),(EH j xs).length=xs.length
 |_,[]=>rfl
 |j,x::xs=>by rw[EH,Bl,QG,Bl]
theorem UH:∀(xs:Ac D)(j:Ad)(i:Ag)(d:D),(EH j xs)[i]?=Ab d->∃ x,xs[i]?=Ab x/\d=.tup [.int (j+i),x]
 |[],j,i,d,h=>by simp[EH]at h
 |x::xs,j,0,d,h=>by
  rw[EH]at h;simp only[EK,Ce]at h;exact⟨x,rfl,by rw[<-h];simp⟩
 |x::xs,j,i+1,d,h=>by
  rw[EH]at h;simp only[EJ]at h ⊢;obtain⟨y,h1,h2⟩:=UH xs (j+1) i d h;exact⟨y,h1,by rw[h2];congr 3;omega⟩
theorem gW{ds:Ac D}(sq:∀ H2,Kp A H1 H2->SqX t K H2 a xs)(r1:Reps K CL H1 A xs ds):Js K CL A (EH 0 ds) (Ite K t a) H1:=λH k i=>by
 have s1:=sq H k;refine⟨λhi=>⟨xs,s1,?_⟩,λd hd=>?_⟩
 .rw[QG]at hi;rw[r1.length];exact hi
 .obtain⟨x,hx,rfl⟩:=UH _ _ _ _ hd;obtain⟨u,hu,ru⟩:=r1.get hx;refine⟨⟨xs,u,s1,hu⟩,?_⟩;rintro w' H' ⟨p,x',hp,rfl,c1,rfl⟩;have ex:x'=u:=BN ((c1 xs s1).symm.trans hu);subst ex;rw[Db];exact⟨Gv hp (.tup [.int i,x']),λB hB aB=>Li aB hp ⟨rfl,Mk ru k hB,trivial⟩⟩
section
variable{X:Cx}{CL:ClA}{W:XW}{pos p:AX}{a:Ao}{fa:Rho->R D}
theorem rG(ha:SE X CL W a fa)(hg:Gl X "enumerate")(hm:X.mg "enumerate" = Af)(hs:AB [a] X.env=[(Ae,eval a X.env)]):
  SI X CL W (.Tuple es n tpos) (.Call (.Name "enumerate" p) [a] [] pos) (λY=>(fa Y).bind λx=>(Ch x).bind λxs=>.ok (EH 0 xs)):=
 λA=>PI.weak (pY hg hm (Fe (ha A) Hc hs) hs) λU H R ⟨hA,Y,g,q⟩=>⟨hA,Y,g,Fv.ex q λd v H1 _ s1 r1 p1=>by
  cases e1:Ch d with
  |bad=>rw[e1]at p1;exact p1.elim
  |exn z=>exact absurd e1 (by cases d<;>simp[Ch])
  |ok ds=>
   rw[e1]at p1;obtain⟨t,c,xs,rfl,k1,rs⟩:=LG r1 e1;exact⟨t,c,xs,rfl,k1 H1 (Kp.of (AH.refl H1)),λhz=>p1 _ H1 (AH.refl H1) (gW k1 rs) (by rw[QG,<-rs.length];exact hz)⟩⟩
end
noncomputable abbrev E3(h:AJ)(z TI TO:Ak)(f0 f1:Ai):Prop:=h.get? z=Ab { cls:=.type "zip",dict:=Af,data:=.fields #[f0,f1,.bool Ae,.ref TI,.ref TO],slots:=#[] }
noncomputable abbrev ER(h:AJ)(T:Ak)(a b c:Ai):Prop:=h.get? T=Ab { cls:=.type "tuple",data:=.seq #[a,b,c] }
section
variable{prog:AT}{w:AD}{A:Bc}{E:Vq}{s:As}
theorem nb3{I l c:Ag}(b:l<I)(h:c∈[I+j,l])(i:Ag)(hi:i≠j):c≠I+i:=by
 have h':c=I+j\/c=l:=by simpa using h
 omega
theorem Uf{z TI TO T1:Ag}{Q:Al->As->Prop}(hz:E3 s.heap z TI TO (Co T1) (.bool f1))(hT:s.heap.get? T1=Ab o1)(go:∀ h1,E3 h1 z TI TO (Co T1) (.bool Aa)->(∀ c o,c≠z->s.heap.get? c=Ab o->h1.get? c=Ab o)->h1.objs.size=s.heap.objs.size->Q Ae {s with heap:=h1}):Az (model prog w) A (A3 (.ref z)) Q E s:=by
 simp only[A3];refine Ah (Bi hz rfl (x:=Co T1) rfl ?_);show Az _ _ (loadIfAlive T1 >>= _) _ _ _;refine Ah (λZ p _=>?_)
 show Az _ _ _ _ _ _;rw[hT];show Az _ _ (field (.ref z) 1 >>= _) _ _ _;refine Ah (Bi hz rfl (x:=.bool f1) rfl ?_);cases f1 with
 |true=>exact Ax (go s.heap hz (λ_ _ _ e=>e) rfl)
 |false=>exact Ah (B9 hz (by simp) λh1 z1 sb=>Ax (go h1 z1 (λc o nc e=>sb.extBut c o nc e) sb.1))
theorem Ug{z TI TO:Ag}{f1:Ai}{Q:Al->As->Prop}(hz:E3 s.heap z TI TO f0 f1)(hf:f0=.none\/∃ T1:Ag,f0=Co T1/\s.heap.get? T1=Af)(go:Q Aa s):Az (model prog w) A (A3 (.ref z)) Q E s:=by
 simp only[A3];rcases hf with rfl|⟨T1,rfl,hT⟩
 .exact Ah (Bi hz rfl (x:=.none) rfl (Ax go))
 .refine Ah (Bi hz rfl (x:=Co T1) rfl ?_);show Az _ _ (loadIfAlive T1 >>= _) _ _ _;refine Ah (λZ p _=>?_)
  show Az _ _ _ _ _ _;rw[hT];exact Ax go
theorem gS{I l1 l2 l3 n1 n2 n3 k T1:Ag}{P3:Ag->Ai->Prop}{S3:Ag->AJ->Prop}{Q:Vq}(b1:l1<I)(b2:l2<I)(b3:l3<I)(D1:Dw prog w A (I+0) [I+0,l1] n1 P1 S1)(D2:Dw prog w A (I+1) [I+1,l2] n2 P2 S2)(D3:Dw prog w A (I+2) [I+2,l3] n3 P3 S3)(hz:E3 s.heap (I+5) (I+3) (I+4) (Co T1) (.bool f1))(hI:ER s.heap (I+3) (.ref (I+0)) (.ref (I+1)) (.ref (I+2)))(hT:s.heap.get? T1=Ab o1)(g1:S1 k s.heap)(g2:S2 k s.heap)(g3:S3 k s.heap)(k1:k<n1)(k2:k<n2)(k3:k<n3)(go:∀ x y u h2 tk,P1 k x->P2 k y->P3 k u->E3 h2 (I+5) (I+3) (I+4) (Co T1) (.bool Aa)->S1 (k+1) h2->S2 (k+1) h2->S3 (k+1) h2->ER h2 s.heap.objs.size x y u->h2.objs.size=s.heap.objs.size+1 ->
   (∀ c o,c∉[I+0,I+1,I+2,I+5]->s.heap.get? c=Ab o->h2.get? c=Ab o)->Q (.ref s.heap.objs.size) {s with heap:=h2,toks:=tk}):Az (model prog w) A (Builtin.«zip.__next__» ⟨[.ref (I+5)],[]⟩) (λfin s'=>∃ v,fin=.done (.ret v)/\Q v s') E s:=by
 refine Ah (m:=field (.ref (I+5)) 2) (Bi hz rfl (x:=.bool Ae) rfl ?_);refine Ah (m:=field (.ref (I+5)) 3) (Bi hz rfl (x:=.ref (I+3)) rfl (Ah (B4 hI rfl ?_)));refine Ah (m:=A3 (.ref (I+5))) (Uf hz hT λp1 z1 e1 s1=>?_)
 rw[AN (by decide)]
 refine Ah ?_;simp only[<-XI,Eh,D7];have f1':S1 k p1:=D1.frame _ _ _ g1 λc hc o q=>e1 c o (nb3 b1 hc 5 (by decide)) q
 refine Ah (Ah (Dj (Ah (m:=A2 (.ref (I+0))) (D1.item k _ _ _ k1 f1' λx p2 t2 px s2 e2=>Ax (Ax ?_)))))
 have f2':S2 k p2:=D2.frame _ _ _ g2 λc hc o q=>e2.extBut c o (nb3 b2 hc 0 (by decide)) (e1 c o (nb3 b2 hc 5 (by decide)) q)
 refine Ah (Ah (Dj (Ah (m:=A2 (.ref (I+1))) (D2.item k _ _ _ k2 f2' λy p3 t3 py s3 e3=>Ax (Ax ?_)))))
 have f3':S3 k p3:=D3.frame _ _ _ g3 λc hc o q=>e3.extBut c o (nb3 b3 hc 1 (by decide)) (e2.extBut c o (nb3 b3 hc 0 (by decide)) (e1 c o (nb3 b3 hc 5 (by decide)) q))
 refine Ah (Ah (Dj (Ah (m:=A2 (.ref (I+2))) (D3.item k _ _ _ k3 f3' λu p4 t4 pu s4 e4=>Ax (Ax (Ax ?_))))))
 refine Ah (IT (hsz:=by show 3<=sizeLine;decide) (Ax ⟨_,rfl,?_⟩))
 have sz:p4.objs.size=s.heap.objs.size:=by rw[e4.1,e3.1,e2.1,s1]
 have z4:E3 p4 (I+5) (I+3) (I+4) (Co T1) (.bool Aa):=e4.extBut _ _ (nij (by decide)) (e3.extBut _ _ (nij (by decide)) (e2.extBut _ _ (nij (by decide)) z1))
 have a1:S1 (k+1) p4:=D1.frame _ _ _ s2 λc hc o q=>e4.extBut c o (nb3 b1 hc 2 (by decide)) (e3.extBut c o (nb3 b1 hc 1 (by decide)) q)
 have a2:S2 (k+1) p4:=D2.frame _ _ _ s3 λc hc o q=>e4.extBut c o (nb3 b2 hc 2 (by decide)) q
 have psh:∀ {c o},p4.get? c=Ab o->(p4.push { cls:=.type "tuple",data:=.seq #[x,y,u] }).get? c=Ab o:=λq=>Ar _ q
 have q:=go x y u (p4.push { cls:=.type "tuple",data:=.seq #[x,y,u] }) t4 px py pu (psh z4) (D1.frame _ _ _ a1 λc _ o q=>psh q) (D2.frame _ _ _ a2 λc _ o q=>psh q) (D3.frame _ _ _ s4 λc _ o q=>psh q) (by rw[<-sz];exact Ay _ rfl) (by rw[Bz,sz]) (λc o nc q=>by
  simp only[Au,AO,BM,Dh]at nc;exact psh (e4.extBut c o nc.2.2.1 (e3.extBut c o nc.2.1 (e2.extBut c o nc.1 (e1 c o nc.2.2.2 q)))))
 rw[<-sz]at q;exact q
theorem gR{I l1 n1 k T1:Ag}{Q:Fin->As->Prop}(b1:l1<I)(D1:Dw prog w A (I+0) [I+0,l1] n1 P1 S1)(hz:E3 s.heap (I+5) (I+3) (I+4) (Co T1) (.bool f1))(hI:ER s.heap (I+3) (.ref (I+0)) (.ref (I+1)) (.ref (I+2)))(hT:s.heap.get? T1=Ab o1)(g1:S1 k s.heap)(k1:n1<=k)(up:∀ h2 e,(∀ c o,c∉[I+0,I+5]->s.heap.get? c=Ab o->h2.get? c=Ab o)->(∃ o,h2.get? e=Ab o/\o.cls=.type "StopIteration")->E (.ref e) {s with heap:=h2}):Az (model prog w) A (Builtin.«zip.__next__» ⟨[.ref (I+5)],[]⟩) Q E s:=by
 refine Ah (m:=field (.ref (I+5)) 2) (Bi hz rfl (x:=.bool Ae) rfl ?_);refine Ah (m:=field (.ref (I+5)) 3) (Bi hz rfl (x:=.ref (I+3)) rfl (Ah (B4 hI rfl ?_)));refine Ah (m:=A3 (.ref (I+5))) (Uf hz hT λp1 z1 e1 s1=>?_)
 rw[AN (by decide)]
 refine Ah ?_;simp only[<-XI,Eh,D7];have f1':S1 k p1:=D1.frame _ _ _ g1 λc hc o q=>e1 c o (nb3 b1 hc 5 (by decide)) q
 refine Ah (Ah (Dj (Ah (m:=A2 (.ref (I+0))) (D1.done k _ _ _ k1 f1' λp2 e e2 he=>up p2 e (λc o nc q=>?_) he))))
 simp only[Au,AO,BM,Dh]at nc;exact e2 c o nc.1 (e1 c o nc.2 q)
theorem kB{I l1 n1 k:Ag}{f1:Ai}{Q:Fin->As->Prop}(b1:l1<I)(D1:Dw prog w A (I+0) [I+0,l1] n1 P1 S1)(hz:E3 s.heap (I+5) (I+3) (I+4) f0 f1)(hf:f0=.none\/∃ T1:Ag,f0=Co T1/\s.heap.get? T1=Af)(hI:ER s.heap (I+3) (.ref (I+0)) (.ref (I+1)) (.ref (I+2)))(g1:S1 k s.heap)(k1:n1<=k)(up:∀ h2 e,(∀ c o,c∉[I+0,I+5]->s.heap.get? c=Ab o->h2.get? c=Ab o)->(∃ o,h2.get? e=Ab o/\o.cls=.type "StopIteration")->E (.ref e) {s with heap:=h2}):Az (model prog w) A (Builtin.«zip.__next__» ⟨[.ref (I+5)],[]⟩) Q E s:=by
 refine Ah (m:=field (.ref (I+5)) 2) (Bi hz rfl (x:=.bool Ae) rfl ?_);refine Ah (m:=field (.ref (I+5)) 3) (Bi hz rfl (x:=.ref (I+3)) rfl (Ah (B4 hI rfl ?_)));refine Ah (m:=A3 (.ref (I+5))) (Ug hz hf ?_);rw[AF rfl];refine Ah (Fp (Ah (Bi hz rfl (x:=.ref (I+4)) rfl (Ah (B9 hz (by simp) λp1 z1 e1=>Ah ?_)))))
 have z1':E3 p1 (I+5) (I+3) (I+4) .ellipsis f1:=z1;simp only[Gs,GI,Eh,D7];have g1':S1 k p1:=D1.frame _ _ _ g1 λc hc o q=>e1.extBut c o (nb3 b1 hc 5 (by decide)) q
 refine Ah (Ah (DY (Ah (m:=A2 (.ref (I+0))) (D1.done _ _ _ _ k1 g1' λp2 e e2 he=>?_))))
 obtain⟨oe,hoe,hce⟩:=he;have z2:E3 p2 (I+5) (I+3) (I+4) .ellipsis f1:=e2 _ _ (nij (by decide)) z1'
 have ne:e≠I+5:=λx=>by subst x;rw[z2]at hoe;cases hoe;simp at hce
 refine B9 z2 (by simp) λp3 _ e3=>up p3 e (λc o nc q=>?_) ⟨oe,e3.extBut _ _ ne hoe,hce⟩
 simp only[Au,AO,BM,Dh]at nc;exact e3.extBut c o nc.2 (e2 c o nc.1 (e1.extBut c o nc.2 q))
theorem Q6{T:Ak}{a b c x:Ai}{k:Ag}{Q:Jc->As->Prop}(h:ER s.heap T a b c)(go:∀ h2,h2.get? T=Ab { cls:=.type "tuple",data:=.seq ((#[a,b,c]:A6 Ai).setIfInBounds k x) }->EE T s.heap h2->Q () {s with heap:=h2}):Az (model prog w) A (JO T (·.setIfInBounds k x)) Q E s:=by
 refine FQ h rfl (go _ ?_ (D5 ..)) (by show 3<=sizeLine;decide) (by show ((#[a,b,c]:A6 Ai).setIfInBounds k x).size<=sizeLine+1;rw[Array.size_setIfInBounds];show 3<=sizeLine+1;decide)
 rw[Ca _ h rfl];simp[CU]
theorem gJ{I l1 l2 l3 n1 n2 n3 k:Ag}{P3:Ag->Ai->Prop}{S3:Ag->AJ->Prop}{a b c f1:Ai}{Q:Vq}(b1:l1<I)(b2:l2<I)(b3:l3<I)(D1:Dw prog w A (I+0) [I+0,l1] n1 P1 S1)(D2:Dw prog w A (I+1) [I+1,l2] n2 P2 S2)(D3:Dw prog w A (I+2) [I+2,l3] n3 P3 S3)(hz:E3 s.heap (I+5) (I+3) (I+4) f0 f1)(hf:f0=.none\/∃ T1:Ag,f0=Co T1/\s.heap.get? T1=Af)(hI:ER s.heap (I+3) (.ref (I+0)) (.ref (I+1)) (.ref (I+2)))(hO:ER s.heap (I+4) a b c)(g1:S1 k s.heap)(g2:S2 k s.heap)(g3:S3 k s.heap)(k1:k<n1)(k2:k<n2)(k3:k<n3)(go:∀ x y u h2 tk,P1 k x->P2 k y->P3 k u->E3 h2 (I+5) (I+3) (I+4) (Co s.heap.objs.size) (.bool Ae)->S1 (k+1) h2->S2 (k+1) h2->S3 (k+1) h2->ER h2 s.heap.objs.size x y u->ER h2 (I+4) x y u->h2.objs.size=s.heap.objs.size+1 ->
   (∀ c o,c∉[I+0,I+1,I+2,I+4,I+5]->s.heap.get? c=Ab o->h2.get? c=Ab o)->Q (.ref s.heap.objs.size) {s with heap:=h2,toks:=tk}):Az (model prog w) A (Builtin.«zip.__next__» ⟨[.ref (I+5)],[]⟩) (λfin s'=>∃ v,fin=.done (.ret v)/\Q v s') E s:=by
 refine Ah (m:=field (.ref (I+5)) 2) (Bi hz rfl (x:=.bool Ae) rfl ?_);refine Ah (m:=field (.ref (I+5)) 3) (Bi hz rfl (x:=.ref (I+3)) rfl (Ah (B4 hI rfl ?_)));refine Ah (m:=A3 (.ref (I+5))) (Ug hz hf ?_);rw[AF rfl];refine Ah (Fp (Ah (Bi hz rfl (x:=.ref (I+4)) rfl (Ah (B9 hz (by simp) λp1 z1 e1=>Ah ?_)))))
 have z1':E3 p1 (I+5) (I+3) (I+4) .ellipsis f1:=z1;simp only[Gs,GI,Eh,D7];have f1':S1 k p1:=D1.frame _ _ _ g1 λc hc o q=>e1.extBut c o (nb3 b1 hc 5 (by decide)) q
 refine Ah (Ah (DY (Ah (m:=A2 (.ref (I+0))) (D1.item k _ _ _ k1 f1' λx p2 t2 px s2 e2=>Ax ?_))))
 have o2:ER p2 (I+4) a b c:=e2.extBut _ _ (nij (by decide)) (e1.extBut _ _ (nij (by decide)) hO)
 refine Ah (B4 o2 rfl (Ah (Q6 o2 λp3 o3 e3=>Ah (FH (Ax ?_)))))
 have o3':ER p3 (I+4) x b c:=o3;have f2':S2 k p3:=D2.frame _ _ _ g2 λc hc o q=>e3.extBut c o (nb3 b2 hc 4 (by decide)) (e2.extBut c o (nb3 b2 hc 0 (by decide)) (e1.extBut c o (nb3 b2 hc 5 (by decide)) q))
 refine Ah (Ah (DY (Ah (m:=A2 (.ref (I+1))) (D2.item k _ _ _ k2 f2' λy p4 t4 py s4 e4=>Ax ?_))))
 have o4:ER p4 (I+4) x b c:=e4.extBut _ _ (nij (by decide)) o3'
 refine Ah (B4 o4 rfl (Ah (Q6 o4 λp5 o5 e5=>Ah (FH (Ax ?_)))))
 have o5':ER p5 (I+4) x y c:=o5;have f3':S3 k p5:=D3.frame _ _ _ g3 λc hc o q=>e5.extBut c o (nb3 b3 hc 4 (by decide)) (e4.extBut c o (nb3 b3 hc 1 (by decide)) (e3.extBut c o (nb3 b3 hc 4 (by decide)) (e2.extBut c o (nb3 b3 hc 0 (by decide)) (e1.extBut c o (nb3 b3 hc 5 (by decide)) q))))
 refine Ah (Ah (DY (Ah (m:=A2 (.ref (I+2))) (D3.item k _ _ _ k3 f3' λu p6 t6 pu s6 e6=>Ax ?_))))
 have o6:ER p6 (I+4) x y c:=e6.extBut _ _ (nij (by decide)) o5'
 refine Ah (B4 o6 rfl (Ah (Q6 o6 λp7 o7 e7=>Ah (FH (Ax (Ax ?_))))))
 have o7':ER p7 (I+4) x y u:=o7;have sz:p7.objs.size=s.heap.objs.size:=by rw[e7.1,e6.1,e5.1,e4.1,e3.1,e2.1,e1.1]
 have z7:E3 p7 (I+5) (I+3) (I+4) .ellipsis f1:=e7.extBut _ _ (nij (by decide)) (e6.extBut _ _ (nij (by decide)) (e5.extBut _ _ (nij (by decide)) (e4.extBut _ _ (nij (by decide)) (e3.extBut _ _ (nij (by decide)) (e2.extBut _ _ (nij (by decide)) z1')))))
 refine Ah (B4 o7' rfl (Ah (IT (hsz:=by show 3<=sizeLine;decide) ?_)))
 refine Ah (m:=Dd (.ref (I+5)) (.ref p7.objs.size)) ?_;simp only[Dd];have z8:E3 (p7.push { cls:=.type "tuple",data:=.seq #[x,y,u] }) (I+5) (I+3) (I+4) .ellipsis f1:=Ar _ z7;refine Ah (B9 z8 (by simp) λp9 z9 e9=>?_)
 have z9':E3 p9 (I+5) (I+3) (I+4) (Co p7.objs.size) f1:=z9;refine B9 z9' (by simp) λpa za ea=>Ax ⟨_,rfl,?_⟩
 have za':E3 pa (I+5) (I+3) (I+4) (Co p7.objs.size) (.bool Ae):=za;have lt5:I+5<p7.objs.size:=AE z7;have up:∀ c o,c≠I+5->p7.get? c=Ab o->pa.get? c=Ab o:=λc o nc q=>ea.extBut _ _ nc (e9.extBut _ _ nc (Ar _ q))
 have a1:S1 (k+1) pa:=D1.frame _ _ _ s2 λc hc o q=>up c o (nb3 b1 hc 5 (by decide)) (e7.extBut c o (nb3 b1 hc 4 (by decide)) (e6.extBut c o (nb3 b1 hc 2 (by decide)) (e5.extBut c o (nb3 b1 hc 4 (by decide)) (e4.extBut c o (nb3 b1 hc 1 (by decide)) (e3.extBut c o (nb3 b1 hc 4 (by decide)) q)))))
 have a2:S2 (k+1) pa:=D2.frame _ _ _ s4 λc hc o q=>up c o (nb3 b2 hc 5 (by decide)) (e7.extBut c o (nb3 b2 hc 4 (by decide)) (e6.extBut c o (nb3 b2 hc 2 (by decide)) (e5.extBut c o (nb3 b2 hc 4 (by decide)) q)))
 have a3:S3 (k+1) pa:=D3.frame _ _ _ s6 λc hc o q=>up c o (nb3 b3 hc 5 (by decide)) (e7.extBut c o (nb3 b3 hc 4 (by decide)) q)
 have tp:ER pa p7.objs.size x y u:=ea.extBut _ _ (DD lt5) (e9.extBut _ _ (DD lt5) (Ay _ rfl));have q:=go x y u pa t6 px py pu (by rw[<-sz];exact za') a1 a2 a3 (by rw[<-sz];exact tp) (up _ _ (nij (by decide)) o7') (by rw[ea.1,e9.1,Bz,sz]) (λc o nc q=>by
  simp only[Au,AO,BM,Dh]at nc;exact up c o nc.2.2.2.2 (e7.extBut c o nc.2.2.2.1 (e6.extBut c o nc.2.2.1 (e5.extBut c o nc.2.2.2.1 (e4.extBut c o nc.2.1 (e3.extBut c o nc.2.2.2.1 (e2.extBut c o nc.1 (e1.extBut c o nc.2.2.2.2 q))))))))
 rw[<-sz]at q;exact q
def Z_3(t1 t2 t3:Al)(I l1 l2 l3 i:Ag)(h:AJ):Prop:=ER h (I+3) (.ref (I+0)) (.ref (I+1)) (.ref (I+2))/\E4 t1 h (I+0) l1 i/\E4 t2 h (I+1) l2 i/\E4 t3 h (I+2) l3 i/\(∃ a b c,ER h (I+4) a b c) /\
 (E3 h (I+5) (I+3) (I+4) .none (.bool Ae)\/∃(T1:Ag)(f1:Al),E3 h (I+5) (I+3) (I+4) (Co T1) (.bool f1))
noncomputable def z3w(I:Ag):Ac Ak:=[I+0,I+1,I+2,I+4,I+5]
theorem pK{t1 t2 t3:Al}{I l1 l2 l3 i:Ag}{xs ys:A6 Ai}{x:Ai}{Q:Aq Ai->As->Prop}(calm:A.handled=Af)(b1:l1<I)(b2:l2<I)(b3:l3<I)(z:Z_3 t1 t2 t3 I l1 l2 l3 i s.heap)(q1:Cq t1 s.heap l1 xs)(q2:Cq t2 s.heap l2 ys)(q3:Cq t3 s.heap l3 us)(hx:xs[i]?=Ab x)(hy:ys[i]?=Ab y)(hu:us[i]?=Ab u)(go:∀ h2 tk,Z_3 t1 t2 t3 I l1 l2 l3 (i+1) h2->ER h2 s.heap.objs.size x y u->h2.objs.size=s.heap.objs.size+1->(∀ c o,c∉z3w I->s.heap.get? c=Ab o->h2.get? c=Ab o)->Q (Ab (.ref s.heap.objs.size)) {s with heap:=h2,toks:=tk}):Az (model prog w) A (EG (.ref (I+5))) Q E s:=by
 obtain⟨zI,i1,i2,i3,zz⟩:=z;have calm':A.in1.handled=Af:=calm;have lt:∀{v:A6 Ai}{k:Ag}{a:Ai},v[k]?=Ab a->k<v.size:=λh=>by
  rw[Array.getElem?_eq_some_iff]at h;exact h.1
 have inj:∀{v:A6 Ai}{k:Ag}{a b:Ai},v[k]?=Ab a->v[k]?=Ab b->b=a:=λh1 h2=>by
  rw[h1]at h2;exact(BN h2).symm
 have d1:=IF (prog:=prog) (w:=w) calm' t1 (I+0) l1 (Bb b1) xs;have d2:=IF (prog:=prog) (w:=w) calm' t2 (I+1) l2 (Bb (AI b2 (EC _ _))) ys;have d3:=IF (prog:=prog) (w:=w) calm' t3 (I+2) l3 (Bb (AI b3 (EC _ _))) us;obtain⟨⟨a,b,c,hO⟩,zz⟩:=zz;have fst:∀{f0 f1:Ai},E3 s.heap (I+5) (I+3) (I+4) f0 f1->(f0=.none\/∃ T1:Ag,f0=Co T1/\s.heap.get? T1=Af)->Az (model prog w) A (EG (.ref (I+5))) Q E s:=λhz hf=>by
  have hty:s.TypeIs (.ref (I+5)) "zip" := ⟨_,hz,rfl⟩;simp only[EG];refine Ah (FB (BW hty CD (CV CD hty ED (gJ (k:=i) b1 b2 b3 d1 d2 d3 hz hf zI hO ⟨i1,q1⟩ ⟨i2,q2⟩ ⟨i3,q3⟩ (lt hx) (lt hy) (lt hu) λx' y' u' h2 tk px py pu c1 c2 c3 c4 c5 c6 c7 kp=>Ax ?_) (Er _))))
  rw[inj hx px,inj hy py,inj hu pu]at c5;exact go h2 tk ⟨kp _ _ (by simp) zI,c2.1,c3.1,c4.1,⟨_,_,_,c6⟩,.inr ⟨_,_,c1⟩⟩ c5 c7 kp
 rcases zz with hz|⟨T1,f1,hz⟩
 .exact fst hz (.inl rfl)
 .cases hT:s.heap.get? T1 with
  |none=>exact fst hz (.inr ⟨T1,rfl,hT⟩)
  |some o1=>
   have hty:s.TypeIs (.ref (I+5)) "zip" := ⟨_,hz,rfl⟩;simp only[EG];refine Ah (FB (BW hty CD (CV CD hty ED (gS (k:=i) b1 b2 b3 d1 d2 d3 hz zI hT ⟨i1,q1⟩ ⟨i2,q2⟩ ⟨i3,q3⟩ (lt hx) (lt hy) (lt hu) λx' y' u' h2 tk px py pu c1 c2 c3 c4 c5 c6 kp=>Ax ?_) (Er _))))
   rw[inj hx px,inj hy py,inj hu pu]at c5;exact go h2 tk ⟨kp _ _ (by simp) zI,c2.1,c3.1,c4.1,⟨a,b,c,kp _ _ (by simp) hO⟩,.inr ⟨T1,Aa,c1⟩⟩ c5 c6 (λc o nc q=>kp c o (λh=>nc (by simp only[z3w,Au,AO,BM]at h ⊢;rcases h with h|h|h|h<;>simp[h])) q)
theorem wA{t1 t2 t3:Al}{I l1 l2 l3 i:Ag}{xs:A6 Ai}{Q:Aq Ai->As->Prop}(calm:A.handled=Af)(b1:l1<I)(z:Z_3 t1 t2 t3 I l1 l2 l3 i s.heap)(q1:Cq t1 s.heap l1 xs)(hx:xs.size<=i)(go:∀ h2,(∀ c o,c∉z3w I->s.heap.get? c=Ab o->h2.get? c=Ab o)->Q Af {s with heap:=h2}):Az (model prog w) A (EG (.ref (I+5))) Q E s:=by
 obtain⟨zI,i1,i2,i3,zz⟩:=z;have calm':A.in1.handled=Af:=calm;have d1:=IF (prog:=prog) (w:=w) calm' t1 (I+0) l1 (Bb b1) xs;have go':∀ h2 e,(∀ c o,c∉[I+0,I+5]->s.heap.get? c=Ab o->h2.get? c=Ab o)->(∃ o,h2.get? e=Ab o/\o.cls=.type "StopIteration")->Az (model prog w) A (isInstance (.ref e) (.type "StopIteration") >>= λb=>if b=Aa then pure Af else throw (.ref e)) Q E {s with heap:=h2}:=λh2 e kp ⟨o,ho,hcl⟩=>
  Ah (aJ (T := "StopIteration") (b:=Aa) ⟨o,ho,hcl⟩ Z_9 (Ax (go h2 λc o nc q=>kp c o (λh=>nc (by simp only[z3w,Au,AO,BM]at h ⊢;rcases h with h|h<;>simp[h])) q)))
 have fin:∀{f0 f1:Ai},E3 s.heap (I+5) (I+3) (I+4) f0 f1->(f0=.none\/∃ T1:Ag,f0=Co T1/\s.heap.get? T1=Af)->Az (model prog w) A (EG (.ref (I+5))) Q E s:=λhz hf=>by
  have hty:s.TypeIs (.ref (I+5)) "zip" := ⟨_,hz,rfl⟩;simp only[EG];exact Ah (FB (BW hty CD (CV CD hty ED (kB (k:=i) b1 d1 hz hf zI ⟨i1,q1⟩ hx λh2 e kp he=>go' h2 e kp he) (Er _))))
 obtain⟨_,zz⟩:=zz;rcases zz with hz|⟨T1,f1,hz⟩
 .exact fin hz (.inl rfl)
 .cases hT:s.heap.get? T1 with
  |none=>exact fin hz (.inr ⟨T1,rfl,hT⟩)
  |some o1=>
   have hty:s.TypeIs (.ref (I+5)) "zip" := ⟨_,hz,rfl⟩;simp only[EG];exact Ah (FB (BW hty CD (CV CD hty ED (gR (k:=i) b1 d1 hz zI hT ⟨i1,q1⟩ hx λh2 e kp he=>go' h2 e kp he) (Er _))))
end
section
variable{prog:AT}{w:AD}{A:Bc}{R:JD->As->Prop}
def Lu(I S:Ag)(xs ys us:A6 Ai)(i:Ag)(acc:A6 Ai)(h:AJ):Prop:=acc.size=i/\(∀ j,j<i->∃(a:Ag)(x y u:Ai),acc[j]?=Ab (.ref a)/\xs[j]?=Ab x/\ys[j]?=Ab y/\us[j]?=Ab u/\ER h a x y u/\I+5<a/\a≠S)/\∀(j1 j2 a:Ag),acc[j1]?=Ab (Dx a)->acc[j2]?=Ab (Dx a)->j1=j2
theorem Cq.at'(z:Cq t h l its)(k:∀ o,h.get? l=Ab o->h2.get? l=Ab o):Cq t h2 l its:=by
 cases t with
 |true=>exact PySem.Heap.IsTuple.at z k
 |false=>exact PySem.Heap.IsList.at z k
theorem OB{I a:Ag}(h:I+5<a):a∉z3w I:=by
 intro z;simp only[z3w,Au,AO,BM]at z;rcases z with z|z|z|z|z<;>· rw[z]at h;exact absurd h (FY.mpr (G6 (by decide) I))
theorem Om{I l:Ag}(h:l<I):l∉z3w I:=by
 intro z;simp only[z3w,Au,AO,BM]at z;rcases z with z|z|z|z|z<;>· rw[z]at h;exact absurd h (FY.mpr (EC I _))
theorem Z_3.at'{t1 t2 t3:Al}{I l1 l2 l3 i:Ag}{h h2:AJ}(z:Z_3 t1 t2 t3 I l1 l2 l3 i h)(k:∀ j,j<=5->∀ o,h.get? (I+j)=Ab o->h2.get? (I+j)=Ab o):Z_3 t1 t2 t3 I l1 l2 l3 i h2:=by
 obtain⟨zI,i1,i2,i3,⟨a,b,c,hO⟩,zz⟩:=z;exact⟨k 3 (by decide) _ zI,i1.at' λo q=>k 0 (by decide) o q,i2.at' λo q=>k 1 (by decide) o q,i3.at' λo q=>k 2 (by decide) o q,⟨a,b,c,k 4 (by decide) _ hO⟩,zz.imp (k 5 (by decide) _) λ⟨T1,f1,hz⟩=>⟨T1,f1,k 5 (by decide) _ hz⟩⟩
theorem pM{t1 t2 t3:Al}{I l1 l2 l3 n:Ag}{xs ys:A6 Ai}{res:Ai}(calm:A.handled=Af)(b1:l1<I)(b2:l2<I)(b3:l3<I)(S:Ag)(hS:I+5<S)(n0:0<n)(nn:n<=1000)(e1:xs.size=n)(e2:ys.size=n)(e3:us.size=n):
  ∀(k i:Ag)(s:As)(acc:A6 Ai)(c:Ag),n-i=k->i<=n->Z_3 t1 t2 t3 I l1 l2 l3 i s.heap->Cq t1 s.heap l1 xs->Cq t2 s.heap l2 ys->Cq t3 s.heap l3 us ->
  s.heap.get? S=Ab { cls:=.type "list",dict:=Af,data:=.seq acc c,slots:=#[] }->Lu I S xs ys us i acc s.heap ->
  (∀ h2 acc2 c2 tk,(∀ d o,d∉z3w I->d≠S->s.heap.get? d=Ab o->h2.get? d=Ab o)->h2.get? S=Ab { cls:=.type "list",dict:=Af,data:=.seq acc2 c2,slots:=#[] }->Lu I S xs ys us n acc2 h2->R (.ok (.ret res)) {s with heap:=h2,toks:=tk}) ->
  F1 (model prog w) A (.builtin "list.extend.loop" ⟨[.ref S,.ref (I+5),res],[]⟩) R s:=by
 have calm':A.in1.handled=Af:=calm;intro k
 induction k with
 |zero=>
  intro i s acc c hk hi hz q1 q2 q3 hSo hd hR;have ein:i=n:=Nat.le_antisymm hi (Nat.le_of_sub_eq_zero hk);subst ein;refine FP Zq ?_;rw[Ew FI _];refine Ah (m:=EG (.ref (I+5))) (wA calm' b1 hz q1 (JA e1) λh2 kp=>?_)
  exact Ax (hR h2 acc c s.toks (λd o nd _ q=>kp d o nd q) (kp _ _ (OB hS) hSo) ⟨hd.1,λj hj=>by
   obtain⟨a,x,y,u,r1,r2,r3,r4,r5,r6,r7⟩:=hd.2.1 j hj;exact⟨a,x,y,u,r1,r2,r3,r4,kp _ _ (OB r6) r5,r6,r7⟩,hd.2.2⟩)
 |succ k ih=>
  intro i s acc c hk hi hz q1 q2 q3 hSo hd hR;have lt:i<n:=Nat.lt_of_sub_pos (by rw[hk];exact Nat.succ_pos _)
  have lx:i<xs.size:=by rw[e1];exact lt
  have ly:i<ys.size:=by rw[e2];exact lt
  have lu:i<us.size:=by rw[e3];exact lt
  refine FP Zq ?_;rw[Ew FI _];refine Ah (m:=EG (.ref (I+5))) (pK calm' b1 b2 b3 hz q1 q2 q3 (BY lx) (BY ly) (BY lu) λh2 tk z2 tr sz kp=>?_)
  have hS2:=kp _ _ (OB hS) hSo;refine Ah (m:=JO S _) ?_;have ot:∀(f:Dk->Dk) d o,d≠S->h2.get? d=Ab o->(h2.update S f).get? d=Ab o:=λf d o nd q=>(Ci _ _ (CK nd)).trans q
  have lS:I+5<s.heap.objs.size:=JB hS (AE hSo);have nT:s.heap.objs.size≠S:=DD (AE hSo);have hS3:=Ca (CU (·.push (.ref s.heap.objs.size))) hS2 rfl;have lne:∀{l:Ag},l<I->l≠S:=λh e=>by rw[e]at h;exact absurd (JB h (Eb (EC I 5) hS)) (Bx _)
  refine FQ hS2 rfl (Ax ⟨Ht FI _,ih (i+1) {s with heap:=h2.update S (CU (·.push (.ref s.heap.objs.size))),toks:=tk} _ _ (by omega) lt (z2.at' λj hj o q=>ot _ _ o (λe=>by rw[<-e]at hS;exact absurd hS (FY.mpr (G6 hj I))) q) ?_ ?_ ?_ hS3 ⟨by rw[XN,hd.1],λj hj=>?_,?_⟩ λh4 acc4 c4 tk4 kp4 hS4 hd4=>hR h4 acc4 c4 tk4 (λd o nd ns q=>kp4 d o nd ns (ot _ d o ns (kp d o nd q))) hS4 hd4⟩) ?_ ?_
  .exact q1.at' λo q=>ot _ _ o (lne b1) (kp _ o (Om b1) q)
  .exact q2.at' λo q=>ot _ _ o (lne b2) (kp _ o (Om b2) q)
  .exact q3.at' λo q=>ot _ _ o (lne b3) (kp _ o (Om b3) q)
  .by_cases ej:j=i
   .subst ej;exact⟨s.heap.objs.size,_,_,_,by rw[G3,AF hd.1.symm],BY lx,BY ly,BY lu,ot _ _ _ nT tr,lS,nT⟩
   .obtain⟨a,x,y,u,r1,r2,r3,r4,r5,r6,r7⟩:=hd.2.1 j (Nat.lt_of_le_of_ne (Nat.le_of_lt_succ hj) ej);exact⟨a,x,y,u,by rw[G3,AN (by rw[hd.1];exact ej)];exact r1,r2,r3,r4,ot _ _ _ r7 (kp _ _ (OB r6) r5),r6,r7⟩
  .have old:∀(j a:Ag),acc[j]?=Ab (Dx a)->a<s.heap.objs.size:=λj a e=>by
    have hj:j<i:=by rw[<-hd.1];exact(Fx.mp e).1
    obtain⟨a',x,y,u,r1,r2,r3,r4,r5,r6,r7⟩:=hd.2.1 j hj;rw[e]at r1;cases r1;exact AE r5
   intro j1 j2 a q1 q2;rw[G3]at q1 q2;split at q1
   .split at q2
    .omega
    .cases q1;exact absurd (old _ _ q2) (Bx _)
   .split at q2
    .cases q2;exact absurd (old _ _ q1) (Bx _)
    .exact hd.2.2 _ _ _ q1 q2
  .rw[hd.1];exact Cn (Cn hi nn) (by decide)
  .show (acc.push _).size<=sizeLine+1;rw[XN,hd.1];exact Cn (Nat.succ_le_succ (Cn hi nn)) (by decide)
end
theorem gQ(a b c:Ai):checkTypeCall "zip" ⟨[a,b,c],[]⟩=pure ():=by kernel_rfl
theorem kC(a b c:Ai):Z_7 "zip.__new__" ⟨[.type "zip",a,b,c],[]⟩=pure ():=by kernel_rfl
theorem iq(a b c d:Ai):argsOk "object.__init__" ⟨[a,b,c,d],[]⟩:=by
 unfold argsOk;rw[signature?_of (id := "object.__init__") (n:=['_','_','t','i','n','i','_','_']) (o:=['t','c','e','j','b','o']) (by kernel_rfl) F.owner_object];kernel_rfl
section
variable{prog:AT}{w:AD}{A:Bc}{E:Vq}{s:As}
noncomputable abbrev yh3(t1 t2 t3:Al)(h:AJ)(l1 l2 l3:Ak):AJ:=((h.push (itO t1 l1)).push (itO t2 l2)).push (itO t3 l3)
noncomputable abbrev yh4(t1 t2 t3:Al)(h:AJ)(l1 l2 l3:Ak):AJ:=(yh3 t1 t2 t3 h l1 l2 l3).push { cls:=.type "tuple",data:=.seq #[.ref h.objs.size,.ref (h.push (itO t1 l1)).objs.size,.ref ((h.push (itO t1 l1)).push (itO t2 l2)).objs.size] }
noncomputable abbrev yh5(t1 t2 t3:Al)(h:AJ)(l1 l2 l3:Ak):AJ:=(yh4 t1 t2 t3 h l1 l2 l3).push { cls:=.type "tuple",data:=.seq #[.none,.none,.none] }
noncomputable abbrev yh6(t1 t2 t3:Al)(h:AJ)(l1 l2 l3:Ak):AJ:=(yh5 t1 t2 t3 h l1 l2 l3).push { cls:=.type "zip",data:=.fields #[.none,.bool Ae,.bool Ae,.ref (yh3 t1 t2 t3 h l1 l2 l3).objs.size,.ref (yh4 t1 t2 t3 h l1 l2 l3).objs.size] }
theorem kA(t1 t2 t3:Al)(l1 l2 l3:Ak)(xs ys us:A6 Ai):Meets (Builtin.«zip.__new__» ⟨[.type "zip",.ref l1,.ref l2,.ref l3],[]⟩) (λ_ R s=>Cq t1 s.heap l1 xs/\Cq t2 s.heap l2 ys/\Cq t3 s.heap l3 us/\R (.ok (.ret (.ref (yh5 t1 t2 t3 s.heap l1 l2 l3).objs.size))) {s with heap:=yh6 t1 t2 t3 s.heap l1 l2 l3}):=
 .of_wp λprog w A R s h=>by
  obtain⟨hp,g,d,tk,os⟩:=s;obtain⟨a1,a2,a3,q⟩:=h;have hsub:=sub_zip;have L1:Cq t1 (Gj ⟨hp,g,d,tk,os⟩) l1 xs:=a1;have L2:Cq t2 (Gj ⟨hp.push (itO t1 l1),g,d,tk,os⟩) l2 ys:=a2.push _;have L3:Cq t3 (Gj ⟨(hp.push (itO t1 l1)).push (itO t2 l2),g,d,tk,os⟩) l3 us:=(a3.push _).push _
  wp_walk using JV L1,JV L2,JV L3
  exact⟨_,rfl,q⟩
theorem gU{t1 t2 t3:Al}{l1 l2 l3:Ak}{xs ys:A6 Ai}{Q:Vq}(a1:Cq t1 s.heap l1 xs)(a2:Cq t2 s.heap l2 ys)(a3:Cq t3 s.heap l3 us)(q:∀ h2,Z_3 t1 t2 t3 s.heap.objs.size l1 l2 l3 0 h2->h2.objs.size=s.heap.objs.size+6->(∀ c o,s.heap.get? c=Ab o->h2.get? c=Ab o)->Q (.ref (s.heap.objs.size+5)) {s with heap:=h2}):Az (model prog w) A (call (.type "zip") [.ref l1,.ref l2,.ref l3]) Q E s:=by
 refine JG Zp (by decide) (gQ _ _ _) (kC _ _ _) (λobj=>iq obj _ _ _) Zu (kA t1 t2 t3 l1 l2 l3 xs ys us) ⟨a1,a2,a3,?_⟩
 have s1:(s.heap.push (itO t1 l1)).objs.size=s.heap.objs.size+1:=Bz ..;have s2:((s.heap.push (itO t1 l1)).push (itO t2 l2)).objs.size=s.heap.objs.size+2:=by rw[Bz,s1]
 have s3:(yh3 t1 t2 t3 s.heap l1 l2 l3).objs.size=s.heap.objs.size+3:=by rw[Bz,s2]
 have s4:(yh4 t1 t2 t3 s.heap l1 l2 l3).objs.size=s.heap.objs.size+4:=by rw[Bz,s3]
 have s5:(yh5 t1 t2 t3 s.heap l1 l2 l3).objs.size=s.heap.objs.size+5:=by rw[Bz,s4]
 have s6:(yh6 t1 t2 t3 s.heap l1 l2 l3).objs.size=s.heap.objs.size+6:=by rw[Bz,s5]
 have u6:∀ {c o},(yh5 t1 t2 t3 s.heap l1 l2 l3).get? c=Ab o->(yh6 t1 t2 t3 s.heap l1 l2 l3).get? c=Ab o:=λe=>Ar _ e
 have u5:∀ {c o},(yh4 t1 t2 t3 s.heap l1 l2 l3).get? c=Ab o->(yh6 t1 t2 t3 s.heap l1 l2 l3).get? c=Ab o:=λe=>u6 (Ar _ e)
 have u4:∀ {c o},(yh3 t1 t2 t3 s.heap l1 l2 l3).get? c=Ab o->(yh6 t1 t2 t3 s.heap l1 l2 l3).get? c=Ab o:=λe=>u5 (Ar _ e)
 have u3:∀ {c o},((s.heap.push (itO t1 l1)).push (itO t2 l2)).get? c=Ab o->(yh6 t1 t2 t3 s.heap l1 l2 l3).get? c=Ab o:=λe=>u4 (Ar _ e)
 have u2:∀ {c o},(s.heap.push (itO t1 l1)).get? c=Ab o->(yh6 t1 t2 t3 s.heap l1 l2 l3).get? c=Ab o:=λe=>u3 (Ar _ e)
 have g6:(yh6 t1 t2 t3 s.heap l1 l2 l3).get? (yh5 t1 t2 t3 s.heap l1 l2 l3).objs.size=Ab _:=Ay _ rfl;have g5:(yh6 t1 t2 t3 s.heap l1 l2 l3).get? (yh4 t1 t2 t3 s.heap l1 l2 l3).objs.size=Ab _:=u6 (Ay _ rfl);have g4:(yh6 t1 t2 t3 s.heap l1 l2 l3).get? (yh3 t1 t2 t3 s.heap l1 l2 l3).objs.size=Ab _:=u5 (Ay _ rfl);have g3:(yh6 t1 t2 t3 s.heap l1 l2 l3).get? ((s.heap.push (itO t1 l1)).push (itO t2 l2)).objs.size=Ab _:=u4 (Ay _ (Lp _ _));have g2:(yh6 t1 t2 t3 s.heap l1 l2 l3).get? (s.heap.push (itO t1 l1)).objs.size=Ab _:=u3 (Ay _ (Lp _ _));have g1:(yh6 t1 t2 t3 s.heap l1 l2 l3).get? s.heap.objs.size=Ab _:=u2 (Ay _ (Lp _ _));show _/\_;rw[s3,s4,s5]at g6;rw[s4]at g5;rw[s1,s2,s3]at g4;rw[s2]at g3;rw[s1]at g2;rw[s5];exact⟨⟨_,g6,rfl⟩,q _ ⟨g4,Lz g1,Lz g2,Lz g3,⟨_,_,_,g5⟩,.inl g6⟩ s6 λc o e=>u2 (Ar _ e)⟩
end
theorem gI:K1 (.type "zip") "__len__" = pure Af:=by rw[aE,Z_5];kernel_rfl
theorem gH:K1 (.type "zip") "__length_hint__" = pure Af:=by rw[aE,Z_5];kernel_rfl
theorem Z_3.ty{t1 t2 t3:Al}{I l1 l2 l3 i:Ag}(z:Z_3 t1 t2 t3 I l1 l2 l3 i s.heap):s.TypeIs (.ref (I+5)) "zip" := by
 obtain⟨_,_,_,_,_,hz|⟨_,_,hz⟩⟩:=z
 .exact⟨_,hz,rfl⟩
 .exact⟨_,hz,rfl⟩
theorem Z_3.lt{t1 t2 t3:Al}{I l1 l2 l3 i:Ag}(z:Z_3 t1 t2 t3 I l1 l2 l3 i s.heap):I+5<s.heap.objs.size:=by
 obtain⟨o,h,_⟩:=z.ty;exact AE h
theorem pL{t1 t2 t3:Al}{I l1 l2 l3 i:Ag}{o:Dk}(z:Z_3 t1 t2 t3 I l1 l2 l3 i h):Z_3 t1 t2 t3 I l1 l2 l3 i (h.push o):=by
 have k:∀ {c u},h.get? c=Ab u->(h.push o).get? c=Ab u:=λq=>Ar _ q
 obtain⟨zI,i1,i2,i3,zz⟩:=z;refine⟨k zI,i1.at' λo q=>k q,i2.at' λo q=>k q,i3.at' λo q=>k q,?_⟩
 obtain⟨⟨a,b,c,hO⟩,zz⟩:=zz;refine⟨⟨a,b,c,k hO⟩,?_⟩;rcases zz with hz|⟨T1,f1,hz⟩
 .exact .inl (k hz)
 .exact .inr ⟨T1,f1,k hz⟩
section
variable{prog:AT}{w:AD}{A:Bc}{E:Vq}{s:As}
theorem jX{z:Ak}{Q:Vq}(hT:s.TypeIs (.ref z) "zip")(h:Q (.ref z) s):Az (model prog w) A (K0 (.ref z)) Q E s:=by
 refine wpAny_pyIter_slot hT Zz (CV Zz hT F.entry_zip_iter ?_ (F.args_zip_iter_1 _));show Az _ _ (ret (.ref z)) _ _ s;exact Ax ⟨_,rfl, "zip",_,hT,F.slot_zip_next.lookup,h⟩
theorem gK{t1 t2 t3:Al}{I l1 l2 l3 n:Ag}{xs ys:A6 Ai}{Q:Ac Ai->As->Prop}(calm:A.handled=Af)(b1:l1<I)(b2:l2<I)(b3:l3<I)(n0:0<n)(nn:n<=1000)(e1:xs.size=n)(e2:ys.size=n)(e3:us.size=n)(hz:Z_3 t1 t2 t3 I l1 l2 l3 0 s.heap)(q1:Cq t1 s.heap l1 xs)(q2:Cq t2 s.heap l2 ys)(q3:Cq t3 s.heap l3 us)(hQ:∀ h2 acc tk,(∀ d o,d∉z3w I->s.heap.get? d=Ab o->h2.get? d=Ab o)->Lu I s.heap.objs.size xs ys us n acc h2->Q acc.toList {s with heap:=h2,toks:=tk}):Az (model prog w) A (collect (.ref (I+5))) Q E s:=by
  have lt:=hz.lt;have hSI:s.heap.objs.size≠I+5:=DD lt;unfold collect;refine Ah (wpAny_runValue (FP F.entry_proto_collect ?_));rw[Ew F.plain_proto_collect _];show Az _ A.in1 (newList [] >>= λl=>again (.builtin "list.__iadd__" ⟨[l,.ref (I+5)],[]⟩)) _ _ s
  refine Ah (CP ?_);refine Ax ⟨Ht Zv _,FP F.entry_list_iadd ?_⟩;rw[Ew Zv _];have hz1:Z_3 t1 t2 t3 I l1 l2 l3 0 (s.heap.push { cls:=.type "list",data:=.seq ([]:Ac Ai).toArray }):=pL hz;have ty1:Shared.TypeIs { s with heap:=s.heap.push { cls:=.type "list",data:=.seq ([]:Ac Ai).toArray } } (.ref (I+5)) "zip" := Z_3.ty (s:={ s with heap:=s.heap.push { cls:=.type "list",data:=.seq ([]:Ac Ai).toArray } }) hz1
  show Az _ A.in1 (YL (.ref s.heap.objs.size) (.ref (I+5)) (.ref s.heap.objs.size)) _ _ _;unfold YL;refine Ah (wpAny_typeOf ty1 ?_);have h1:YM (.ref s.heap.objs.size) (.ref (I+5))=Ae:=by simp[YM,hSI]
  have h2:(GP "zip" == GP "list")=Ae:=by decide
  have h3:(GP "zip" == GP "tuple")=Ae:=by decide
  simp only[h1,h2,h3,Gm,Bool.false_eq_true,KR];refine Ah (jX ty1 ?_);refine Ah (Dj ?_);unfold Builtin.List.listLengthHint;refine Ah (aM ty1 gI ?_);show Az _ A.in1 (specialOf (Dx (I+5)) (By "__length_hint__") >>= _) _ _ _;refine Ah (aM ty1 gH ?_);refine Ax ?_;show Az _ A.in1 (rule "list.extend.makes-room" >>= λ_=>Builtin.List.listTouch (.ref s.heap.objs.size) >>= λ_=>
    again (.builtin "list.extend.loop" ⟨[.ref s.heap.objs.size,.ref (I+5),.ref s.heap.objs.size],[]⟩)) _ _ _
  refine Ah (Fp ?_);have hS₁:(s.heap.push { cls:=.type "list",data:=.seq ([]:Ac Ai).toArray }).get? s.heap.objs.size=Ab { cls:=.type "list",data:=.seq ([]:Ac Ai).toArray }:=Ay _ rfl;refine Ah ?_;show Az _ A.in1 (JO s.heap.objs.size (·.push .none) >>= λ_=>JO s.heap.objs.size (·.pop)) _ _ _
  refine Ah (FQ hS₁ rfl ?_);have hS₂:=Ca (CU (·.push DI)) hS₁ rfl;refine FQ hS₂ rfl ?_;have hS₃:=Ca (CU (·.pop)) hS₂ rfl;have oth:∀ b o,b≠s.heap.objs.size->(s.heap.push { cls:=.type "list",data:=.seq ([]:Ac Ai).toArray }).get? b=Ab o ->
      (((s.heap.push { cls:=.type "list",data:=.seq ([]:Ac Ai).toArray }).update s.heap.objs.size (CU (·.push DI))).update s.heap.objs.size (CU (·.pop))).get? b=Ab o:=
    λb o hb e=>(Ci _ _ (CK hb)).trans ((Ci _ _ (CK hb)).trans e)
  have oth':∀ b o,s.heap.get? b=Ab o->(((s.heap.push { cls:=.type "list",data:=.seq ([]:Ac Ai).toArray }).update s.heap.objs.size (CU (·.push DI))).update s.heap.objs.size (CU (·.pop))).get? b=Ab o:=
    λb o e=>oth b o (Bb (AE e)) (Ar _ e)
  refine Ax ⟨Ht FI _,pM calm b1 b2 b3 s.heap.objs.size lt n0 nn e1 e2 e3 n 0 _ _ _ rfl (Gh _) (hz1.at' λj hj o q=>oth _ o (λe=>by rw[<-e]at lt;exact absurd lt (FY.mpr (G6 hj I))) q) (q1.at' λo e=>oth' _ o e) (q2.at' λo e=>oth' _ o e) (q3.at' λo e=>oth' _ o e) hS₃ ⟨rfl,λj hj=>absurd hj (GJ _),λj1 j2 a e=>by simp[CU]at e⟩ λh2 acc c tk kp hS hd=>?_⟩
  show Az _ A (load s.heap.objs.size >>= _) _ _ _;refine Ah (wpAny_load hS ?_);exact Ax (hQ h2 acc tk (λd o nd e=>kp d o nd (Bb (AE e)) (oth' d o e)) hd)
theorem pO{t1 t2 t3:Al}{I l1 l2 l3 n:Ag}{xs ys:A6 Ai}{Q₁:Vq}(calm:A.handled=Af)(b1:l1<I)(b2:l2<I)(b3:l3<I)(n0:0<n)(nn:n<=1000)(e1:xs.size=n)(e2:ys.size=n)(e3:us.size=n)(hz:Z_3 t1 t2 t3 I l1 l2 l3 0 s.heap)(q1:Cq t1 s.heap l1 xs)(q2:Cq t2 s.heap l2 ys)(q3:Cq t3 s.heap l3 us)(h:∀ h2 acc tk,(∀ d o,d∉z3w I->s.heap.get? d=Ab o->h2.get? d=Ab o)->Lu I s.heap.objs.size xs ys us n acc h2->Q₁ (.ref h2.objs.size) { s with heap:=h2.push { cls:=.type "tuple",data:=.seq acc },toks:=tk }):
  F1 (model prog w) A (.call (.builtin "tuple.__new__") ⟨[.type "tuple",.ref (I+5)],[]⟩) (wants Q₁ E) s:=by
 refine codeAny_of_tree ?_;show Az _ A.in1 (do Z_7 "tuple.__new__" ⟨[.type "tuple",.ref (I+5)],[]⟩;again (.builtin "tuple.__new__" ⟨[.type "tuple",.ref (I+5)],[]⟩)) _ _ s
 refine Ah (wpAny_of_eq (F.newCall_tuple_1 _) (Ax ⟨Ht Zw _,FP F.entry_tuple_new ?_⟩));rw[Ew Zw _];have hsub:=sub_tuple_self;have hinit:=init_tuple_lookup;have hmh:=madeHere_tuple;have hTI:=hz.ty;have calm2:A.in1.handled=Af:=calm
 wp_walk using wpAny_typeOf hTI,gK calm2 b1 b2 b3 n0 nn e1 e2 e3 hz q1 q2 q3
 intro h2 acc tk kp hd;show Az _ _ (De acc.toList.toArray >>= λv=>ret v) _ _ _
 unfold De;refine Ah (CP ?_ (by show acc.toList.toArray.size<=sizeLine;simp only[XO];rw[hd.1,E1];omega))
 refine Ax ?_;have e:acc.toList.toArray=acc:=by simp
 rw[e];exact h h2 acc tk kp hd
theorem kD{t1 t2 t3:Al}{I l1 l2 l3 n:Ag}{xs ys:A6 Ai}{Q:Vq}(calm:A.handled=Af)(b1:l1<I)(b2:l2<I)(b3:l3<I)(n0:0<n)(nn:n<=1000)(e1:xs.size=n)(e2:ys.size=n)(e3:us.size=n)(hz:Z_3 t1 t2 t3 I l1 l2 l3 0 s.heap)(q1:Cq t1 s.heap l1 xs)(q2:Cq t2 s.heap l2 ys)(q3:Cq t3 s.heap l3 us)(h:∀ h2 acc tk,(∀ d o,d∉z3w I->s.heap.get? d=Ab o->h2.get? d=Ab o)->Lu I s.heap.objs.size xs ys us n acc h2->Q (.ref h2.objs.size) { s with heap:=h2.push { cls:=.type "tuple",data:=.seq acc },toks:=tk }):
  Az (model prog w) A (call (.type "tuple") [.ref (I+5)]) Q E s:=by
 refine callType_codes (Q₁:=λobj s₁=>s₁.TypeIs obj "tuple"/\Q obj s₁) F.called_tuple (F.typeCall_tuple_1 _) F.entry_object_init
  (pO (by exact calm) b1 b2 b3 n0 nn e1 e2 e3 hz q1 q2 q3 λh2 acc tk kp hd=>⟨⟨_,Ay _ rfl,rfl⟩,h h2 acc tk kp hd⟩) λobj s₁ h₁=>?_
 exact⟨h₁.1,Zm obj _,object_init_meets F.called_tuple.init.lookup F.called_tuple.made (by decide) prog w A.in1 _ s₁ ⟨h₁.1,rfl,h₁.2⟩⟩
end
noncomputable def IG(H:Hp)(ps:Ac (Ak×Ac V)):Hp:=λb=>match ps.lookup b with
  |some xs=>Ab (.tup xs)
  |none=>H b
theorem WH(h:ps.lookup a=Ab xs):(a,xs)∈ps:=by
 induction ps with
 |nil=>cases h
 |cons p ps ih=>
  obtain⟨b,ys⟩:=p;rw[BZ]at h;split at h
  .rename_i e;cases h;rw[BK]at e;subst e;exact Aw
  .exact Av _ (ih h)
theorem Uk(h:∀ p∈ps,p.1≠b):IG H ps b=H b:=by
 unfold IG;cases e:ps.lookup b with
 |none=>rfl
 |some xs=>exact absurd rfl (h _ (WH e))
theorem kR(ps:Ac (Ak×Ac V))(I:Inv X pI U H s)(k:∀ b u,s.heap.get? b=Ab u->h'.get? b=Ab u)(hp:∀ p∈ps,s.heap.objs.size<=p.1)(new:∀ p∈ps,p.2.length<=sizeLine/\∃ its:Ac Ai,Bk p.2 its/\J5 h' p.1 its.toArray):Inv X pI U (IG H ps) {s with heap:=h',toks:=t'}:=by
 have old:∀ b,b<s.heap.objs.size->IG H ps b=H b:=λb hb=>Uk λp hq e=>by
  have:=hp p hq;rw[e]at this;exact absurd hb (FY.mpr this)
 have hl:∀ b o,H b=Ab o->IG H ps b=Ab o:=λb o q=>by rw[old b (I.hok.lt q)];exact q
 refine I.un ⟨λb u q _ _ _=>k b u q,λb u q _ _ _=>⟨u.slots,k b u q⟩,λb u q n _=>by rw[old b (AE q)];exact n,λb u q _=>⟨u,k b u q⟩,λb xs q=>hl b _ q,λb u xs q=>hl b _ q,λb xs q=>⟨#[],by rw[hl b _ q];simp⟩⟩ λb u e=>?_
 unfold IG at e;split at e
 .rename_i xs hx;cases e;exact new _ (WH hx)
 .exact(I.hok b u e).stay (λc v _ q=>k c v q) (λc q=>hl c _ q) λc xs q=>hl c _ q
noncomputable def Hz:Ac V->Ac V->Ac V->Ac (Ac V)
 |x::xs,y::ys,u::us=>[x,y,u]::Hz xs ys us
 |_,_,_=>[]
theorem TQ:∀(xs ys us:Ac V)(j:Ag)(r:Ac V),(Hz xs ys us)[j]?=Ab r->∃ x y u,xs[j]?=Ab x/\ys[j]?=Ab y/\us[j]?=Ab u/\r=[x,y,u]
 |[],_,_,j,r,h=>by simp[Hz]at h
 |_::_,[],_,j,r,h=>by simp[Hz]at h
 |_::_,_::_,[],j,r,h=>by simp[Hz]at h
 |x::xs,y::ys,u::us,0,r,h=>by
  simp only[Hz,EK,Ce]at h;exact⟨x,y,u,rfl,rfl,rfl,h.symm⟩
 |x::xs,y::ys,u::us,j+1,r,h=>by
  simp only[Hz,EJ]at h ⊢;exact TQ xs ys us j r h
theorem Nb{α β:Type}:∀{as:Ac α}{bs:Ac β}{a:α}{b:β},(a,b)∈as.zip bs->∃ j:Ag,as[j]?=Ab a/\bs[j]?=Ab b
 |[],_,_,_,h=>by simp at h
 |_::_,[],_,_,h=>by simp at h
 |x::as,y::bs,a,b,h=>by
  simp only[Hl,Au,Jt]at h;rcases h with ⟨rfl,rfl⟩|h
  .exact⟨0,rfl,rfl⟩
  .obtain⟨j,h1,h2⟩:=Nb h;exact⟨j+1,h1,h2⟩
def dW(K:Fg)(ta:TA):TE:=λU H Q=>ta U H λvs H1=>∃ t1 t2 t3 a b c xs ys us,vs=[.ref a,.ref b,.ref c]/\SqX t1 K H1 a xs/\SqX t2 K H1 b ys/\SqX t3 K H1 c us/\0<xs.length/\xs.length<=1000/\ys.length=xs.length/\us.length=xs.length /\
 ∀(as:Ac Ak)(T:Ak),as.length=xs.length->as.Nodup->(∀ p∈as,H1 p=Af)->T∉as->H1 T=Af->Q (.ref T) (IG H1 ((T,as.map .ref)::as.zip (Hz xs ys us)))
theorem nH{I S:Ag}{xs ys acc:A6 Ai}(d:Lu I S xs ys us n acc h):∃ as:Ac Ak,acc.toList=as.map Dx/\as.length=n/\as.Nodup/\∀(j:Ag)(a:Ak),as[j]?=Ab a->∃ x y u,xs[j]?=Ab x/\ys[j]?=Ab y/\us[j]?=Ab u/\ER h a x y u/\I+5<a:=by
  obtain⟨hn,hj,inj⟩:=d
  let f:Ai->Ak:=λv=>match v with
    |.ref a=>a
    |_=>0
  have hg:∀ j v,acc.toList[j]?=Ab v->∃(a:Ag)(x y u:Ai),v=Dx a/\xs[j]?=Ab x/\ys[j]?=Ab y/\us[j]?=Ab u/\ER h a x y u/\I+5<a:=λj v e=>by
    rw[XJ]at e;have lt:j<n:=by rw[<-hn];exact(Fx.mp e).1
    obtain⟨a,x,y,u,r1,r2,r3,r4,r5,r6,_⟩:=hj j lt;rw[e]at r1;cases r1;exact⟨a,x,y,u,rfl,r2,r3,r4,r5,r6⟩
  have hf:∀ v∈acc.toList,Dx (f v)=v:=λv hv=>by
    obtain⟨j,hj⟩:=Yl hv;obtain⟨a,_,_,_,rfl,_⟩:=hg j v hj;rfl
  have hm:acc.toList=(acc.toList.map f).map Dx:=by
    rw[Ea]
    conv=>lhs;rw[<-List.map_id acc.toList]
    exact EI λv hv=>(hf v hv).symm
  refine⟨acc.toList.map f,hm,by rw[AV,D0,hn],?_,λj a e=>?_⟩
  · rw[List.nodup_iff_pairwise_ne,List.pairwise_iff_getElem];intro i j hi hj' lt e;rw[AV,D0]at hi hj';have at':∀(k:Ag)(hk:k<acc.size)(hk':k<(acc.toList.map f).length),acc[k]?=Ab (Dx (acc.toList.map f)[k]):=λk hk hk'=>by
      rw[BY hk,List.getElem_map,hf _ (Dc _),Array.getElem_toList]
    have:=inj i j _ (at' i hi _) (by rw[e];exact at' j hj' _)
    omega
  · rw[C0,Option.map_eq_some_iff]at e;obtain⟨v,hv,rfl⟩:=e;obtain⟨a,x,y,u,rfl,r⟩:=hg j v hv;exact⟨x,y,u,r⟩
theorem bf{a b:Ao}{p':AX}(hc:X.calm=Aa)(hg:Gl X "tuple")(hm:X.mg "tuple" = Af)(hg':Gl X "zip")(hm':X.mg "zip" = Af)(ha:PA X [a,b,c] ta)(hs:AB [a,b,c] X.env=[(Ae,eval a X.env),(Ae,eval b X.env),(Ae,eval c X.env)])(hs2:AB [b,c] X.env=[(Ae,eval b X.env),(Ae,eval c X.env)]):
    PE X (.Call (.Name "tuple" p) [.Call (.Name "zip" p') [a,b,c] [] pos'] [] pos) (dW X.K ta):=by
  intro pI s U H Q I h;refine KS (Jh I hg hm F4 (Cs ?_ rfl rfl));show Az _ _ (spliced ((Ae,eval (.Call (.Name "zip" p') [a,b,c] [] pos') X.env)::Ct pos (AB [] X.env))) _ _ s;refine YS ?_;refine KS (Jh I hg' hm' YG (Cs (thn (ha pos' pI s U H _ I h) λus s1 ⟨vs,H1,I1,r1,q1⟩=>?_) (by rw[hs,hs2]) (by rw[hs2];rfl)))
  obtain⟨t1,t2,t3,l1,l2,l3,xs,ys,zs,e,sx,sy,sz,n0,nn,ey,ez,q⟩:=q1;subst e;cases r1 with
  |cons r rr=>
    cases rr with
    |cons r' rr=>
      cases rr with
      |cons r'' rr=>
        cases rr;cases r;cases r';cases r'';obtain⟨xv,rx,ix,_⟩:=Hy I1 sx;obtain⟨yv,ry,iy,_⟩:=Hy I1 sy;obtain⟨zv,rz,iz,_⟩:=Hy I1 sz;refine gU ix iy iz λh2 z hsz kp=>YT ?_
        have lx:=rx.length;have ly:=ry.length;have lz:=rz.length;refine kD (s:={s1 with heap:=h2}) (n:=xs.length) (I1.ok.hd hc) ix.lt iy.lt iz.lt n0 nn (by simp[lx]) (by simp[<-ly,ey]) (by simp[<-lz,ez]) z (ix.at' λo e=>kp _ o e) (iy.at' λo e=>kp _ o e) (iz.at' λo e=>kp _ o e) λh3 acc tk kp3 dr=>?_
        obtain⟨as,e1,e2,nd,each⟩:=nH dr;have nw:∀ b,b<s1.heap.objs.size->b∉z3w s1.heap.objs.size:=λb hb=>Om hb
        have kp4:∀ b o,s1.heap.get? b=Ab o->(h3.push { cls:=.type "tuple",data:=.seq acc }).get? b=Ab o:=λb o e=>Ar _ (kp3 b o (nw b (AE e)) (kp b o e))
        have big:∀ a∈as,s1.heap.objs.size<=a/\a<h3.objs.size:=λa ha=>by
          obtain⟨j,hj⟩:=Yl ha;obtain⟨x,y,u,_,_,_,tr,lt⟩:=each j a hj;exact⟨E8 (Eb (EC _ 5) lt),AE tr⟩
        have b3:s1.heap.objs.size<=h3.objs.size:=by
          obtain⟨a,ha⟩:∃ a,a∈as:=List.exists_mem_of_length_pos (by rw[e2];exact n0)
          exact E8 (Eb (big a ha).1 (big a ha).2)
        refine⟨.ref h3.objs.size,_,kR (s:=s1) (h':=h3.push { cls:=.type "tuple",data:=.seq acc }) (t':=tk) ((h3.objs.size,as.map V.ref)::as.zip (Hz xs ys zs)) I1 kp4 (λp hp=>?_) (λp hp=>?_),rfl,q as h3.objs.size e2 nd (λp hp=>I1.hok.fresh (big p hp).1) (λhT=>absurd (big _ hT).2 (Bx _)) (I1.hok.fresh b3)⟩
        · rcases Au.mp hp with rfl|hp
          · exact b3
          · obtain⟨j,h1,h2⟩:=Nb (a:=p.1) (b:=p.2) hp;exact(big _ (DT h1)).1
        · rcases Au.mp hp with rfl|hp
          · refine⟨by rw[AV,e2,E1];omega,as.map Dx,?_,?_⟩
            · clear q each big hp e1 e2 nd
              induction as with
              |nil=>exact .nil
              |cons a as ih=>exact .cons rfl ih
            · rw[<-e1,XO];exact JC _ _
          · obtain⟨j,h1,h2⟩:=Nb (a:=p.1) (b:=p.2) hp;obtain⟨x,y,u,g1,g2,g3,er⟩:=TQ _ _ _ _ _ h2;obtain⟨x',y',u',k1,k2,k3,tr,_⟩:=each j _ h1;obtain⟨x2,m1,w1⟩:=rx.get g1;obtain⟨y2,m2,w2⟩:=ry.get g2;obtain⟨u2,m3,w3⟩:=rz.get g3;rw[Yn]at k1 k2 k3;cases m1.symm.trans k1;cases m2.symm.trans k2;cases m3.symm.trans k3;rw[er];exact⟨by show 3<=sizeLine;decide,[x',y',u'],.cons w1 (.cons w2 (.cons w3 .nil)),⟨_,Ar _ tr,rfl,_,rfl⟩⟩
theorem Tg{K:Fg}{CL:ClA}{H H3:Hp}{A:Ak->Prop}(hA:AOk H A)(sm:AH H H3):∀{as:Ac Ak}{xs ys us:Ac V}{ds es fs:Ac D},(∀(j:Ag)(a:Ak)(r:Ac V),as[j]?=Ab a->(Hz xs ys us)[j]?=Ab r->H3 a=Ab (.tup r))->(∀ p∈as,H p=Af)->as.length=xs.length->ys.length=xs.length->us.length=xs.length->Reps K CL H A xs ds->Reps K CL H A ys es->Reps K CL H A us fs->Reps K CL H3 A (as.map .ref) (Rx ds es fs)
 |[],[],[],[],[],[],[],_,_,_,_,_,_,_,_=>trivial
 |a::as,x::xs,y::ys,u::us,d::ds,e::es,f::fs,h,hn,l1,l2,l3,r1,r2,r3=>
  ⟨⟨a,[x,y,u],rfl,.inl (hA.new (hn a Aw)),SqT.of (h 0 a _ rfl rfl),r1.1.same sm,r2.1.same sm,r3.1.same sm,trivial⟩,
   Tg hA sm (λj a' r p q=>h (j+1) a' r p q) (λp hp=>hn p (Av _ hp)) (HQ l1) (HQ l2) (HQ l3) r1.2 r2.2 r3.2⟩
 |[],_::_,_,_,_,_,_,_,_,l,_,_,_,_,_=>nomatch l
 |_::_,[],_,_,_,_,_,_,_,l,_,_,_,_,_=>nomatch l
 |_,[],_::_,_,_,_,_,_,_,_,l,_,_,_,_=>nomatch l
 |_,[],_,_::_,_,_,_,_,_,_,_,l,_,_,_=>nomatch l
 |_,_::_,[],_,_,_,_,_,_,_,l,_,_,_,_=>nomatch l
 |_,_::_,_,[],_,_,_,_,_,_,_,l,_,_,_=>nomatch l
 |_,[],_,_,_::_,_,_,_,_,_,_,_,r,_,_=>r.elim
 |_,_::_,_,_,[],_,_,_,_,_,_,_,r,_,_=>r.elim
 |_,_,[],_,_,_::_,_,_,_,_,_,_,_,r,_=>r.elim
 |_,_,_::_,_,_,[],_,_,_,_,_,_,_,r,_=>r.elim
 |_,_,_,[],_,_,_::_,_,_,_,_,_,_,_,r=>r.elim
 |_,_,_,_::_,_,_,[],_,_,_,_,_,_,_,r=>r.elim
theorem WG:∀{as:Ac Ak}{rs:Ac (Ac V)}{j:Ag}{a:Ak}{r:Ac V},as.Nodup->as[j]?=Ab a->rs[j]?=Ab r->(as.zip rs).lookup a=Ab r
 |[],_,_,_,_,_,h,_=>by simp at h
 |_::_,[],_,_,_,_,_,h=>by simp at h
 |b::as,q::rs,0,a,r,nd,h1,h2=>by
  simp only[EK,Ce]at h1 h2;subst h1 h2;rw[Hl,Yv]
 |b::as,q::rs,j+1,a,r,nd,h1,h2=>by
  simp only[EJ]at h1 h2;have nb:a≠b:=λe=>by subst e;exact(BJ.mp nd).1 (DT h1)
  rw[Hl,BZ,qe nb];exact WG (BJ.mp nd).2 h1 h2
section
variable{X:Cx}{CL:ClA}{W:XW}{pos p pos' p':AX}{a b c:Ao}{fa fb fc:Rho->R D}
theorem yM(ha:SE X CL W a fa)(hb:SE X CL W b fb)(hd:SE X CL W c fc)(hc:X.calm=Aa)(hg:Gl X "tuple")(hm:X.mg "tuple" = Af)(hg':Gl X "zip")(hm':X.mg "zip" = Af)(hs:AB [a,b,c] X.env=[(Ae,eval a X.env),(Ae,eval b X.env),(Ae,eval c X.env)])(hs2:AB [b,c] X.env=[(Ae,eval b X.env),(Ae,eval c X.env)])(hs3:AB [c] X.env=[(Ae,eval c X.env)]):
  SE X CL W (.Call (.Name "tuple" p) [.Call (.Name "zip" p') [a,b,c] [] pos'] [] pos) (λY=>((fa Y).bind λx=>(fb Y).bind λy=>(fc Y).bind λz=>LD x y z).bind λxs=>.ok (.tup xs)):=
 λA=>PE.weak (bf hc hg hm hg' hm' (Fe (ha A) (Fe (hb A) (Fe (hd A) Hc hs3) (by rw[hs2,hs3])) (by rw[hs,hs2])) hs hs2) λU H Q ⟨hA,Y,g,q⟩=>by
  simp only[R.bind_assoc]at q;refine⟨hA,Y,g,Br.bind q λd v H1 _ s1 r1 p1=>⟨hA.same s1,Y,g.same s1,Br.bind p1 λd2 v2 H2 _ s2 r2 p2=>⟨(hA.same s1).same s2,Y,(g.same s1).same s2,Br.bind p2 λd3 v3 H3 _ s3 r3 p3=>?_⟩⟩⟩
  unfold LD at p3;cases e1:Ch d with
  |bad=>rw[e1]at p3;exact p3.elim
  |exn z=>exact absurd e1 (by cases d<;>simp[Ch])
  |ok ds=>
   cases e2:Ch d2 with
   |bad=>rw[e1,e2]at p3;exact p3.elim
   |exn z=>exact absurd e2 (by cases d2<;>simp[Ch])
   |ok es=>
    cases e3:Ch d3 with
    |bad=>rw[e1,e2,e3]at p3;exact p3.elim
    |exn z=>exact absurd e3 (by cases d3<;>simp[Ch])
    |ok fs=>
     rw[e1,e2,e3]at p3;simp only[R.bind_ok]at p3;obtain⟨t1,c1,xs,rfl,k1,rs1⟩:=LG ((r1.same s2).same s3) e1;obtain⟨t2,c2,ys,rfl,k2,rs2⟩:=LG (r2.same s3) e2;obtain⟨t3,c3,us,rfl,k3,rs3⟩:=LG r3 e3;split at p3
     .rename_i hn;obtain⟨n0,nn,ny,nz⟩:=hn;rw[<-rs1.length]at n0 nn ny nz;rw[<-rs2.length]at ny;rw[<-rs3.length]at nz;refine⟨t1,t2,t3,c1,c2,c3,xs,ys,us,rfl,k1 H3 (Kp.of (AH.refl H3)),k2 H3 (Kp.of (AH.refl H3)),k3 H3 (Kp.of (AH.refl H3)),n0,nn,ny,nz,λas T el nd fr hT fT=>?_⟩
      have hA3:AOk H3 A:=((hA.same s1).same s2).same s3;have fr':∀ q∈(T,as.map V.ref)::as.zip (Hz xs ys us),H3 q.1=Af:=λq hq=>by
       rcases Au.mp hq with rfl|hq
       .exact fT
       .obtain⟨j,h1,h2⟩:=Nb (a:=q.1) (b:=q.2) hq;exact fr _ (DT h1)
      have sm:AH H3 (IG H3 ((T,as.map V.ref)::as.zip (Hz xs ys us))):=λb o e=>by
       rw[Uk λq hq z=>by rw[<-z,fr' q hq]at e;cases e]
       exact e
      refine p3 _ _ sm ⟨T,as.map V.ref,rfl,.inl (hA3.new fT),SqT.of ?_,Tg hA3 sm (λj a r h1 h2=>?_) fr el ny nz rs1 rs2 rs3⟩
      .unfold IG;rw[Yv]
      .have na:a≠T:=λe=>by subst e;exact hT (DT h1)
       unfold IG;rw[BZ,qe na,WG nd h1 h2]
     .exact p3.elim
end
section
variable{X:Cx}{CL:ClA}{W:XW}{pos p tpos:AX}{a b c:Ao}{fa fb fc:Rho->R D}{x:An}
end
section
variable{X:Cx}{CL:ClA}{W:XW}{a:Ao}{fa:Rho->R D}
end
section
variable{X:Cx}{CL:ClA}{W:XW}{o o' e:Ao}{fe:Rho->R D}{i j:Ag}{apos cpos apos' cpos' pos:AX}
end
section
variable{X:Cx}{CL:ClA}{W:XW}
end
section
variable{X:Cx}
variable{CL:ClA}{W:XW}{pos p pos' p':AX}{a b:Ao}{fa fb:Rho->R D}
end
section
variable{X:Cx}{CL:ClA}{W:XW}{e o o' k l:Ao}{fe:Rho->R Ov.D}{i ik il:Ag}{pos spos spos' tpos:AX}{kt:Ag}
end
section
variable{prog:AT}{w:AD}{A:Bc}{E:Vq}{s:As}
end
section
variable{X:Cx}{pos:AX}{CL:ClA}
end
section
variable{X:Cx}{CL:ClA}{W:XW}
end
end Ov
namespace Ov
open PySem PySem.W PyProof.Rows
variable{p:A6 Ag}{m:Ag}
def Kr{α:Type}(lt:Ag->Ag->Al)(n:Ag):KasT α->(α->Prop)->Prop
 |.ret a,Q=>Q a
 |.ask i j k,Q=>i<n/\j<n/\Kr lt n (k (lt i j)) Q
theorem Kr.mono{α:Type}{lt:Ag->Ag->Al}{n:Ag}{Q Q':α->Prop}:∀{t:KasT α},Kr lt n t Q->(∀ a,Q a->Q' a)->Kr lt n t Q'
 |.ret _,h,k=>k _ h
 |.ask i j f,h,k=>⟨h.1,h.2.1,Kr.mono (t:=f (lt i j)) h.2.2 k⟩
theorem Kr.bind{α β:Type}{lt:Ag->Ag->Al}{n:Ag}{f:α->KasT β}{Q:β->Prop}:∀{t:KasT α},Kr lt n t (λa=>Kr lt n (f a) Q)->Kr lt n (t.bind f) Q
 |.ret _,h=>h
 |.ask i j k,h=>⟨h.1,h.2.1,Kr.bind (t:=k (lt i j)) h.2.2⟩
structure Sto (lt:Ag->Ag->Al) (n:Ag):Prop where
 tr:∀ i j k,i<n->j<n->k<n->lt i j=Aa->lt j k=Aa->lt i k=Aa
 tot:∀ i j,i<n->j<n->i≠j->lt i j=Ae->lt j i=Aa
 asy:∀ i j,i<n->j<n->lt i j=Aa->lt j i=Ae
noncomputable def at0(p:A6 Ag)(x:Ag):Ag:=p.getD x 0
structure Pm (n:Ag) (p:A6 Ag):Prop where
 sz:p.size=n
 lt:∀ x,x<n->at0 p x<n
 inj:∀ x y,x<n->y<n->at0 p x=at0 p y->x=y
section
variable{lt:Ag->Ag->Al}{n:Ag}
def OT(lt:Ag->Ag->Al)(p:A6 Ag)(m:Ag):Prop:=∀ x y,x<y->y<m->lt (at0 p x) (at0 p y)=Aa
def O3(lt:Ag->Ag->Al)(p:A6 Ag)(m:Ag):Prop:=∀ x y,x<y->y<m->lt (at0 p y) (at0 p x)=Aa
theorem OT.succ(S:Sto lt n)(hp:Pm n p)(h1:1<=m)(hm:m<n)(h:OT lt p m)(e:lt (at0 p (m-1)) (at0 p m)=Aa):OT lt p (m+1):=λx y hxy hy=>by
 by_cases hym:y<m
 .exact h x y hxy hym
 .have:y=m:=by omega
  subst this;by_cases hx:x=y-1
  .rw[hx];exact e
  .exact S.tr _ _ _ (hp.lt _ (by omega)) (hp.lt _ (by omega)) (hp.lt _ hm) (h x (y-1) (by omega) (by omega)) e
theorem O3.succ(S:Sto lt n)(hp:Pm n p)(h1:1<=m)(hm:m<n)(h:O3 lt p m)(e:lt (at0 p m) (at0 p (m-1))=Aa):O3 lt p (m+1):=λx y hxy hy=>by
 by_cases hym:y<m
 .exact h x y hxy hym
 .have:y=m:=by omega
  subst this;by_cases hx:x=y-1
  .rw[hx];exact e
  .exact S.tr _ _ _ (hp.lt _ hm) (hp.lt _ (by omega)) (hp.lt _ (by omega)) e (h x (y-1) (by omega) (by omega))
end
section
variable{prog:AT}{w:AD}{A:Bc}{E:Vq}{κ:SortKind}{it:A6 Keyed}
end
section
variable{lt:Ag->Ag->Al}{n:Ag}
end
def QS(h:AJ)(v:Ai)(r:Ac Ad):Prop:=∃ a its,v=.ref a/\J5 h a its/\IK its.toList r/\r≠[]
theorem QS.kept{h h':AJ}{v:Ai}{r:Ac Ad}(t:QS h v r)(k:∀ b o,h.get? b=Ab o->h'.get? b=Ab o):QS h' v r:=by
 obtain⟨a,its,e,⟨o,ho,q⟩,i,n⟩:=t;exact⟨a,its,e,⟨o,k _ _ ho,q⟩,i,n⟩
section
variable{prog:AT}{w:AD}{A:Bc}{E:Vq}{s:As}
end
end Ov
section
namespace Ov
open PySem PySem.Spec PyProof.Rows L2
section
variable{X:Cx}{CL:ClA}{W:XW}
end
end Ov
end
section
namespace Ov
open PySem PySem.Spec PyProof.Rows
section
variable{t:SetTable}{hashAt:Ag->Ad}{h:Ad}
noncomputable def stand(i b:Ag):SetTable.Probe:=⟨i,0,i,b,Af⟩
end
section
variable{prog:AT}{w:AD}{A:Bc}{E:Vq}{s:As}{K:Type} [DecidableEq K] {knd:KeyKind prog w K}
end
section
variable{prog:AT}{w:AD}{A:Bc}{R:JD->As->Prop}{I:Ak}{fp wr:Ac Ak}{G:A6 Fo->A6 Fo->Prop}{n:Ag}{P:Ag->Ai->Prop}{St:Ag->As->Prop}
end
section
variable{prog:AT}{w:AD}{A:Bc}{E:Vq}{s:As}
end
end Ov
end
namespace Ov
open PySem PySem.Spec PyProof.Rows L2
variable{ex:Ac Ak}{h h':AJ}{P:AT}{w:AD}{H:Hp}{a T':Ak}{oe:Dk}{vs:A6 Ai}{Q:Jc->As->Prop}{a0:Ai}{X:Cx}{pI:Pn}{U:L2.St}{s:As}
section
variable{X:Cx}
def OF(K:Fg)(H:Hp):Ac V->Ac (Ac Ad)->Prop
 |[],[]=>G9
 |x::xs,k::ks=>(∃ b,x=.ref b/\SqT K H b (k.map V.int))/\OF K H xs ks
 |_,_=>Bu
theorem OF.length{K:Fg}{H:Hp}:∀{xs:Ac V}{ks:Ac (Ac Ad)},OF K H xs ks->xs.length=ks.length
 |[],[],_=>rfl
 |_::_,_::_,h=>congrArg (· + 1) (OF.length h.2)
 |[],_::_,h=>h.elim
 |_::_,[],h=>h.elim
variable{CL:ClA}{W:XW}{pos p pos' p':AX}{a:Ao}{fa:Rho->R D}
end
section
theorem vR(l:Ak)(items:A6 Ai)(n:Ag)(b:Ak)(items2:A6 Ai)(n2:Ag)(dd:Aq Ak)(sl:A6 (Aq Ai))(hs0:¬(!items.isEmpty&&DU (items.size+items2.size))=Aa)(hs1:items.size<=sizeLine)(hs2:items.size+items2.size<=sizeLine+1):
  Meets (Builtin.«list.extend» ⟨[.ref l,.ref b],[]⟩) (λ_ R s=>s.heap.get? l=Ab { cls:=.type "list",dict:=Af,data:=.seq items n,slots:=#[] }/\s.heap.get? b=Ab { cls:=.type "tuple",dict:=dd,data:=.seq items2 n2,slots:=sl }/\R (.ok (.ret DI)) {s with heap:=s.heap.update l (CU λx=>x++items2),toks:=s.toks}):=
 .of_wp λprog w A R s h=>by
  obtain⟨hp,g,d,tk,os⟩:=s;obtain⟨hl,hb,h⟩:=h;have f1:=AutoSeq1.idx_int;have f2:=AutoSeq1.sub_tuple_tuple;have f3:=AutoSeq1.sub_list_list;have f4:=AutoSeq1.sub_tuple_list;have f5:=AutoSeq1.sub_list_tuple;
  have hz':(items++items2).size<=sizeLine+1:=by rw[Array.size_append];exact hs2
  wp_walk using (FQ hl rfl (hz:=hs1) (_hz':=hz')),YJ hl,YJ hb;exact⟨_,rfl,h⟩
end
section
variable{X:Cx}
def m8(K:Fg):V->Ac V->Hp->VK->Prop:=λx vs H Q=>∃ l b xs zs,x=.ref l/\vs=[.ref b]/\H l=Ab (.lst xs)/\SqT K H b zs/\xs.length+zs.length<=sizeLine/\Q .non (upd H l (.lst (xs++zs)))
theorem sO:MtM X "list.extend" (m8 X.K):=by
 intro pI s U H x vs v us Q I rx rv h;obtain⟨l,b,xs,zs,rfl,rfl,hH,hB,hz,q⟩:=h;cases rx;obtain⟨u,rfl,ru⟩:=rv.one;cases ru;obtain⟨z,its,n,r,hl,e⟩:=I.lstM hH;obtain⟨its2,r2,⟨o,e2,c2,n2,d2⟩,z2⟩:=I.tuple hB;have hl2:=r2.length;obtain⟨oc,od,oda,os⟩:=o;dsimp only at c2 d2;subst c2 d2;have hsz:its.toArray.size+its2.toArray.size<=sizeLine:=by rw[AG,AG];omega
 have hlong:¬ (!its.toArray.isEmpty&&DU (its.toArray.size+its2.toArray.size))=Aa:=by
  rw[U_1 hsz,FX];exact AM
 refine KZ E9 ⟨_,e,rfl⟩ Zr (Zl _ _)
  (vR l its.toArray n b its2.toArray n2 od os hlong (by rw[AG];omega) (by omega)) ⟨e,e2,?_⟩
 refine⟨.non,_,I.lset (its':=its++its2) hH e (by simp) (r.append r2) ?_,rfl,q⟩
 rw[A4];omega
variable{CL:ClA}{W:XW}{o e:Ao}{fe:Rho->R D}{i:Ag}{apos cpos pos:AX}
theorem oF(ho:PE X o (HE i))(he:ST X CL W e fe)(hbase:EU o "extend" X.env (eval o X.env)=eval o X.env)(hfew:((Ct cpos (AB [e] X.env)).all (λx=>!x.1)&&(G8 cpos (FE [] X.env)).all (λx=>x.1.isSome)&&decide ([e].length+([]:Ac Dy).length+(if ([]:Ac Dy).isEmpty then 0 else 1)<30))=Aa)(hline:(apos.endLine==cpos.line)=Aa)(hs:AB [e] X.env=[(Ae,eval e X.env)])(hsw:DQ (.Call (.Attribute o "extend" apos) [e] [] cpos) Af pos.line X.env=pure Ae):
  SS X CL W (.Expr (.Call (.Attribute o "extend" apos) [e] [] cpos) pos) (λY=>O.of Y (C3 Y i) λxs=>O.of Y (fe Y) λx=>O.of Y ((Dg .Add x (.tup [])).bind λy=>biD .list [y]) λd=>O.of Y (LP d) λys=>if CN (xs.length+ys.length)=Aa then .next (Y.set i (Ab (.lst (xs++ys),Aa))) else .bad):=λFz B pI s U H D I ⟨Y,x,p⟩=>by
 refine Mw (RO F5 E9 ZA sO ho (Fe (he (Cp B Y U)) Hc hs) hbase hfew hline hs rfl) hsw pI s U H D I ?_;dsimp only at p;cases e1:C3 Y i with
 |bad=>rw[e1]at p;exact p.elim
 |exn z=>exact(NA e1).elim
 |ok ds=>
  rw[e1,O.of_ok]at p;have hi:=NH e1;obtain⟨a,xs,ds',q,e2,ha,hh,r⟩:=x.good.owL hi;cases e2;refine⟨_,q,.inl ⟨rfl,xs,SqL.of hh⟩,x.aok,Y,x.good,CG.ex x p λd v H' _ s rv x' q'=>?_⟩
  cases d with
  |tup es=>
   obtain⟨b,ys,rfl,h0,h1,rs⟩:=C4.tup_of rv;have eb:Dg .Add (.tup es) (.tup [])=if (!es.isEmpty&&CN (es.length+0))=Aa then .ok (.tup (es++[])) else .bad:=rfl
   rw[eb]at q';split at q'
   .rw[R.bind_ok,show biD .list [.tup (es++[])]=.ok (.lst (es++[])) from rfl,O.of_ok,Uw,O.of_ok,Du]at q'
    split at q'
    .rename_i hz;refine⟨a,b,xs,ys,rfl,rfl,s _ _ hh,h1,?_,q' _ _ (x'.upd hi q ((r.same s).append rs))⟩;rw[r.length,rs.length];exact Hv hz
    .exact q'.elim
   .exact q'.elim
  |_=>exact q'.elim
end
section
open PySem.AutoSeq1 (wpAny_loadPart')
end
section
variable{prog:AT}{w:AD}{A:Bc}{R:JD->As->Prop}{I S T:Ak}{u v:Ai}{c:Ag}{P:Ag->Ai->Prop}{St:Ag->AJ->Prop}{s:As}{r q:Ac Ad}
end
section
variable{X:Cx}{CL:ClA}{W:XW}
end
def OG(e T:Ak)(cls:Ai)(dx:Aq Ak)(fl:Ai)(h:AJ):Prop:=∃ oe vs oT ts a0,h.get? e=Ab oe/\oe.cls=cls/\oe.dict=dx/\vs[0]?=Ab a0/\oe.data=.fields vs/\vs[1]?=Ab (.ref T)/\T≠e/\h.get? T=Ab oT/\oT.data=.fields ts/\ts[3]?=Ab fl
noncomputable abbrev Fly(e T:Ak)(cls:Ai)(dx:Aq Ak)(h:AJ):Prop:=OG e T cls dx DI h
noncomputable def aP(C:Ak)(dx:Aq Ak)(t:Ak):Dk:={cls:=.ref C,dict:=dx,data:=.fields #[.ref t,.none,.none,.none,.bool Ae,.none]}
structure Shift (ex fs:Ac Ak) (h h':AJ):Prop where
 keep:∀ b o,h.get? b=Ab o->b∉ex->b∉fs->h'.get? b=Ab o
 slot:∀ b o,h.get? b=Ab o->b∈fs->∃ sl,h'.get? b=Ab {o with slots:=sl}
theorem Shift.trans{fs:Ac Ak}{h1 h2:AJ}(a:Shift ex fs h h1)(b:Shift ex fs h1 h2):Shift ex fs h h2:=
 ⟨λc o q n m=>b.keep c o (a.keep c o q n m) n m,λc o q m=>by
  obtain⟨sl,e1⟩:=a.slot c o q m;obtain⟨sl',e2⟩:=b.slot c _ e1 m;exact⟨sl',e2⟩⟩
theorem ObjOk.isThere:∀(o:HO),L2.ObjOk P w H h a o->∃ ob,h.get? a=Ab ob
 |.lst _,x=>by obtain⟨_,_,_,_,e⟩:=x;exact⟨_,e⟩
 |.tup _,x=>by obtain⟨_,_,_,p⟩:=x;obtain⟨o,e,_⟩:=p;exact⟨_,e⟩
 |.dK _,x=>by obtain⟨_,_,_,_,o,_,_,e,_⟩:=x;exact⟨_,e⟩
 |.dT _,x=>by obtain⟨_,_,_,_,o,_,_,e,_⟩:=x;exact⟨_,e⟩
 |.set _ _,x=>by obtain⟨o,_,_,_,e,_⟩:=x;exact⟨_,e⟩
 |.ins _ _ _,x=>by obtain⟨_,_,_,e,_⟩:=x;exact⟨_,e⟩
 |.own _,x=>x
 |.xd _,x=>by obtain⟨_,⟨_,_,_,e,_⟩,_⟩:=x;exact⟨_,e⟩
 |.met _ _,x=>⟨_,x⟩
 |.rng _ _,x=>by obtain⟨_,_,_,e⟩:=x;exact⟨_,e⟩
 |.frz _ _,x=>⟨_,x.1⟩
 |.tbl _,x=>⟨_,x⟩
 |.ext _,x=>x.2.1
theorem U_9(x:HOk P w H h)(e:h.get? a=Af):H a=Af:=by
 cases q:H a with
 |none=>rfl
 |some o=>
  obtain⟨ob,z⟩:=ObjOk.isThere o (x a o q);rw[e]at z;cases z
theorem HOk.shift{fs:Ac Ak}(x:HOk P w H h)(sh:Shift ex fs h h')(h1:∀ b∈ex,H b=Af)(h2:∀ b∈fs,H b=Af):HOk P w H h':=λa o e=>
 (x a o e).stay (λb u hb q=>by
  have hs:∃ v,H b=Ab v:=by
   rcases hb with rfl|hb
   .exact⟨_,e⟩
   .exact⟨_,hb⟩
  obtain⟨v,hv⟩:=hs;exact sh.keep b u q (λz=>by rw[h1 b z]at hv;cases hv) (λz=>by rw[h2 b z]at hv;cases hv)) (λ_ q=>q) λ_ _ q=>q
theorem Un.shift{fs0 fs ex:Ac Ak}{H':Hp}{h0:AJ}(u:Un fs0 [] H H' h0 h)(sh:Shift ex fs h h')(h1:∀ b∈ex,h0.get? b=Af)(h2:∀ b∈fs,b∈fs0\/h0.get? b=Af):Un fs0 [] H H' h0 h' where
 keep:=λb o q n hb hx=>sh.keep b o (u.keep b o q n hb hx) (λz=>by rw[h1 b z]at q;cases q) λz=>(h2 b z).elim hb λe=>by rw[e]at q;cases q
 slot:=λb o q n hb hx=>by
  obtain⟨sl,e1⟩:=u.slot b o q n hb hx;by_cases hf:b∈fs
  .obtain⟨sl',e2⟩:=sh.slot b _ e1 hf;exact⟨sl',e2⟩
  .exact⟨sl,sh.keep b _ e1 (λz=>by rw[h1 b z]at q;cases q) hf⟩
 free:=u.free
 there:=λb o q hx=>by
  obtain⟨o',e1⟩:=u.there b o q hx;by_cases hf:b∈fs
  .obtain⟨sl',e2⟩:=sh.slot b _ e1 hf;exact⟨_,e2⟩
  .exact⟨o',sh.keep b _ e1 (λz=>by rw[h1 b z]at q;cases q) hf⟩
 tups:=u.tups
 frzs:=u.frzs
 tbls:=u.tbls
theorem vZ(f:A6 Ai->A6 Ai)(o:Dk):(Gp f o).dict=o.dict:=by
 obtain⟨c,d,dt,sl⟩:=o;cases dt<;>rfl
section
variable{M:J6}{A:Bc}{E:Vq}{s:As}{env:C9}{outer:Ac C9}{L e T:Ak}{cls:Ai}{dx:Aq Ak}{base h:AJ}
theorem TV{hd:Ai}{nx:Al}(hfr:A.frames=Ab (env::outer))(hf:env.frame=Ab L)(ff:s.heap.FunFrames base (env::outer))(he:s.heap.get? e=Ab oe)(dt:oe.data=.fields vs)(hz:1<vs.size)(hQ:∀ h' T' oT ts,h'.get? e=Ab (Gp (·.setIfInBounds 1 (.ref T')) oe)->T'≠e->s.heap.get? T'=Af->h'.get? T'=Ab oT->oT.data=.fields ts->ts[3]?=Ab (Co L)->Shift [e] (frs (env::outer)) s.heap h'->Q () {s with heap:=h'}):
  Az M A (do
   let fr <-frameOf env
   let pl <-entryPlaceOf L nx
   let en <-YU hd fr .none (Co L) .none pl
   setField (.ref e) 1 en) Q E s:=by
 have nf:e∉frs (env::outer):=λz=>by
  obtain⟨_,o,q,n⟩:=ff.mem z;rw[he]at q;cases q;exact n vs dt
 refine Ah (wpAny_frameOf_fun hfr ff hf λk1 so=>Ah (wpAny_entryPlaceOf λpl ip=>?_))
 obtain⟨sz,sm,sl⟩:=so;have e1:k1.get? e=Ab oe:=(sm e nf).trans he;unfold YU;unfold newFields;refine Ah (CP ?_ (ip.sizeOk5 _ _ _ _ _));generalize hX:({ cls:=.type "traceback",dict:=Af,data:=.fields ([hd,.ref L,.none,Co L,.none]++(if pl.isEmpty then G7 6 DI else pl)).toArray }:Dk)=ob
 have od:ob.data=.fields ([hd,.ref L,.none,Co L,.none]++(if pl.isEmpty then G7 6 DI else pl)).toArray:=by rw[<-hX]
 have nl:k1.objs.size≠e:=DD (AE e1);have e2:=Ar ob e1;refine F2 e2 dt hz ?_;have up:∀ b,b≠e->((k1.push ob).update e (Gp (·.setIfInBounds 1 (.ref k1.objs.size)))).get? b=(k1.push ob).get? b:=λb nb=>Ci _ _ (CK nb)
 have lf:ob.isFreed=Ae:=by rw[<-hX];rfl
 refine hQ _ k1.objs.size ob _ (Ca _ e2 (Fd (DN dt _))) nl ?_ ((up _ nl).trans (Ay k1 lf)) od ?_ ⟨λb o q n1 n2=>?_,λb o q hb=>?_⟩
 .rw[sz];exact GM (A1 _)
 .simp
 .have nb:b≠e:=λz=>n1 (by rw[z];exact Aw)
  rw[up b nb];exact Ar ob ((sm b n2).trans q)
 .obtain⟨sl',q'⟩:=sl b o q;have nb:b≠e:=λz=>nf (z ▸ hb)
  exact⟨sl',(up b nb).trans (Ar ob q')⟩
theorem TC{oT:Dk}{ts:A6 Ai}{fl:Ai}(hc:oe.cls=cls)(hx:oe.dict=dx)(h0:vs[0]?=Ab a0)(dt:oe.data=.fields vs)(hz:1<vs.size)(g:h'.get? e=Ab (Gp (·.setIfInBounds 1 (.ref T')) oe))(ne:T'≠e)(gT:h'.get? T'=Ab oT)(dT:oT.data=.fields ts)(f3:ts[3]?=Ab fl):OG e T' cls dx fl h':=
 ⟨_,_,oT,ts,a0,g,(ZD _ _).trans hc,(vZ _ _).trans hx,by rw[Array.getElem?_setIfInBounds_ne (by decide)];exact h0,DN dt _,by simp[hz],ne,gT,dT,f3⟩
theorem Lg{i:Ag}{v:Ai}(q:vs[i]?=Ab v):i<vs.size:=(Fx.mp q).1
theorem mZ(hfr:A.frames=Ab (env::outer))(hf:env.frame=Ab L)(ff:s.heap.FunFrames base (env::outer))(fl:Fly e T cls dx s.heap)(hQ:∀ h' T',OG e T' cls dx (Co L) h'->Shift [e,T] (frs (env::outer)) s.heap h'->s.heap.get? T'=Af->Q () {s with heap:=h'}):Az M A (JL (.ref e) env) Q E s:=by
 obtain⟨oe,vs,oT,ts,a0,he,hc,hx,h0,dt,h1,ne,hT,dT,h3⟩:=fl;have z3:=Lg h3;unfold JL;simp only[hf];refine Ah (Bi he dt h1 ?_);rw[AF (by simp:(Dx T != DI)=Aa)]
 refine Ah (Bi hT dT h3 ?_);rw[AN (by simp[Co]:¬ (DI==Co L)=Aa)]
 refine Ah (F2 hT dT z3 ?_);have up:∀ b,b≠T->(s.heap.update T (Gp (·.setIfInBounds 3 DI))).get? b=s.heap.get? b:=λb nb=>Ci _ _ (CK nb)
 have rcd:∀ b o,s.heap.get? b=Ab o->(∀ us,o.data≠.fields us)->b≠T:=λb o q n z=>by
  rw[z,hT]at q;cases q;exact n ts dT
 refine TV (base:=base) hfr hf (ff.of_keeps λb o q n=>⟨o,(up b (rcd b o q n)).trans q,rfl⟩) ((up e (CK ne)).trans he) dt (Lg h1) λh' T' oT' ts' g nT gn gT dT' f3 sh=>?_
 have T0:s.heap.get? T'=Af:=by
  by_cases z:T'=T
  .rw[z]at gn;rw[Ca _ hT (Fd (DN dT _))]at gn;cases gn
  .rw[<-up T' z];exact gn
 refine hQ h' T' (TC hc hx h0 dt (Lg h1) g nT gT dT' f3) ⟨λb o q n1 n2=>?_,λb o q hb=>?_⟩ T0
 .simp only[Au,AO,BM,Dh]at n1;exact sh.keep b o ((up b n1.2).trans q) (by simp[n1.1]) n2
 .obtain⟨_,o',q',n⟩:=ff.mem hb;rw[q]at q';cases q';exact sh.slot b o ((up b (rcd b o q n)).trans q) hb
theorem VB{fv:Ai}(fl:OG e T cls dx fv s.heap)(hQ:∀ h',Fly e T cls dx h'->(∀ b o,b≠T->s.heap.get? b=Ab o->h'.get? b=Ab o)->Q () {s with heap:=h'}):Az M A (setFlight (.ref e) Af) Q E s:=by
 obtain⟨oe,vs,oT,ts,a0,he,hc,hx,h0,dt,h1,ne,hT,dT,h3⟩:=fl;have z3:=Lg h3;unfold setFlight;refine Ah (Bi he dt h1 ?_);rw[AF (by simp:(Dx T != DI)=Aa)]
 refine F2 hT dT z3 (hQ _ ?_ λb o nb q=>(Ci _ _ (CK nb)).trans q)
 exact⟨oe,vs,_,_,a0,(Ci _ _ ne).trans he,hc,hx,h0,dt,h1,ne,Ca _ hT (Fd (DN dT _)),DN dT _,by simp[z3]⟩
theorem TN{h1 h2:AJ}(ff:s.heap.FunFrames base (env::outer))(sh:Shift ex (frs (env::outer)) s.heap h1)(hT:s.heap.get? T'=Af)(k:∀ b o,b≠T'->h1.get? b=Ab o->h2.get? b=Ab o):Shift ex (frs (env::outer)) s.heap h2:=
 ⟨λb o q n1 n2=>k b o (λz=>by rw[z,hT]at q;cases q) (sh.keep b o q n1 n2),λb o q hb=>let ⟨sl,q'⟩:=sh.slot b o q hb;⟨sl,k b _ (λz=>by rw[z,hT]at q;cases q) q'⟩⟩
theorem iO(hfr:A.frames=Ab (env::outer))(hf:env.frame=Ab L)(ff:s.heap.FunFrames base (env::outer))(fl:Fly e T cls dx s.heap)(hQ:∀ h' T',Fly e T' cls dx h'->Shift [e,T] (frs (env::outer)) s.heap h'->(T'=T\/s.heap.get? T'=Af)->Q () {s with heap:=h'}):Az M A (leaving env (.ref e)) Q E s:=by
 unfold leaving;exact Ah (mZ hfr hf ff fl λh1 T' f1 sh hT=>VB f1 λh2 f2 k=>hQ h2 T' f2 (TN ff sh hT k) (.inr hT))
theorem iI(hfr:A.frames=Ab (env::outer))(hf:env.frame=Ab L)(ff:s.heap.FunFrames base (env::outer))(he:s.heap.get? e=Ab oe)(hc:oe.cls=cls)(hx:oe.dict=dx)(dt:oe.data=.fields vs)(h0:vs[0]?=Ab a0)(h1:vs[1]?=Ab .none)(hQ:∀ h' T',Fly e T' cls dx h'->Shift [e] (frs (env::outer)) s.heap h'->s.heap.get? T'=Af->Q () {s with heap:=h'}):Az M A (leaving env (.ref e)) Q E s:=by
 unfold leaving JL;simp only[hf];refine Ah (Ah (Bi he dt h1 ?_));rw[AN (by decide)]
 exact TV (base:=base) hfr hf ff he dt (Lg h1) λh' T' oT ts g nT gn gT dT f3 sh=>VB (TC hc hx h0 dt (Lg h1) g nT gT dT f3) λh2 f2 k=>hQ h2 T' f2 (TN ff sh gn k) gn
end
def CXR(P:AT)(w:AD):CXT:=λouter H s E ev s'=>∃ e T cls dx H',ev=.ref e/\s'.os=s.os/\FZ s'.gens/\Un (frs outer) [] H H' s.heap s'.heap/\HOk P w H' s'.heap/\Fly e T cls dx s'.heap/\H' e=Af/\H' T=Af/\s.heap.get? e=Af/\s.heap.get? T=Af/\E cls dx H'
def OU(X:Cx)(CL:ClA)(W:XW):Prop:=∀ pI U H s e C dx t x,Inv X pI U H s->(X.ex=[]->X.s₀.heap.get? e=Af)->H e=Af->s.heap.get? e=Ab (aP C dx t)->Ic X.K CL H (.ref C) dx x->W x H->X.xe (.ref e) s
section
variable{P:AT}{w:AD}{K:Fg}{mg:An->Aq Ai}{base:AJ}{N:Ac An}{qual:An}{scope:Cu}{f:Ak}{cd:Ai}{A:Bc}{outer:Ac C9}{s:As}{H:Hp}{E:XK}{CL:ClA}{W:XW}
theorem Vz(I:Inv X pI U H s):∀ b∈frs X.stack,b∈X.fs\/X.s₀.heap.get? b=Af:=λb hb=>by
 rcases Au.mp (I.stkSub b hb) with z|z
 .exact .inr (by rw[z];exact GM I.ok.above)
 .exact .inl z
theorem ND{b:Ak}(I:Inv X pI U H s)(hx:X.ex=[])(h:s.heap.get? b=Af):X.s₀.heap.get? b=Af:=by
 cases q:X.s₀.heap.get? b with
 |none=>rfl
 |some o=>
  obtain⟨o',z⟩:=I.base.there b o q (by rw[hx];simp)
  rw[h]at z;cases z
theorem bH(hE:∀ x cls dx H',W x H'->Ic K CL H' cls dx x->E cls dx H'):∀ A',LC (CXR P w) (Hf (CXR P w) P w K mg base N qual scope f cd A outer s H E) (EKW K CL A' W):=by
 intro A' pI U H1 s1 ev s2 I h;obtain⟨e,T,cls,dx,H',rfl,os,bare,un,hok,fl,he,hT,ne,nT,x,xr,wx⟩:=h;have I':=I.call' (s':=s2) (ch:=[]) os un hok bare (λb z=>absurd z (by simp))
 have hb0:Un (frs outer) [] H H' s.heap s2.heap:=I'.base;show Az (model P w) (A.deeper (FA qual scope s.heap.objs.size f cd)) (leaving (FA qual scope s.heap.objs.size f cd) (.ref e)) _ _ s2;refine iO (L:=s.heap.objs.size) I'.ok.frames rfl I'.stack fl λh' T' fl' sh hT'=>?_
 have e0:s.heap.get? e=Af:=ND I rfl ne;have T0:s.heap.get? T=Af:=ND I rfl nT;refine⟨e,T',cls,dx,H',rfl,I'.os,bare,Un.shift hb0 sh ?_ (Vz I'),HOk.shift hok sh ?_ I'.stkFree,fl',he,?_,e0,?_,?_⟩
 .intro b hb;rcases Au.mp hb with rfl|hb
  .exact e0
  .rw[AR.mp hb];exact T0
 .intro b hb;rcases Au.mp hb with rfl|hb
  .exact he
  .rw[AR.mp hb];exact hT
 .rcases hT' with rfl|z
  .exact hT
  .exact U_9 hok z
 .rcases hT' with rfl|z
  .exact T0
  .exact ND I' rfl z
 .exact hE x cls dx H' wx xr
theorem rzR(hE:∀ x cls dx H',W x H'->Ic K CL H' cls dx x->E cls dx H'):OU (Hf (CXR P w) P w K mg base N qual scope f cd A outer s H E) CL W:=by
 intro pI U H1 s1 e C dx t x I e0 he ge xr hw;have hb0:Un (frs outer) [] H H1 s.heap s1.heap:=I.base;have e0':s.heap.get? e=Af:=e0 rfl;show Az (model P w) (A.deeper (FA qual scope s.heap.objs.size f cd)) (leaving (FA qual scope s.heap.objs.size f cd) (.ref e)) _ _ s1;refine iI (cls:=.ref C) (dx:=dx) (L:=s.heap.objs.size) I.ok.frames rfl I.stack ge rfl rfl rfl (a0:=.ref t) rfl rfl λh' T' fl' sh hT'=>?_
 have one:∀{Z_:Ak->Prop},Z_ e->∀ b∈[e],Z_ b:=λ{Z_} z b hb=>by rw[AR.mp hb];exact z
 exact⟨e,T',.ref C,dx,H1,rfl,I.os,I.bare,Un.shift hb0 sh (one e0') (Vz I),HOk.shift I.hok sh (one (Z_:=λb=>H1 b=Af) he) I.stkFree,fl',he,U_9 I.hok hT',e0',ND I rfl hT',hE x _ dx H1 hw xr⟩
theorem ownR:Fj (model P w) (Hf (CXR P w) P w K mg base N qual scope f cd A outer s H E).A (Hf (CXR P w) P w K mg base N qual scope f cd A outer s H E).env (Hf (CXR P w) P w K mg base N qual scope f cd A outer s H E).xe:=PassesOwn.leaving
end
noncomputable def veB:Ac Ai:=[.type "ValueError",.type "Exception",.type "BaseException",.type "object"]
noncomputable def LU(K:Fg)(C:Ak)(v:Aq Ai):Al:=match K.lookup C with
  | some ⟨.type "type",_,.cls c,z⟩=>(match c.mro,z.toList with
    |.ref c0::tl,[_,_,_,_,Ab (.builtin nw),_]=>c0==C&&(nw == "ValueError.__new__" && (!c.hasDel&&(PySem.W.tailIn K veB tl&&(PySem.W.nsOkIn K c.ns&&B8 K c.ns "__init__" == Ab v))))
    | _,_=>Ae)
  |_=>Ae
structure XcOk (K:Fg) (C:Ak):Prop where
 exc:∃ v,LU K C v=Aa
 ga:CZ K (.ref C) "__getattribute__" = Ab (Ab (.builtin "BaseException.__getattribute__"))
 gt:CZ K (.ref C) "__getattr__" = Ab Af
 cl:CZ K (.ref C) "__class__" = Ab (Ab (.builtin "object.__class__"))
 ob:PySem.W.mroIn K C (.type "object")=Ab Aa
 be:Z_2 K (.ref C) (.type "BaseException")=Ab Aa
 cs:(PySem.W.clsIn K C).isSome=Aa
 ve:Z_0 K (.ref C) (.type "ValueError")=Ab Aa
section
variable{prog:AT}{w:AD}{A:Bc}{E:Vq}{h:AJ}{g:A6 Fo}{d:IW}{t:Ag}{os:IL}{K:Fg}{e C:Ak}
end
def XG(X:Cx)(pI:Pn)(e:Ak):Prop:=e≠X.env.locals/\(∀ x c,X.env.cells.lookup x=Ab c->c≠e)/\(∀ p∈X.pn++pI,p.1≠e)/\X.s₀.heap.get? e=Af
section
variable{X:Cx}{pI:Pn}{U:L2.St}{H:Hp}{s:As}{e:Ak}
end
noncomputable def Cx.hot(X:Cx)(e:Ak):Cx:={X with A:=X.A.mark (Ab (.ref e)),calm:=Ae,xe:=λ_ _=>Bu}
section
variable{X:Cx}{pI:Pn}{U:L2.St}{H:Hp}{s:As}{e:Ak}
end
noncomputable def cB(X:Cx)(CL:ClA)(pI:Pn)(U:L2.St)(H:Hp)(y:Ex)(Xw:Vq):Prop:=
 ∀ s' H' e T cls dx,Inv X pI U H' s'->AH H H'->Fly e T cls dx s'.heap->H' e=Af->H' T=Af->XG X pI e->XG X pI T->Ic X.K CL H' cls dx y->Xw (.ref e) s'
def STB(X:Cx)(CL:ClA)(body:Ac Bp)(f:Rho->O):Prop:=∀ Fz B pI s U H D Y (Xw:Vq),Fj (model X.prog X.w) X.A X.env Xw->Inv X pI U H s->Sx X.K CL Fz B Y U H ->
  (match f Y with
   |.exn y Y'=>Y'=Y->cB X CL pI U H y Xw
   | o=>CG X.K CL Fz B (λ_ _=>Bu) o D)->(∀ y Y',f Y=.exn y Y'->Y'=Y)->Az (model X.prog X.w) X.A (execs body X.env) (SP X pI D) Xw s
noncomputable def Cx.pw(X:Cx)(pI:Pn)(Xw:Vq):Cx:={X with pn:=X.pn++pI,xe:=Xw}
section
variable{X:Cx}{pI pins':Pn}{U:L2.St}{H:Hp}{s:As}{Xw:Vq}
end
section
variable{X:Cx}{CL:ClA}{k n:Ag}{fr:Al}{f:Ak}{fd:Cv}{ps:Ac An}{F:Ac D->R D}{x:An}{p pos pos2:AX}{e:Ao}{es:Ac Ao}{fs ft:Rho->R (Ac D)}{sh:Rho->Al}
variable(hx0:X.ex=[])(G:FnOk X.prog X.w X.K X.mg X.base (CXR X.prog X.w) k f fd ps (spD X.K CL n fr F))(hr:Room k X.A)(hg:Gl X x)(hm:X.mg x=Ab (.ref f))
    (hk:DO X.K (.ref f)=Aa) (hb:IB X.K fd ps []) (hst:∀ Y,sh Y=Aa->ft Y=fs Y) (hn:∀ Y ds,ft Y=.ok ds->ds.length=n) (hnx:∀ Y y,ft Y≠.exn y)
    (hdb:(x==("__debug__" : An))=Ae) (he:AB (e::es) X.env=(Ae,eval e X.env)::AB es X.env) (hpl:∀ pos,(Ct pos (AB es X.env)).any (·.1)=Ae)
    (ha:∀ pI Xw,Fj (model X.prog X.w) X.A X.env Xw->SA (Cx.pw X pI Xw) CL (λ_ _=>Bu) (e::es) fs/\SAT (Cx.pw X pI Xw) CL (λ_ _=>Bu) (e::es) ft)
include hx0 G hr hg hm hk hb hst hn hnx hdb he hpl ha
end
section
variable{X:Cx}{CL:ClA}{W:XW}
def jb(K:Fg)(CL:ClA)(up:Ag->Ac Ag)(c':Ag)(C':Ak):Prop:=∀ c C,CL c=Ab C->Z_0 K (.ref C) (.ref C')=Ab ((up c).contains c')
variable{a:Ao}{fa:Rho->R D}{up:Ag->Ac Ag}{x:An}{p p2 pos:AX}
end
end Ov
section
namespace Ov
open PySem PySem.Spec PyProof.Rows L2
end Ov
end
namespace Ov
open PySem PySem.Spec PyProof.Rows L2
variable{α:Type}{x g qual x0 x1:An}{F:Ao->Ac Bp->Ac Bp->Al}{X:Cx}{CL:ClA}{fr:Al}{pos p:AX}{xs ys:Ac Ao}{env:C9}{l kk k:Ag}{scope:Cu}{ts:Ac Ag}{C:Ak}{H:Hp}{as:Es}{vs:Ac V}{K:Fg}{fd:Cv}{xn:Ag->Ac D->R Ex}{CX:CXT}{ps:Ac An}{h:AJ}
noncomputable abbrev eQ:CXT:=λ_ _ _ _ _ _=>Bu
structure HotOk (P:AT) (w:AD) (K:Fg) (mg:An->Aq Ai) (base:AJ) (k:Ag) (f:Ak) (fd:Cv) (ps:Ac An) (sp:Sp):Prop where
 len:∀ vs H Q E,sp vs H Q E->vs.length=ps.length
 run:∀(A:Bc)(ev:Ak)(outer:Ac C9)(s:As)(H:Hp)(args:Args)(us:Ac Ai)(vs:Ac V)(Q:VK)(E:XK),Room k A->Env0 P w K mg base (A.mark (Ab (.ref ev))) outer s H->HJ s fd args (ps.zip us)->Bk vs us->sp vs H Q E ->
  F1 (model P w) (A.mark (Ab (.ref ev))) (.call (.ref f) args) (CR eQ outer P w H s Q E) s
def spH(K:Fg)(CL:ClA)(n:Ag)(fr:Al)(F:Ac D->R D):Sp:=λvs H Q _=>∃(ds:Ac D)(A:Ak->Prop),vs.length=n/\AOk H A/\Reps K CL H A vs ds/\(match F ds with
  |.ok d=>∀ v H',AH H H'->Fi K CL fr H A H' v d->Q v H'
  |.exn _=>Bu
  | .bad=>Bu)
section
variable{X:Cx}{CL:ClA}{ev:Ak}
end
section
variable{M:J6}{A:Bc}{E:Vq}{s:As}{env:C9}{nm q:An}{C N:Ak}{bs bm bmB:Ac Ai}{hdct:Al}{sn:Ac An}{sub:Ac Ai}{ab:Al}{col:Aq Al}{dd:Aq Ak}{k0 k1 k2 k3 k5:Aq Ai}{B newId initId:Dp}
end
section
variable{prog:AT}{w:AD}{A:Bc}{E:Vq}{h:AJ}{g:A6 Fo}{d:IW}{t:Ag}{os:IL}
variable{nm q:An}{C N fI:Ak}{bs bm bmB:Ac Ai}{hdct:Al}{sn:Ac An}{sub:Ac Ai}{ab:Al}{col:Aq Al}{dd:Aq Ak}{k0 k1 k2 k3 k5:Aq Ai}{B newId initId:Dp}{mN:An->Aq Ai}{rest:Ac Ai}{oI:Dk}
end
section
variable{prog:AT}{w:AD}{A:Bc}{E:Vq}{s:As}{env:C9}
variable{nm q:An}{C N fI:Ak}{bs bm bmB:Ac Ai}{hdct:Al}{sn:Ac An}{sub:Ac Ai}{ab:Al}{col:Aq Al}{dd:Aq Ak}{k0 k1 k2 k3 k5:Aq Ai}{B newId initId:Dp}{mN:An->Aq Ai}
end
section
variable{prog:AT}{w:AD}{A:Bc}{E:Vq}{h:AJ}{g:A6 Fo}{d:IW}{tk0:Ag}{os:IL}
variable{nm q:An}{C N e t:Ak}{dx:Aq Ak}{bs bm bmB:Ac Ai}{hdct:Al}{sn:Ac An}{sub:Ac Ai}{ab:Al}{col:Aq Al}{dd:Aq Ak}{k0 k1 k2 k3 k5:Aq Ai}{B newId initId:Dp}
end
section
variable{X:Cx}{CL:ClA}{pI:Pn}{U:L2.St}{H:Hp}{s:As}
end
section
variable{X:Cx}{CL:ClA}
end
section
variable{X:Cx}{CL:ClA}{C:Ak}{nm q:An}{N:Ak}{bs bm:Ac Ai}{hdct:Al}{sn:Ac An}{sub:Ac Ai}{ab:Al}{col:Aq Al}{dd:Aq Ak}{k0 k1 k2 k3 k5:Aq Ai}
end
section
variable{prog:AT}{w:AD}{A:Bc}{E:Vq}{h:AJ}{g:A6 Fo}{d:IW}{tk0:Ag}{os:IL}{K:Fg}
variable{nm q:An}{C N e t:Ak}{bs bm bmB:Ac Ai}{sn:Ac An}{sub:Ac Ai}{ab:Al}{col:Aq Al}{dd:Aq Ak}{k0 k1 k2 k3 k5:Aq Ai}{B newId sa owner:Dp}
end
section
variable{prog:AT}{w:AD}{A:Bc}{E:Vq}{h:AJ}{g:A6 Fo}{d:IW}{tk0:Ag}{os:IL}{K:Fg}
variable{nm q:An}{C N e t:Ak}{bs bm bmB:Ac Ai}{sn:Ac An}{sub:Ac Ai}{ab:Al}{col:Aq Al}{dd:Aq Ak}{k0 k1 k2 k3 k5:Aq Ai}{B newId sa owner:Dp}
end
section
variable{X:Cx}{pI:Pn}{U:L2.St}{H:Hp}{s:As}{e:Ak}
end
section
variable{X:Cx}{C:Ak}{nm q:An}{N:Ak}{bs bm:Ac Ai}{sn:Ac An}{sub:Ac Ai}{ab:Al}{col:Aq Al}{dd:Aq Ak}{k0 k1 k2 k3 k5:Aq Ai}
end
noncomputable def MT(K:Fg)(C:Ak):Al:=match K.lookup C with
  |some ⟨_,_,.cls c,_⟩=>c.hasDict
  |_=>Ae
section
variable{P:AT}{w:AD}{K:Fg}{mg:An->Aq Ai}{base:AJ}{CL:ClA}{C fI OV:Ak}{x qual g par z f:An}{st:Bp}{fd:Cv}{k:Ag}{np apos p1 p2 p3 p4 p5 cpos p6 p7 p8 p9 p10:AX}
variable{nm q:An}{N:Ak}{bs bm:Ac Ai}{sn:Ac An}{sub:Ac Ai}{ab:Al}{col:Aq Al}{dd:Aq Ak}{k0 k1 k2 k3 k5:Aq Ai}
end
section
variable{X:Cx}{CL:ClA}{W:XW}
end
section
variable{prog:AT}{w:AD}{A:Bc}{E:Vq}{h:AJ}{g:A6 Fo}{d:IW}{t:Ag}{os:IL}{K:Fg}{e C dx:Ak}{f:An}{mA:An->Aq Ai}{v:Ai}
end
section
variable{X:Cx}{CL:ClA}{W:XW}{K:Fg}{H:Hp}{A:Ak->Prop}
end
theorem noF{P:Prop}(h:Ae=Aa):P:=nomatch h
structure Tc where
 sc:Cu
 N:Ac An
 /-- a def's name,its number,how many parameters it has -/
 fns:Ac (An×Ag×Ag)
 /-- built-in names that the text does not hide -/
 bl:Ac An
 /-- exceptions' classes by their names: those that are raised,all that are asked for -/
 rzs:Ac (An×Ag)
 exs:Ac (An×Ag)
 /-- the text's constants -/
 gls:Ac (An×Ag)
noncomputable def R8(T:Tc)(x:An):Al:=match T.sc.names.lookup x with
  |some .local=>Aa
  |some .cell=>Aa
  |some .free=>Aa
  |_=>Ae
noncomputable def KO(T:Tc)(x:An):Al:=match T.sc.names.lookup x with
  |some .local=>Aa
  |some .cell=>Aa
  |_=>Ae
noncomputable def glB(T:Tc)(x:An):Al:=T.sc.names.lookup x==Ab .globalImplicit
noncomputable def Sv:Ao->Aq (An×AX)
 |.Name x p=>Ab (x,p)
 |_=>Af
theorem oK{e:Ao}{t:An×AX}(h:Sv e=Ab t):e=.Name t.1 t.2:=by
 cases e with
 |Name x p=>cases h;rfl
 |_=>exact nomatch (show Af=Ab t from h)
noncomputable def Sy:Ao->Aq (Ao×Ac Ao×AX)
  | .Call f as ks p=>(match ks with
    |[]=>Ab (f,as,p)
    | _=>Af)
  |_=>Af
theorem oN{e:Ao}{t:Ao×Ac Ao×AX}(h:Sy e=Ab t):e=.Call t.1 t.2.1 [] t.2.2:=by
 cases e with
 |Call f as ks p=>
  cases ks with
  |nil=>cases h;rfl
  |cons=>exact nomatch (show Af=Ab t from h)
 |_=>exact nomatch (show Af=Ab t from h)
noncomputable def Su{α:Type}:Ac α->Aq (α×α)
 |[a,b]=>Ab (a,b)
 |_=>Af
theorem oJ{l:Ac α}{t:α×α}(h:Su l=Ab t):l=[t.1,t.2]:=by
 cases l with
 |nil=>exact nomatch (show Af=Ab t from h)
 |cons a l=>
  cases l with
  |nil=>exact nomatch (show Af=Ab t from h)
  |cons b l=>
   cases l with
   |nil=>cases h;rfl
   |cons=>exact nomatch (show Af=Ab t from h)
noncomputable def Sz:Ao->Aq (Ao×An×AX)
 |.Attribute o m p=>Ab (o,m,p)
 |_=>Af
theorem oO{e:Ao}{t:Ao×An×AX}(h:Sz e=Ab t):e=.Attribute t.1 t.2.1 t.2.2:=by
 cases e with
 |Attribute o m p=>cases h;rfl
 |_=>exact nomatch (show Af=Ab t from h)
noncomputable def xMt(e:Ao):Aq (An×An×Ao×Ao):=(Sy e).bind λc=>(Sz c.1).bind λa=>(Sv a.1).bind λx=>(Su c.2.1).bind λab=>if a.2.2.endLine=c.2.2.line then Ab (x.1,a.2.1,ab.1,ab.2) else Af
theorem WI{e y v:Ao}{m:An}(h:xMt e=Ab (x,m,y,v)):∃ p ap cp,e=.Call (.Attribute (.Name x p) m ap) [y,v] [] cp/\ap.endLine=cp.line:=by
 obtain⟨c,e1,h⟩:=Cd.mp h;obtain⟨a,e2,h⟩:=Cd.mp h;obtain⟨x',e3,h⟩:=Cd.mp h;obtain⟨ab,e4,h⟩:=Cd.mp h;by_cases hl:a.2.2.endLine=c.2.2.line
 .rw[AF hl]at h;cases h;rw[oN e1,oO e2,oK e3,oJ e4];exact⟨_,_,_,rfl,hl⟩
 .rw[AN hl]at h;cases h
noncomputable def Sw:Ao->Al
 |.Dict ks vs _=>ks.isEmpty&&vs.isEmpty
 |_=>Ae
theorem oM{e:Ao}(h:Sw e=Aa):∃ p,e=.Dict [] [] p:=by
 cases e with
 |Dict ks vs p=>
  cases ks with
  |nil=>
   cases vs with
   |nil=>exact⟨p,rfl⟩
   |cons=>exact nomatch (show Ae=Aa from h)
  |cons=>exact nomatch (show Ae=Aa from h)
 |_=>exact nomatch (show Ae=Aa from h)
noncomputable def MV(x:An):Al:=!(x==("__debug__" : An)) && !(x==("__classdict__" : An)) && !(x==("__name__" : An))
noncomputable def isV(T:Tc)(x:An)(i:Ag):Al:=T.N[i]? == Ab x&&R8 T x&&MV x
noncomputable def isB(T:Tc)(x:An):Al:=T.bl.contains x&&glB T x&&MV x
theorem FM{a b:Al}(h:(a&&b)=Aa):a=Aa/\b=Aa:=(Ap a b).mp h
theorem orT{a b:Al}(h:(a||b)=Aa):a=Aa\/b=Aa:=(C7 a b).mp h
noncomputable def Iy(e:Ao)(F:An->Al):Al:=if c:e.ctorIdx=23 then Zc (motive_1:=λ_=>Al) e c λx _=>F x else Ae
theorem Jf{e:Ao}{F:An->Al}(h:Iy e F=Aa):∃ x p,e=Zb x p/\F x=Aa:=by
 by_cases c:e.ctorIdx=23
 .exact Zc (motive_1:=λe=>Iy e F=Aa->∃ x p,e=Zb x p/\F x=Aa) e c (λx p h=>⟨x,p,rfl,h⟩) h
 .exact noF ((Cz c).symm.trans h)
noncomputable def LI(e:Ao)(F:Const->Al):Al:=if c:e.ctorIdx=19 then Y_6 (motive_1:=λ_=>Al) e c λc _ _=>F c else Ae
theorem NC{e:Ao}{F:Const->Al}(h:LI e F=Aa):∃ c u p,e=Y_5 c u p/\F c=Aa:=by
 by_cases c:e.ctorIdx=19
 .exact Y_6 (motive_1:=λe=>LI e F=Aa->∃ c u p,e=Y_5 c u p/\F c=Aa) e c (λc u p h=>⟨c,u,p,rfl,h⟩) h
 .exact noF ((Cz c).symm.trans h)
noncomputable def RC(e:Ao)(F:Ao->Gu->Ao->Al):Al:=if c:e.ctorIdx=2 then YY (motive_1:=λ_=>Al) e c λx o y _=>F x o y else Ae
theorem lK{e:Ao}{F:Ao->Gu->Ao->Al}(h:RC e F=Aa):∃ x o y p,e=YX x o y p/\F x o y=Aa:=by
 by_cases c:e.ctorIdx=2
 .exact YY (motive_1:=λe=>RC e F=Aa->∃ x o y p,e=YX x o y p/\F x o y=Aa) e c (λx o y p h=>⟨x,o,y,p,rfl,h⟩) h
 .exact noF ((Cz c).symm.trans h)
noncomputable def L5(e:Ao)(F:J7->Ao->Al):Al:=if c:e.ctorIdx=3 then Zk (motive_1:=λ_=>Al) e c λo x _=>F o x else Ae
theorem QX{e:Ao}{F:J7->Ao->Al}(h:L5 e F=Aa):∃ o x p,e=Zj o x p/\F o x=Aa:=by
 by_cases c:e.ctorIdx=3
 .exact Zk (motive_1:=λe=>L5 e F=Aa->∃ o x p,e=Zj o x p/\F o x=Aa) e c (λo x p h=>⟨o,x,p,rfl,h⟩) h
 .exact noF ((Cz c).symm.trans h)
noncomputable def LK(e:Ao)(F:BoolOp->Ac Ao->AX->Al):Al:=if c:e.ctorIdx=0 then Y_0 (motive_1:=λ_=>Al) e c λo xs p=>F o xs p else Ae
theorem Qz{e:Ao}{F:BoolOp->Ac Ao->AX->Al}(h:LK e F=Aa):∃ o xs p,e=YZ o xs p/\F o xs p=Aa:=by
 by_cases c:e.ctorIdx=0
 .exact Y_0 (motive_1:=λe=>LK e F=Aa->∃ o xs p,e=YZ o xs p/\F o xs p=Aa) e c (λo xs p h=>⟨o,xs,p,rfl,h⟩) h
 .exact noF ((Cz c).symm.trans h)
noncomputable def LJ(e:Ao)(F:Ao->Ac DR->Ac Ao->Al):Al:=if c:e.ctorIdx=15 then Y_4 (motive_1:=λ_=>Al) e c λx os ys _=>F x os ys else Ae
theorem Qy{e:Ao}{F:Ao->Ac DR->Ac Ao->Al}(h:LJ e F=Aa):∃ x os ys p,e=Y_3 x os ys p/\F x os ys=Aa:=by
 by_cases c:e.ctorIdx=15
 .exact Y_4 (motive_1:=λe=>LJ e F=Aa->∃ x os ys p,e=Y_3 x os ys p/\F x os ys=Aa) e c (λx os ys p h=>⟨x,os,ys,p,rfl,h⟩) h
 .exact noF ((Cz c).symm.trans h)
noncomputable def Oj(e:Ao)(F:Ao->Ac Ao->Ac Dy->AX->Al):Al:=if c:e.ctorIdx=16 then Y_2 (motive_1:=λ_=>Al) e c λf as ks p=>F f as ks p else Ae
theorem UY{e:Ao}{F:Ao->Ac Ao->Ac Dy->AX->Al}(h:Oj e F=Aa):∃ f as ks p,e=Y_1 f as ks p/\F f as ks p=Aa:=by
 by_cases c:e.ctorIdx=16
 .exact Y_2 (motive_1:=λe=>Oj e F=Aa->∃ f as ks p,e=Y_1 f as ks p/\F f as ks p=Aa) e c (λf as ks p h=>⟨f,as,ks,p,rfl,h⟩) h
 .exact noF ((Cz c).symm.trans h)
noncomputable def RD(e:Ao)(F:Ao->An->AX->Al):Al:=if c:e.ctorIdx=20 then YW (motive_1:=λ_=>Al) e c λo m p=>F o m p else Ae
theorem lL{e:Ao}{F:Ao->An->AX->Al}(h:RD e F=Aa):∃ o m p,e=YV o m p/\F o m p=Aa:=by
 by_cases c:e.ctorIdx=20
 .exact YW (motive_1:=λe=>RD e F=Aa->∃ o m p,e=YV o m p/\F o m p=Aa) e c (λo m p h=>⟨o,m,p,rfl,h⟩) h
 .exact noF ((Cz c).symm.trans h)
noncomputable def MS(e:Ao)(F:Ao->Ao->Al):Al:=if c:e.ctorIdx=21 then Zg (motive_1:=λ_=>Al) e c λx y _=>F x y else Ae
theorem Qx{e:Ao}{F:Ao->Ao->Al}(h:MS e F=Aa):∃ x y p,e=Zf x y p/\F x y=Aa:=by
 by_cases c:e.ctorIdx=21
 .exact Zg (motive_1:=λe=>MS e F=Aa->∃ x y p,e=Zf x y p/\F x y=Aa) e c (λx y p h=>⟨x,y,p,rfl,h⟩) h
 .exact noF ((Cz c).symm.trans h)
noncomputable def RQ(e:Ao)(F:Aq Ao->Aq Ao->Aq Ao->Al):Al:=if c:e.ctorIdx=26 then Ze (motive_1:=λ_=>Al) e c λl u s _=>F l u s else Ae
theorem kZ{e:Ao}{F:Aq Ao->Aq Ao->Aq Ao->Al}(h:RQ e F=Aa):∃ l u s p,e=Zd l u s p/\F l u s=Aa:=by
 by_cases c:e.ctorIdx=26
 .exact Ze (motive_1:=λe=>RQ e F=Aa->∃ l u s p,e=Zd l u s p/\F l u s=Aa) e c (λl u s p h=>⟨l,u,s,p,rfl,h⟩) h
 .exact noF ((Cz c).symm.trans h)
noncomputable def MR(e:Ao)(F:Ac Ao->Al):Al:=if c:e.ctorIdx=25 then Zi (motive_1:=λ_=>Al) e c λxs _ _=>F xs else Ae
theorem Qw{e:Ao}{F:Ac Ao->Al}(h:MR e F=Aa):∃ xs c p,e=Zh xs c p/\F xs=Aa:=by
 by_cases c:e.ctorIdx=25
 .exact Zi (motive_1:=λe=>MR e F=Aa->∃ xs c p,e=Zh xs c p/\F xs=Aa) e c (λxs c p h=>⟨xs,c,p,rfl,h⟩) h
 .exact noF ((Cz c).symm.trans h)
noncomputable def RA(e:Ao)(F:Ac Ao->Al):Al:=if c:e.ctorIdx=24 then Y_8 (motive_1:=λ_=>Al) e c λxs _=>F xs else Ae
theorem lE{e:Ao}{F:Ac Ao->Al}(h:RA e F=Aa):∃ xs p,e=Y_7 xs p/\F xs=Aa:=by
 by_cases c:e.ctorIdx=24
 .exact Y_8 (motive_1:=λe=>RA e F=Aa->∃ xs p,e=Y_7 xs p/\F xs=Aa) e c (λxs p h=>⟨xs,p,rfl,h⟩) h
 .exact noF ((Cz c).symm.trans h)
noncomputable def RB(e:Ao)(F:Ao->Ac Ju->Cu->Al):Al:=if c:e.ctorIdx=8 then Za (motive_1:=λ_=>Al) e c λx gs sc _=>F x gs sc else Ae
theorem lF{e:Ao}{F:Ao->Ac Ju->Cu->Al}(h:RB e F=Aa):∃ x gs sc p,e=Y_9 x gs sc p/\F x gs sc=Aa:=by
 by_cases c:e.ctorIdx=8
 .exact Za (motive_1:=λe=>RB e F=Aa->∃ x gs sc p,e=Y_9 x gs sc p/\F x gs sc=Aa) e c (λx gs sc p h=>⟨x,gs,sc,p,rfl,h⟩) h
 .exact noF ((Cz c).symm.trans h)
noncomputable def RE(e:Bp)(F:Ac Ao->Ao->Al):Al:=if c:e.ctorIdx=5 then ZJ (motive_2:=λ_=>Al) e c λts v _=>F ts v else Ae
theorem lO{e:Bp}{F:Ac Ao->Ao->Al}(h:RE e F=Aa):∃ ts v p,e=ZI ts v p/\F ts v=Aa:=by
 by_cases c:e.ctorIdx=5
 .exact ZJ (motive_2:=λe=>RE e F=Aa->∃ ts v p,e=ZI ts v p/\F ts v=Aa) e c (λts v p h=>⟨ts,v,p,rfl,h⟩) h
 .exact noF ((Cz c).symm.trans h)
noncomputable def Of(e:Bp)(F:Ao->Al):Al:=if c:e.ctorIdx=24 then ZL (motive_2:=λ_=>Al) e c λv _=>F v else Ae
theorem UX{e:Bp}{F:Ao->Al}(h:Of e F=Aa):∃ v p,e=ZK v p/\F v=Aa:=by
 by_cases c:e.ctorIdx=24
 .exact ZL (motive_2:=λe=>Of e F=Aa->∃ v p,e=ZK v p/\F v=Aa) e c (λv p h=>⟨v,p,rfl,h⟩) h
 .exact noF ((Cz c).symm.trans h)
noncomputable def RS(e:Bp)(F:Aq Ao->Al):Al:=if c:e.ctorIdx=3 then ZP (motive_2:=λ_=>Al) e c λo _=>F o else Ae
theorem lA{e:Bp}{F:Aq Ao->Al}(h:RS e F=Aa):∃ o p,e=ZO o p/\F o=Aa:=by
 by_cases c:e.ctorIdx=3
 .exact ZP (motive_2:=λe=>RS e F=Aa->∃ o p,e=ZO o p/\F o=Aa) e c (λo p h=>⟨o,p,rfl,h⟩) h
 .exact noF ((Cz c).symm.trans h)
noncomputable def OA(e:Bp)(F:Ao->Ac Bp->Ac Bp->Al):Al:=if c:e.ctorIdx=12 then ZN (motive_2:=λ_=>Al) e c λt xs ys _=>F t xs ys else Ae
theorem VO{e:Bp}(h:OA e F=Aa):∃ t xs ys p,e=Stmt.If t xs ys p/\F t xs ys=Aa:=by
 by_cases c:e.ctorIdx=12
 .exact ZN (motive_2:=λe=>OA e F=Aa->∃ t xs ys p,e=Stmt.If t xs ys p/\F t xs ys=Aa) e c (λt xs ys p h=>⟨t,xs,ys,p,rfl,h⟩) h
 .exact noF ((Cz c).symm.trans h)
noncomputable def Oe(e:Bp)(F:Ao->Ao->Ac Bp->Ac Bp->Al):Al:=if c:e.ctorIdx=9 then ZM (motive_2:=λ_=>Al) e c λt it xs ys _=>F t it xs ys else Ae
theorem UW{e:Bp}{F:Ao->Ao->Ac Bp->Ac Bp->Al}(h:Oe e F=Aa):∃ t it xs ys p,e=Stmt.For t it xs ys p/\F t it xs ys=Aa:=by
 by_cases c:e.ctorIdx=9
 .exact ZM (motive_2:=λe=>Oe e F=Aa->∃ t it xs ys p,e=Stmt.For t it xs ys p/\F t it xs ys=Aa) e c (λt it xs ys p h=>⟨t,it,xs,ys,p,rfl,h⟩) h
 .exact noF ((Cz c).symm.trans h)
noncomputable def RP(e:Bp)(F:Ao->Ac Bp->Ac Bp->Al):Al:=if c:e.ctorIdx=11 then ZR (motive_2:=λ_=>Al) e c λt xs ys _=>F t xs ys else Ae
theorem kY{e:Bp}(h:RP e F=Aa):∃ t xs ys p,e=ZQ t xs ys p/\F t xs ys=Aa:=by
 by_cases c:e.ctorIdx=11
 .exact ZR (motive_2:=λe=>RP e F=Aa->∃ t xs ys p,e=ZQ t xs ys p/\F t xs ys=Aa) e c (λt xs ys p h=>⟨t,xs,ys,p,rfl,h⟩) h
 .exact noF ((Cz c).symm.trans h)
noncomputable def N7{α:Type}:Ac α->(α->Ac α->Al)->Al
 |[],_=>Ae
 |x::xs,F=>F x xs
theorem Qb{l:Ac α}{F:α->Ac α->Al}(h:N7 l F=Aa):∃ x xs,l=x::xs/\F x xs=Aa:=by
 cases l with
 |nil=>exact noF h
 |cons x xs=>exact⟨x,xs,rfl,h⟩
theorem KB{l:Ac α}(h:l.isEmpty=Aa):l=[]:=List.isEmpty_iff.mp h
noncomputable def Gz{α:Type}(l:Ac α)(F:α->Al):Al:=N7 l λx r=>r.isEmpty&&F x
theorem Hx{l:Ac α}{F:α->Al}(h:Gz l F=Aa):∃ x,l=[x]/\F x=Aa:=by
 obtain⟨x,r,rfl,h⟩:=Qb h;obtain⟨h1,h2⟩:=FM h;exact⟨x,by rw[KB h1],h2⟩
noncomputable def ID{α:Type}(l:Ac α)(F:α->α->Al):Al:=N7 l λx r=>Gz r λy=>F x y
theorem Kt{l:Ac α}{F:α->α->Al}(h:ID l F=Aa):∃ x y,l=[x,y]/\F x y=Aa:=by
 obtain⟨x,r,rfl,h⟩:=Qb h;obtain⟨y,rfl,h⟩:=Hx h;exact⟨x,y,rfl,h⟩
noncomputable def KM(e:Ao)(F:An->Ac Ao->Al):Al:=Oj e λf as ks _=>Iy f λg=>ks.isEmpty&&F g as
theorem Ll{e:Ao}{F:An->Ac Ao->Al}(h:KM e F=Aa):∃ g p as q,e=.Call (.Name g p) as [] q/\F g as=Aa:=by
 obtain⟨f,as,ks,q,rfl,h⟩:=UY h;obtain⟨g,p,rfl,h⟩:=Jf h;obtain⟨h1,h2⟩:=FM h;exact⟨g,p,as,q,by rw[KB h1],h2⟩
noncomputable def Rb(e:Ao)(F:An->Ao->Ac Ao->Al):Al:=KM e λg l=>N7 l λx xs=>F g x xs
theorem TY{e:Ao}{F:An->Ao->Ac Ao->Al}(h:Rb e F=Aa):∃ g p x xs q,e=.Call (.Name g p) (x::xs) [] q/\F g x xs=Aa:=by
 obtain⟨g,p,as,q,rfl,h⟩:=Ll h;obtain⟨x,xs,rfl,h⟩:=Qb h;exact⟨g,p,x,xs,q,rfl,h⟩
noncomputable def RT(st:Bp)(F:An->An->Ac Ao->Al):Al:=Of st λe=>Oj e λf as ks cp=>RD f λo m ap=>Iy o λx=>ks.isEmpty&&(ap.endLine==cp.line&&F x m as)
theorem UV{st:Bp}{F:An->An->Ac Ao->Al}(h:RT st F=Aa):∃ x p m ap as cp q,st=.Expr (.Call (.Attribute (.Name x p) m ap) as [] cp) q/\ap.endLine=cp.line/\F x m as=Aa:=by
 obtain⟨e,q,rfl,h⟩:=UX h;obtain⟨f,as,ks,cp,rfl,h⟩:=UY h;obtain⟨o,m,ap,rfl,h⟩:=lL h;obtain⟨x,p,rfl,h⟩:=Jf h;obtain⟨h1,h⟩:=FM h;obtain⟨h2,h3⟩:=FM h;exact⟨x,p,m,ap,as,cp,q,by rw[KB h1],eq_of_beq h2,h3⟩
noncomputable def RF(st:Bp)(F:Ao->Ao->Al):Al:=RE st λts v=>Gz ts λt=>F t v
theorem UZ{st:Bp}{F:Ao->Ao->Al}(h:RF st F=Aa):∃ t v q,st=.Assign [t] v q/\F t v=Aa:=by
 obtain⟨ts,v,q,rfl,h⟩:=lO h;obtain⟨t,rfl,h⟩:=Hx h;exact⟨t,v,q,rfl,h⟩
noncomputable def W8(st:Bp)(F:An->Ao->Al):Al:=RF st λt v=>Iy t λx=>F x v
theorem lR{st:Bp}{F:An->Ao->Al}(h:W8 st F=Aa):∃ x p v q,st=.Assign [.Name x p] v q/\F x v=Aa:=by
 obtain⟨t,v,q,rfl,h⟩:=UZ h;obtain⟨x,p,rfl,h⟩:=Jf h;exact⟨x,p,v,q,rfl,h⟩
noncomputable def ON(e:Ao)(F:Ao->Ao->Ao->Ac Ao->Cu->Al):Al:=RB e λx gs sc=>Gz gs λg=>decide (g.is_async=0)&&F x g.target g.iter g.ifs sc
theorem VN{e:Ao}{F:Ao->Ao->Ao->Ac Ao->Cu->Al}(h:ON e F=Aa):∃ x t it ifs sc p,e=.ListComp x [⟨t,it,ifs,0⟩] sc p/\F x t it ifs sc=Aa:=by
 obtain⟨x,gs,sc,p,rfl,h⟩:=lF h;obtain⟨g,rfl,h⟩:=Hx h;obtain⟨t,it,ifs,a⟩:=g;obtain⟨h1,h2⟩:=FM h;have h1:a=0:=BA h1;subst h1;exact⟨x,t,it,ifs,sc,p,rfl,h2⟩
noncomputable def Oz(e:E)(F:E->Al):Al:=if c:e.ctorIdx=8 then E.no.elim (motive_1:=λ_=>Al) e c F else Ae
theorem tQ{e:E}{F:E->Al}(h:Oz e F=Aa):∃ a,e=E.no a/\F a=Aa:=by
 by_cases c:e.ctorIdx=8
 .exact E.no.elim (motive_1:=λe=>Oz e F=Aa->∃ a,e=E.no a/\F a=Aa) e c (λa h=>⟨a,rfl,h⟩) h
 .exact noF ((Cz c).symm.trans h)
noncomputable def Ol(e:E)(F:Es->Al):Al:=if c:e.ctorIdx=9 then E.and.elim (motive_1:=λ_=>Al) e c F else Ae
theorem lT{e:E}{F:Es->Al}(h:Ol e F=Aa):∃ es,e=E.and es/\F es=Aa:=by
 by_cases c:e.ctorIdx=9
 .exact E.and.elim (motive_1:=λe=>Ol e F=Aa->∃ es,e=E.and es/\F es=Aa) e c (λes h=>⟨es,rfl,h⟩) h
 .exact noF ((Cz c).symm.trans h)
noncomputable def Oy(e:E)(F:Es->Al):Al:=if c:e.ctorIdx=10 then E.or.elim (motive_1:=λ_=>Al) e c F else Ae
theorem tP{e:E}{F:Es->Al}(h:Oy e F=Aa):∃ es,e=E.or es/\F es=Aa:=by
 by_cases c:e.ctorIdx=10
 .exact E.or.elim (motive_1:=λe=>Oy e F=Aa->∃ es,e=E.or es/\F es=Aa) e c (λes h=>⟨es,rfl,h⟩) h
 .exact noF ((Cz c).symm.trans h)
noncomputable def Og(e:E)(F:DR->E->E->Al):Al:=if c:e.ctorIdx=11 then E.cmp.elim (motive_1:=λ_=>Al) e c F else Ae
theorem lH{e:E}{F:DR->E->E->Al}(h:Og e F=Aa):∃ o a b,e=E.cmp o a b/\F o a b=Aa:=by
 by_cases c:e.ctorIdx=11
 .exact E.cmp.elim (motive_1:=λe=>Og e F=Aa->∃ o a b,e=E.cmp o a b/\F o a b=Aa) e c (λo a b h=>⟨o,a,b,rfl,h⟩) h
 .exact noF ((Cz c).symm.trans h)
noncomputable def Oh(e:E)(F:DR->DR->E->E->E->Al):Al:=if c:e.ctorIdx=12 then E.cmp2.elim (motive_1:=λ_=>Al) e c F else Ae
theorem lI{e:E}{F:DR->DR->E->E->E->Al}(h:Oh e F=Aa):∃ o q a b c,e=E.cmp2 o q a b c/\F o q a b c=Aa:=by
 by_cases c:e.ctorIdx=12
 .exact E.cmp2.elim (motive_1:=λe=>Oh e F=Aa->∃ o q a b c,e=E.cmp2 o q a b c/\F o q a b c=Aa) e c (λo q a b c h=>⟨o,q,a,b,c,rfl,h⟩) h
 .exact noF ((Cz c).symm.trans h)
noncomputable def Oi(e:E)(F:BI->Es->Al):Al:=if c:e.ctorIdx=15 then E.bi.elim (motive_1:=λ_=>Al) e c F else Ae
theorem lJ{e:E}{F:BI->Es->Al}(h:Oi e F=Aa):∃ b as,e=E.bi b as/\F b as=Aa:=by
 by_cases c:e.ctorIdx=15
 .exact E.bi.elim (motive_1:=λe=>Oi e F=Aa->∃ b as,e=E.bi b as/\F b as=Aa) e c (λb as h=>⟨b,as,rfl,h⟩) h
 .exact noF ((Cz c).symm.trans h)
noncomputable def OP(e:E)(F:Al->Al):Al:=if c:e.ctorIdx=1 then E.bl.elim (motive_1:=λ_=>Al) e c F else Ae
theorem sG{e:E}{F:Al->Al}(h:OP e F=Aa):∃ b,e=E.bl b/\F b=Aa:=by
 by_cases c:e.ctorIdx=1
 .exact E.bl.elim (motive_1:=λe=>OP e F=Aa->∃ b,e=E.bl b/\F b=Aa) e c (λb h=>⟨b,rfl,h⟩) h
 .exact noF ((Cz c).symm.trans h)
noncomputable def Od(e:E):Al:=decide (e.ctorIdx=0)
theorem kQ{e:E}(h:Od e=Aa):e=.non:=E.non.elim (motive_1:=λe=>e=.non) e (BA h) rfl
noncomputable def DW:Ao->Al
 |.Starred _ _=>Ae
 |_=>Aa
noncomputable def NK:Ao->Al
 |.Slice _ _ _ _=>Ae
 |_=>Aa
noncomputable def MN:Ao->Al
 |.Set _ _ _=>Ae
 |_=>Aa
noncomputable def Lx:Ao->Al
 |.ListComp _ _ _ _=>Ae
 |.SetComp _ _ _ _=>Ae
 |.DictComp _ _ _ _ _=>Ae
 |_=>Aa
noncomputable def SG(tu:Al):Ao->Al
 |.Tuple ..=>tu
 |.Name ..=>!tu
 |_=>Ae
noncomputable def aX:Ao->Al
 |.Tuple _ _ _=>Aa
 |_=>Ae
noncomputable def Nm:Ao->Al
 |.UnaryOp _ _ _=>Ae
 |.BoolOp _ _ _=>Ae
 |.IfExp _ _ _ _=>Ae
 |.Compare _ _ _ _=>Ae
 |_=>Aa
noncomputable def RG:Ki->Aq An
 |.int=>Ab "int"
 |.bool=>Ab "bool"
 |.str=>Ab "str"
 |.list=>Ab "list"
 |.tuple=>Ab "tuple"
 |_=>Af
noncomputable def RH:BI->Aq An
 |.len=>Ab "len"
 |.abs=>Af
 |.max=>Ab "max"
 |.min=>Ab "min"
 |.int=>Af
 |.list=>Ab "list"
 |.tuple=>Ab "tuple"
 |.all=>Ab "all"
 |.any=>Ab "any"
 |.sum=>Ab "sum"
 |.sorted=>Af
 |.tmin=>Af
 |.tmax=>Af
 |_=>Af
noncomputable def Ry(o scope:Cu):Cu:={scope with names:=scope.names.map λ(n,k)=>if (k==.free&&o.kind==.function&&o.names.lookup n==Ab .cell) then (n,.cell) else (n,k)}
noncomputable def LV:Ac Ag->Ac An->Ac An->Ac An
 |t::ts,x::xs,N=>LV ts xs ((N.map λy=>if y==x then N.getD t x else y).set t x)
 |_,_,N=>N
noncomputable def MK:Ac An->Al
 |[]=>Aa
 |x::xs=>!xs.contains x&&MK xs
noncomputable def MW(T:Tc)(scope:Cu)(ts:Ac Ag)(N':Ac An):Al:=
  scope.kind==.function&&scope.names.all (λy=>scope.names.lookup y.1==Ab y.2) &&
  scope.names.all (λy=>y.2 != .free||T.sc.names.lookup y.1==Ab .cell||T.sc.names.lookup y.1==Ab .free) &&
  N'.length==T.N.length&&MK N' &&
  (AZ N'.length).all λi=>ts.contains i||(match N'[i]? with
    |some x=>(scope.names.lookup x != Ab .local&&scope.names.lookup x != Ab .cell)&&(scope.names.lookup x != Ab .free||T.N[i]? == Ab x)
    | none=>Aa)
noncomputable def Gy:Ac Ao->Aq (Ac An)
 |[]=>Ab []
 |.Name x _::r=>(Gy r).map (x :: ·)
 |_=>Af
noncomputable def tgN(ys:Ac Ao):Ac An:=(Gy ys).getD []
noncomputable def tgB(T:Tc):Ac Ag->Ac An->Al
 |[],[]=>Aa
 |t::ts,x::xs=>T.N[t]? == Ab x&&T.sc.names.lookup x==Ab .local&&tgB T ts xs
 |_,_=>Ae
noncomputable def tgO(T:Tc)(scope:Cu)(t:Ag)(x:An):Al:=T.N[t]? == Ab x&&(T.sc.names.lookup x==Ab .local||(T.sc.names.lookup x==Ab .cell&&scope.names.lookup x==Ab .cell))
noncomputable def tgC(T:Tc):Ac Ag->Ac An->Al
 |[],[]=>Aa
 |t::ts,x::xs=>T.N[t]? == Ab x&&KO T x&&tgC T ts xs
 |_,_=>Ae
noncomputable def Tc.blk(T:Tc)(scope:Cu)(ts:Ac Ag)(xs:Ac An):Tc:={T with sc:=Ry T.sc scope,N:=LV ts xs T.N}
noncomputable def OQ:E->Al
 |.lst _=>Aa
 |.comp _ _ _ _=>Aa
 |.compT _ _ _ _=>Aa
 |.bin .Add _ _=>Aa
 |.bi .list _=>Aa
 |.sl _ _ _=>Aa
 |_=>Ae
noncomputable def Oq:E->Aq E
  | .bi b as=>(match b with
    | .list=>(match as with
      | .cons x r=>(match r with
        | .nil=>(match x with
          | .bin op a c=>(match op with
            | .Add=>(match c with
              | .tup es=>(match es with
                |.nil=>Ab a
                | _=>Af)
              | _=>Af)
            | _=>Af)
          | _=>Af)
        | _=>Af)
      | .nil=>Af)
    | _=>Af)
  |_=>Af
theorem nN{e a:E}(q:Oq e=Ab a):e=.bi .list (.cons (.bin .Add a (.tup .nil)) .nil):=by
 unfold Oq at q
 repeat' split at q
 all_goals first|cases q;done|skip
 cases q;rfl
theorem sJ(Z:Gam){e:E}(h:OQ e=Aa):Do Z e=Aa:=by
 unfold OQ at h;split at h<;>first|rfl|cases h
noncomputable def SX:Ao->Aq (Ao×Ao×AX)
  | .Compare x ops ys p=>(match ops with
    | [.Lt]=>(match ys with
      |[y]=>Ab (x,y,p)
      | _=>Af)
    | _=>Af)
  |_=>Af
noncomputable def RZ(_:Es):Aq (E×E):=Af
noncomputable def R6(_:Tc)(_:Tc->Ao->E->Al)(_:Ao)(_:Ac DR)(_:Ac Ao)(_:BI)(_:Es):Al:=Ae
noncomputable def SN(T:Tc)(e:Ao)(b:BI)(as:Es):Al:=Ae
noncomputable def Rr:Ao->Aq (An×AX)
 |.Name x p=>Ab (x,p)
 |_=>Af
theorem Uv{e:Ao}{t:An×AX}(q:Rr e=Ab t):e=.Name t.1 t.2:=by
 cases e with
 |Name x p=>cases q;rfl
 |_=>cases q
noncomputable def Rs:Ao->Aq (Ao×Ac Ao×Ac Dy×AX)
 |.Call f as ks p=>Ab (f,as,ks,p)
 |_=>Af
theorem Ux{e:Ao}{t:Ao×Ac Ao×Ac Dy×AX}(q:Rs e=Ab t):e=.Call t.1 t.2.1 t.2.2.1 t.2.2.2:=by
 cases e with
 |Call f as ks p=>cases q;rfl
 |_=>cases q
noncomputable def cT:Ao->Aq (Ac Ao×Ag×AX)
 |.Tuple es k p=>Ab (es,k,p)
 |_=>Af
noncomputable def one{α:Type}:Ac α->Aq α
 |[a]=>Ab a
 |_=>Af
theorem zT{l:Ac α}{a:α}(q:one l=Ab a):l=[a]:=by
  match l,q with
  |[b],q=>cases q;rfl
noncomputable def MX(e:Ao):Aq (An×An×Ac Ao):=(Rs e).bind λc=>(Rr c.1).bind λg=>(one c.2.1).bind λa=>(Rs a).bind λd=>(Rr d.1).bind λh=>if (c.2.2.1.isEmpty&&d.2.2.1.isEmpty)=Aa then Ab (g.1,h.1,d.2.1) else Af
theorem uM{e:Ao}{h:An}{bs:Ac Ao}(q:MX e=Ab (g,h,bs)):∃ p p' pos pos',e=.Call (.Name g p) [.Call (.Name h p') bs [] pos'] [] pos:=by
 obtain⟨⟨f,as,ks,pos⟩,e1,q⟩:=Cd.mp q;obtain⟨⟨g',p⟩,e2,q⟩:=Cd.mp q;obtain⟨a,e3,q⟩:=Cd.mp q;obtain⟨⟨f',bs',ks',pos'⟩,e4,q⟩:=Cd.mp q;obtain⟨⟨h',p'⟩,e5,q⟩:=Cd.mp q;by_cases hk:(ks.isEmpty&&ks'.isEmpty)=Aa
 .rw[AF hk]at q;cases q;rw[Ap,HN,HN]at hk;obtain⟨rfl,rfl⟩:=hk;have x1:=Ux e1;have x2:=Uv e2;have x3:=zT e3;have x4:=Ux e4;have x5:=Uv e5;dsimp only at x1 x2 x3 x4 x5;subst x1 x2 x3 x4 x5;exact⟨_,_,_,_,rfl⟩
 .rw[AN hk]at q;cases q
noncomputable def Ot(e:Ao):Aq (An×An×Ao×Ao×Ao):=match MX e with
  | some (g,h,bs)=>(match bs with
    |[x,y,z]=>Ab (g,h,x,y,z)
    | _=>Af)
  |none=>Af
theorem uK{e:Ao}{h:An}{x y z:Ao}(q:Ot e=Ab (g,h,x,y,z)):∃ p p' pos pos',e=.Call (.Name g p) [.Call (.Name h p') [x,y,z] [] pos'] [] pos:=by
  unfold Ot at q;cases c:MX e with
  |none=>rw[c]at q;cases q
  |some t=>
    obtain⟨g',h',bs⟩:=t;rw[c]at q
    match bs,q,c with
    |[a,b,d],q,c=>cases q;exact uM c
noncomputable def Sq(e:Ao):Aq (An×An×Ao×Ao):=match MX e with
  | some (g,h,bs)=>(match bs with
    |[x,y]=>Ab (g,h,x,y)
    | _=>Af)
  |none=>Af
noncomputable def R4(_:Es):Aq (E×E):=Af
noncomputable def So(e:Ao):Aq (An×An×Ao):=match MX e with
  | some (g,h,bs)=>(match bs with
    |[x]=>Ab (g,h,x)
    | _=>Af)
  |none=>Af
noncomputable def R1(_:Es):Aq E:=Af
noncomputable def two(e:Ao):Aq (Ao×Ao):=(cT e).bind λt=>match t.1 with
  |[a,b]=>Ab (a,b)
  |_=>Af
noncomputable def O1(_:Es):Aq E:=Af
noncomputable def Se(_:Ao):Aq Ao:=Af
noncomputable def SH:Ao->Aq (Ao×Ad)
  | .Subscript v s _=>(match s with
    | .Slice lo hi st _=>(match lo with
      | some (.Constant (.int k) _ _)=>(match hi with
        | none=>(match st with
          |some (.Constant (.int j) _ _)=>if j=2 then Ab (v,k) else Af
          | _=>Af)
        | some _=>Af)
      | _=>Af)
    | _=>Af)
  |_=>Af
noncomputable def R0(_:Es):Aq (E×Ad):=Af
mutual
noncomputable def Bt:Ag->Tc->Ao->E->Al
  |0,_,_,_=>Ae
  |n+1,T,e,c=>match c with
    |.non=>LI e λc=>decide (c=.none)
    |.bl b=>LI e λc=>decide (c=.bool b)
    |.int i=>LI e λc=>decide (c=.int i)
    |.str x=>LI e λc=>decide (c=.str x)
    |.var i=>Iy e λx=>isV T x i
    |.glob g=>Ae
    |.bin op a b=>RC e λx op' y=>decide (op'=op)&&Bt n T x a&&Bt n T y b
    |.un op a=>L5 e λo x=>decide (o=.USub)&&(decide (op=.USub)&&Bt n T x a)
    |.no a=>L5 e λo x=>decide (o=.Not)&&Bt n T x a
    |.and es=>LK e λo xs _=>decide (o=.And)&&(chkEs n T xs es && !xs.isEmpty)
    |.or es=>LK e λo xs _=>decide (o=.Or)&&(chkEs n T xs es && !xs.isEmpty)
    |.cmp op a b=>LJ e λx os ys=>Gz os λop'=>Gz ys λy=>decide (op'=op) && !behindInMarks op y&&Bt n T x a&&Bt n T y b
    |.cmp2 op1 op2 a b c=>LJ e λx os ys=>ID os λo1 o2=>ID ys λy z=>decide (o1=op1)&&decide (o2=op2) && !lastMarks [op1,op2] [y,z]&&Bt n T x a&&Bt n T y b&&Bt n T z c
    |.ite c a b=>Ae
    |.call f as=>Rb e λg x xs=>(T.fns.any λp=>p.1==g&&p.2.1==f&&p.2.2==xs.length+1)&&decide (xs.length<900)&&glB T g&&MV g&&chkEs n T (x::xs) as
    |.bi b as=>(Rb e λg x xs=>RH b==Ab g&&isB T g&&chkEs n T (x::xs) as)||SN T e b as||(match R4 as with|some (a,c)=>(match Sq e with|some (g,h,x,y)=>decide (b=.list)&&g==("list" : An)&&h==("range" : An)&&isB T g&&isB T h&&DW x&&DW y&&Bt n T x a&&Bt n T y c|none=>Ae)|none=>Ae)||(match R0 as with|some (a,k)=>(match SH e with|some (x,j)=>decide (b=.stp)&&decide (j=k)&&decide (0<=k)&&Bt n T x a|none=>Ae)|none=>Ae)||(match R1 as with|some a=>(match So e with|some (g,h,x)=>decide (b=.lset)&&g==("len" : An)&&h==("set" : An)&&isB T g&&isB T h&&DW x&&Bt n T x a|none=>Ae)|none=>Ae)||(match RZ as with|some (a,c)=>(match SX e with|some (x,y,_)=>decide (b=.tlt) && !behindInMarks .Lt y&&Bt n T x a&&Bt n T y c|none=>Ae)|none=>Ae)||(match O1 as with|some a=>(match Se e with|some x=>decide (b=.rvs)&&Bt n T x a|none=>Ae)|none=>Ae)
    |.isi a ks=>Gz ks λk=>KM e λg l=>ID l λx t=>Iy t λt=>g==("isinstance" : An)&&isB T g&&RG k==Ab t&&isB T t&&DW x&&Bt n T x a
    |.idx a i=>MS e λx y=>NK y&&Bt n T x a&&Bt n T y i
    |.sl a lo hi=>MS e λx s=>RQ s λl h st=>st.isNone&&(Bt n T x a&&chkO n T l lo&&chkO n T h hi)
    |.tup es=>MR e λxs=>chkEs n T xs es&&decide (xs.length<=1000)
    |.lst es=>RA e λxs=>chkEs n T xs es&&decide (xs.length<=1000)
    |.comp elt t it c=>ON e λx tg iter ifs scope=>Iy tg λy=>chkI n T Ae iter it&&MN iter&&MW T scope [t] (LV [t] [y] T.N)&&tgO (T.blk scope [t] [y]) scope t y&&chkT n (T.blk scope [t] [y]) ifs c&&Bt n (T.blk scope [t] [y]) x elt
    |.compT elt ts it c=>ON e λx tg iter ifs scope=>MR tg λys=>(Gy ys).isSome&&chkI n T Aa iter it&&MN iter&&MW T scope ts (LV ts (tgN ys) T.N)&&tgB (T.blk scope ts (tgN ys)) ts (tgN ys)&&chkT n (T.blk scope ts (tgN ys)) ifs c&&Bt n (T.blk scope ts (tgN ys)) x elt
    |.tupI it=>(match it with | .zip3 a b c=>(match Ot e with|some (g,h,x,y,z)=>g==("tuple" : An)&&h==("zip" : An)&&isB T g&&isB T h&&DW x&&DW y&&DW z&&Bt n T x a&&Bt n T y b&&Bt n T z c|none=>Ae)|_=>Ae)
    |.dget i a c=>(match xMt e with|some (x,m,y,z)=>m==("get" : An)&&isV T x i&&DW y&&DW z&&Bt n T y a&&Bt n T z c|none=>Ae)
    |.fld _ _=>Ae
noncomputable def Ik:Ag->Tc->Ao->E->Al
 |0,_,_,_=>Ae
 |n+1,T,e,c=>(L5 e λo x=>decide (o=.Not)&&(Oz c λa=>Ik n T x a)) ||
  (LK e λo xs _=>(decide (o=.And)&&(Ol c λes=>chkBs n T xs es && !xs.isEmpty))||(decide (o=.Or)&&(Oy c λes=>chkBs n T xs es && !xs.isEmpty))) ||
  (LJ e λx os ys=>(Og c λop a b=>Gz os λop'=>Gz ys λy=>decide (op'=op) && !behindInMarks op y&&Bt n T x a&&Bt n T y b) ||
   (Oh c λop1 op2 a b c=>ID os λo1 o2=>ID ys λy z=>decide (o1=op1)&&decide (o2=op2) && !lastMarks [op1,op2] [y,z]&&Bt n T x a&&Bt n T y b&&Bt n T z c) ||
   (Oi c λb as=>R6 T (Bt n) x os ys b as)) ||
  Nm e&&Bt n T e c
noncomputable def chkBs:Ag->Tc->Ac Ao->Es->Al
  |0,_,_,_=>Ae
  |n+1,T,xs,es=>match xs,es with
    |[],.nil=>Aa
    |x::xs,.cons e es=>Ik n T x e&&chkBs n T xs es
    |_,_=>Ae
noncomputable def chkEs:Ag->Tc->Ac Ao->Es->Al
  |0,_,_,_=>Ae
  |n+1,T,xs,es=>match xs,es with
    |[],.nil=>Aa
    |x::xs,.cons e es=>DW x&&Bt n T x e&&chkEs n T xs es
    |_,_=>Ae
noncomputable def chkO:Ag->Tc->Aq Ao->E->Al
  |0,_,_,_=>Ae
  |n+1,T,x,e=>match x with
    |none=>Od e
    |some x=>!(Od e)&&Bt n T x e
noncomputable def chkT:Ag->Tc->Ac Ao->E->Al
  |0,_,_,_=>Ae
  |n+1,T,xs,e=>match xs with
    |[]=>OP e λb=>b
    |x::r=>r.isEmpty&&Ik n T x e
noncomputable def chkI:Ag->Tc->Al->Ao->I->Al
  |0,_,_,_,_=>Ae
  |n+1,T,tu,e,i=>match i with
    |.e a=>Bt n T e a
    |.rng a=>KM e λg l=>Gz l λx=>g==("range" : An)&&isB T g&&DW x&&Bt n T x a
    |.enm a=>KM e λg l=>Gz l λx=>tu&&g==("enumerate" : An)&&isB T g&&DW x&&Bt n T x a
    |.zip a b=>KM e λg l=>ID l λx y=>tu&&g==("zip" : An)&&isB T g&&DW x&&DW y&&Bt n T x a&&Bt n T y b
    |.rng2 a b=>KM e λg l=>ID l λx y=>g==("range" : An)&&isB T g&&DW x&&DW y&&Bt n T x a&&Bt n T y b
    |.zip3 a b c=>Ae
end
noncomputable def XH(_:Ag)(_:Tc)(_:Ag)(_:Ac Bp)(_:Ss):Al:=Ae
noncomputable def fN:E->Al
  | .bi b as=>(match b,as with
    |.len,.nil=>Aa
    | _,_=>Ae)
  |_=>Ae
noncomputable def fM:S->Al
 |.expr e=>fN e
 |_=>Ae
noncomputable def OD:Ss->Al
 |.cons s _=>fM s
 |.nil=>Ae
mutual
noncomputable def KQ:Ag->Tc->Bp->S->Al
  |0,_,_,_=>Ae
  |n+1,T,st,s=>match s with
    |.pass=>Ae
    |.brk=>Ae
    |.cont=>Ae
    |.asg i _ e=>W8 st λx v=>T.N[i]? == Ab x&&KO T x&&Bt n T v e
    |.asgT ts e=>Ae
    |.expr e=>Of st λv=>Lx v&&Bt n T v e
    |.ret e=>RS st λo=>match o with|some v=>Bt n T v e|none=>Ae
    |.retN=>Ae
    |.ife c a b=>OA st λt xs ys=>Ik n T t c&&chkSs n T xs a&&chkSs n T ys b
    |.lnd c a b=>OA st λt xs ys=>Ik n T t c&&chkSs n T xs a&&chkSs n T ys b
    |.fors t it body=>Oe st λtg iter xs ys=>ys.isEmpty&&(Iy tg λx=>tgC T [t] [x]&&MN iter&&chkI n T Ae iter it&&chkSs n T xs body)
    |.forT ts it body=>Oe st λtg iter xs zs=>zs.isEmpty&&(MR tg λys=>(Gy ys).isSome&&tgC T ts (tgN ys)&&MN iter&&chkI n T Aa iter it&&chkSs n T xs body)
    |.whl c body=>RP st λt xs ys=>ys.isEmpty&&(Ik n T t c&&chkSs n T xs body)
    |.rais c as=>!(T.rzs.any λp=>p.2==c)
    |.tryx _ _ _ _=>Ae
    |.try2 _ _ _ _ _ _ _=>Ae
    |.app i e=>RT st λx m l=>Gz l λv=>m==("append" : An)&&isV T x i&&DW v&&Bt n T v e
    |.ext i e=>RT st λx m l=>Gz l λv=>m==("extend" : An)&&isV T x i&&DW v&&(OQ e&&Bt n T v e||(match Oq e with|some a=>Bt n T v a|none=>Ae))
    |.rev i=>Ae
    |.clr i=>Ae
    |.put i k e=>RF st λt v=>MS t λo y=>Iy o λx=>isV T x i&&NK y&&Bt n T y k&&Bt n T v e
    |.swp _ _ _=>Ae
    |.apop _ _ _=>Ae
    |.ins i k e=>Ae
    |.dnw i=>(match st with | .Assign [.Name x _] v _=>T.N[i]? == Ab x&&KO T x&&Sw v|_=>Ae)
    |.dput i k e=>(match st with | .Assign [.Subscript (.Name x _) y _] v _=>isV T x i&&NK y&&Bt n T y k&&Bt n T v e|_=>Ae)
    |.dsd i k e=>(match st with | .Expr w _=>(match xMt w with|some (x,m,y,v)=>m==("setdefault" : An)&&isV T x i&&DW y&&DW v&&Bt n T y k&&Bt n T v e|none=>Ae)|_=>Ae)
    |.rel _=>Ae
noncomputable def chkSs:Ag->Tc->Ac Bp->Ss->Al
  |0,_,_,_=>Ae
  | n+1,T,sts,ss=>(match ss with
    |.nil=>sts.isEmpty
    |.cons (.rel i) ss=>chkSs n T sts ss
    | .cons s ss=>(match sts with
      |st::r=>KQ n T st s&&chkSs n T r ss
      | []=>Ae))||OD ss
end
noncomputable def Ii(fuel:Ag)(hot:Al)(fns:Ac (An×Ag×Ag))(bl:Ac An)(rzs exs gls:Ac (An×Ag))(ps N:Ac An)(st:Bp)(df:Df):Al:=
  let sc:=GS st
  sc.kind==.function && !sc.isCoroutine && !sc.isGenerator&&MK N&&N.take ps.length==ps&&ps.all (λx=>sc.names.lookup x==Ab .local||sc.names.lookup x==Ab .cell)&&sc.names.all (λy=>y.2 != .free)&&N.length==df.n &&
  (match hot with
  |true=>XH fuel ⟨sc,N,fns,bl,rzs,exs,gls⟩ 0 (HY st) df.body
  | false=>chkSs fuel ⟨sc,N,fns,bl,rzs,exs,gls⟩ (HY st) df.body)
structure XT (up:Ag->Ac Ag) (xn:Ag->Ac D->R Ex) (CL:ClA) (rzs exs:Ac (An×Ag)) (K:Fg) (mg:An->Aq Ai):Prop where
 xc:∀ c C,CL c=Ab C->XcOk K C
 rz:∀ p∈rzs,∃ C,CL p.2=Ab C/\mg p.1=Ab (.ref C)
 ex:∀ p∈exs,∃ C,mg p.1=Ab (.ref C)/\jb K CL up p.2 C/\∀ c D,CL c=Ab D->Z_2 K (.ref D) (.ref C)=Ab ((up c).contains p.2)
 made:∀ c C ds,CL c=Ab C->xn c ds=.bad\/(xn c ds=.ok ⟨c,[]⟩/\LU K C Af=Aa)\/Bu
 nf:∀ c C,CL c=Ab C->∀ f:An,(f==("triple" : An)||f==("points" : An))=Aa->MT K C=Aa/\CZ K (.ref C) f=Ab Af
 xb:∀ c,(∀ p∈rzs,p.2≠c)->∀ ds,xn c ds=.bad
def O2(K:Fg)(mg:An->Aq Ai)(CL:ClA)(x:An)(d:D):Prop:=∃ u v,mg x=Ab u/\BP v u/\∀ H A,Rep K CL H A v d
structure VX (Z:Gam) (CL:ClA) (k:Ag) (W:XW) (T:Tc) (X:Cx):Prop where
 sc:X.env.scope=T.sc
 kd:T.sc.kind=.function
 N:X.N=T.N
 nd:T.N.Nodup
 calm:X.calm=Aa
 room:Room k X.A
 bl:∀ x,x∈T.bl->X.mg x=Af
 fn:∀ p∈T.fns,∃ f fd ps,X.mg p.1=Ab (.ref f)/\DO X.K (.ref f)=Aa/\IB X.K fd ps []/\ps.length=p.2.2%1000/\(p.2.2<1000->FnOk X.prog X.w X.K X.mg X.base (CXR X.prog X.w) k f fd ps (spD X.K CL (p.2.2%1000) (Z.fr p.2.1) (Z.F p.2.1)))/\(1000<=p.2.2->HotOk X.prog X.w X.K X.mg X.base k f fd ps (spH X.K CL (p.2.2%1000) (Z.fr p.2.1) (Z.F p.2.1)))
 own:Fj (model X.prog X.w) X.A X.env X.xe
 px:∀ A,LC (CXR X.prog X.w) X (EKW X.K CL A W)
 rz:OU X CL W
 xt:XT Z.up Z.xn CL T.rzs T.exs X.K X.mg
 gl:∀ p∈T.gls,O2 X.K X.mg CL p.1 (Z.G p.2)
theorem WA:∀ A,LC (CXR X.prog X.w) X (EKW X.K CL A W0):=λA pI U H s ev s' I h=>by
 obtain⟨e,T,cls,dx,H',_,_,_,_,_,_,_,_,_,_,x,_,w⟩:=h;exact w.elim
theorem Sd:OU X CL W0:=λ_ _ _ _ _ _ _ _ _ _ _ _ _ _ z=>z.elim
def Rf{α:Type}(g f:Rho->R α):Prop:=∀ Y,g Y=.bad\/g Y=f Y
section
variable{X:Cx}{CL:ClA}{W:XW}{a:Ao}{f g:Rho->R D}
theorem SE.ref(h:SE X CL W a f)(r:Rf g f):SE X CL W a g:=λA=>PE.weak (h A) λU H Q ⟨hA,Y,q,p⟩=>⟨hA,Y,q,by
 rcases r Y with e|e
 .rw[e]at p;exact p.elim
 .rw[e]at p;exact p⟩
theorem SB.ref{f g:Rho->R Al}(h:SB X CL W a f)(r:Rf g f):SB X CL W a g:=λA=>PT.weak (h A) λU H Q ⟨hA,Y,q,p⟩=>⟨hA,Y,q,by
 rcases r Y with e|e
 .rw[e]at p;exact p.elim
 .rw[e]at p;exact p⟩
theorem SW.ref{f g:Rho->R Al}(h:SW X CL W a f)(r:Rf g f):SW X CL W a g:=λA=>PW.weak (h A) λU H Q ⟨hA,Y,q,p⟩=>⟨hA,Y,q,by
 rcases r Y with e|e
 .rw[e]at p;exact p.elim
 .rw[e]at p;exact p⟩
theorem SC.ref(h:SC X CL W fr a f)(r:Rf g f):SC X CL W fr a g:=λA=>PE.weak (h A) λU H Q ⟨hA,Y,q,p⟩=>⟨hA,Y,q,by
 rcases r Y with e|e
 .rw[e]at p;exact p.elim
 .rw[e]at p;exact p⟩
theorem SS.ref{st:Bp}{f g:Rho->O}(h:SS X CL W st f)(r:∀ Y,g Y=.bad\/g Y=f Y):SS X CL W st g:=λFz B=>PS.weak (h Fz B) λD U H ⟨Y,x,p⟩=>⟨Y,x,by
 rcases r Y with e|e
 .rw[e]at p;exact p.elim
 .rw[e]at p;exact p⟩
end
theorem Nn:∀{l:Ac An},MK l=Aa->l.Nodup
 |[],_=>DM
 |x::xs,h=>by
  unfold MK at h;simp only[Ap,BU,Ye,ES]at h;exact BJ.mpr ⟨h.1,Nn h.2⟩
section
variable{T:Tc}{X:Cx}{Z:Gam}{CL:ClA}{k:Ag}{W:XW}
theorem oP(h:R8 T x=Aa):Vis T.sc x:=by
 unfold R8 at h;split at h
 .exact .inl (by assumption)
 .exact .inr (.inl (by assumption))
 .exact .inr (.inr (by assumption))
 .cases h
theorem NM(h:KO T x=Aa):Loc T.sc x:=by
 unfold KO at h;split at h
 .exact .inl (by assumption)
 .exact .inr (by assumption)
 .cases h
theorem QY(h:MV x=Aa):(x==("__debug__" : An))=Ae/\(x==("__classdict__" : An))=Ae/\x≠"__name__" := by
 unfold MV at h;simp only[Ap,BU]at h;exact⟨h.1.1,h.1.2,λe=>by subst e;exact absurd h.2 (by simp)⟩
theorem Iz{i:Ag}(v:VX Z CL k W T X)(h:isV T x i=Aa):PE X (.Name x pos) (HE i):=by
 unfold isV at h;simp only[Ap,BK]at h;obtain⟨h2,h3,_⟩:=QY h.2;exact ao (by rw[v.N];exact h.1.1) (by rw[v.sc];exact oP h.1.2) h2 h3
theorem Ji(v:VX Z CL k W T X)(h:isB T x=Aa):Gl X x/\X.mg x=Af/\x≠"__name__"/\(x==("__debug__" : An))=Ae:=by
 unfold isB glB at h;simp only[Ap,BK,Ye,Bj]at h;obtain⟨h2,h3,h4⟩:=QY h.2;exact⟨by show X.env.scope.names.lookup x=_;rw[v.sc];exact h.1.2,v.bl x h.1.1,h4,h2⟩
theorem CI{x:Ao}(h:DW x=Aa):AB (x::xs) env=(Ae,eval x env)::AB xs env:=by
 cases x<;>first|rfl|cases h
theorem jV{y:Ao}(h:NK y=Aa):QU y:=by
 intro o i;cases y<;>first|rfl|cases h
theorem NU{e:Ao}(h:MN e=Aa):∀ x,Dr e env x=pure x:=by
 intro x;cases e<;>first|rfl|cases h
theorem V3{e:Ao}{t:Aq Ao}(h:Lx e=Aa):DQ e t l env=pure Ae:=by
 cases e<;>first|rfl|cases h
theorem pF{e:Ao}(h:Nm e=Aa):∀ whole,IP e env whole=(do let v <-whole;IS e.pos;holding [v] (truthy v)):=by
 intro whole;cases e<;>first|rfl|cases h
theorem iB(v:VX Z CL k W T X)(scope:Cu):relabel scope X.env=Ry T.sc scope:=by
 unfold relabel Ry;have:∀ n,X.env.kindOf n=T.sc.names.lookup n:=λn=>by show X.env.scope.names.lookup n=_;rw[v.sc]
 simp only[this,v.sc]
theorem Ro{N':Ac An}(v:VX Z CL k W T X)(h:MW T scope ts N'=Aa):BlockOk X scope N' ts/\N'.Nodup/\scope.kind=.function:=by
 unfold MW at h;simp only[Ap,BK,Gq,C7,K3,ne_eq]at h;obtain⟨⟨⟨⟨⟨h1,h2⟩,h4⟩,h5⟩,h6⟩,h7⟩:=h;have at7:∀ i x,N'[i]?=Ab x->i∈ts\/((scope.names.lookup x≠Ab .local/\scope.names.lookup x≠Ab .cell)/\(scope.names.lookup x≠Ab .free\/T.N[i]?=Ab x)):=λi x e=>by
  have hi:=(Bf.mp e).1;have:=h7 i (A5.mpr hi);rcases this with z|z
  .exact .inl (by simpa using z)
  .rw[e]at z;simp only[Ap,K3,ne_eq,C7,BK]at z;exact .inr z
 refine⟨⟨h1,h2,λy hy hl=>by rw[h2 y hy,hl],λy hy hf=>?_,by rw[v.N];exact h5,λi x e hf hn=>?_,λi x e hl=>?_⟩,Nn h6,h1⟩
 .rw[v.sc];rcases h4 y hy with (z|z)|z
  .exact absurd hf z
  .exact .inl z
  .exact .inr z
 .rw[v.N];rcases at7 i x e with z|⟨_,z⟩
  .exact absurd z hn
  .exact z.resolve_left λq=>q hf
 .rcases at7 i x e with z|⟨z,_⟩
  .exact z
  .exact hl.elim (λq=>absurd q z.1) (λq=>absurd q z.2)
theorem VX.blk{xs:Ac An}{cl:Ac (An×Ak)}{s:As}{fp:Ac Ak}(v:VX Z CL k W T X)(h:MW T scope ts (LV ts xs T.N)=Aa):VX Z CL k W0 (T.blk scope ts xs) (cxC X scope cl C (LV ts xs T.N) s H fp):=by
 obtain⟨_,h2,h3⟩:=Ro v h;exact⟨iB v scope,h3,rfl,h2,v.calm,v.room,v.bl,v.fn,PassesOwn.never,WA,Sd,v.xt,v.gl⟩
theorem oY{t:Ag}(v:VX Z CL k W T X)(hfn:scope.names.lookup x=Ab .cell->X.fn x=Aa)(h:tgO T scope t x=Aa):PG X (.Name x pos) (F8 t):=by
 unfold tgO at h;simp only[Ap,C7,BK]at h;rcases h with ⟨h1,h2|h2⟩
 .exact Mx (by rw[v.N];exact v.nd) (by rw[v.N];exact h1) (by rw[v.sc];exact .inl h2) (.inr (by rw[v.sc];exact h2))
 .exact Mx (by rw[v.N];exact v.nd) (by rw[v.N];exact h1) (by rw[v.sc];exact .inr h2.1) (.inl (hfn h2.2))
theorem Pj{y:Ao}{r:Ac Ao}{zs:Ac An}(h:Gy (y::r)=Ab zs):∃ x p ws,y=.Name x p/\Gy r=Ab ws/\zs=x::ws:=by
 cases y with
 |Name x p=>
  have h':(Gy r).map (x :: ·)=Ab zs:=h;cases e:Gy r with
  |none=>rw[e]at h';cases h'
  |some ws=>rw[e]at h';cases h';exact⟨x,p,ws,rfl,rfl,rfl⟩
 |_=>cases h
theorem PX(x:An)(p:AX)(r:Ac Ao)(env:C9):DJ (.Name x p::r) env=(Ae,assign (.Name x p) env)::DJ r env:=rfl
theorem Ta:∀(ys:Ac Ao)(zs:Ac An),Gy ys=Ab zs->(DJ ys env).length=ys.length/\(DJ ys env).findIdx? (·.1)=Af/\(DJ ys env).map (·.2)=ys.map λy=>assign y env:=by
 intro ys
 induction ys with
 |nil=>intro _ _;exact⟨rfl,rfl,rfl⟩
 |cons y r ih=>
  intro zs h;obtain⟨x,p,ws,rfl,e,rfl⟩:=Pj h;obtain⟨h1,h2,h3⟩:=ih ws e;rw[PX];refine⟨?_,?_,?_⟩
  .rw[Bl,Bl,h1]
  .rw[List.findIdx?_cons,h2];simp
  .rw[Bm,Bm,h3]
theorem pE(v:VX Z CL k W T X):∀(ys:Ac Ao)(ts:Ac Ag)(zs:Ac An),Gy ys=Ab zs->tgB T ts zs=Aa->PGs X ys (ts.foldr (λt u=>Jn (F8 t) u) Jr)/\ts.length=ys.length:=by
 intro ys
 induction ys with
 |nil=>
  intro ts zs e h;cases e;cases ts with
  |nil=>exact⟨VF,rfl⟩
  |cons t ts=>cases h
 |cons y r ih=>
  intro ts zs e h;obtain⟨x,p,ws,rfl,e2,rfl⟩:=Pj e;cases ts with
  |nil=>cases h
  |cons t ts=>
   have h':(T.N[t]? == Ab x&&T.sc.names.lookup x==Ab .local&&tgB T ts ws)=Aa:=h;simp only[Ap,BK]at h';obtain⟨h1,h2⟩:=ih ts ws e2 h'.2;exact⟨US (Mx (by rw[v.N];exact v.nd) (by rw[v.N];exact h'.1.1) (by rw[v.sc];exact .inl h'.1.2) (.inr (by rw[v.sc];exact h'.1.2))) h1 (by rw[PX];rfl),congrArg (· + 1) h2⟩
theorem pC(v:VX Z CL k W T X)(hn:(Gy ys).isSome=Aa)(h:tgB T ts (tgN ys)=Aa):PG X (.Tuple ys kk pos) (MU X.K ts.length (ts.foldr (λt u=>Jn (F8 t) u) Jr)):=by
 cases e:Gy ys with
 |none=>rw[e]at hn;cases hn
 |some zs=>
  have e2:tgN ys=zs:=by unfold tgN;rw[e];rfl
  rw[e2]at h;obtain⟨h1,h2⟩:=pE v ys ts zs e h;obtain⟨h3,h4,_⟩:=Ta (env:=X.env) ys zs e;exact Wx v.calm h1 (by rw[h3,h2]) h4
end
noncomputable def Es.len:Es->Ag
 |.nil=>0
 |.cons _ es=>es.len+1
theorem QN(Z:Gam)(Y:Rho):∀(es:Es)(ds:Ac D),evA Z Y es=.ok ds->ds.length=es.len
 |.nil,ds,h=>by cases h;rfl
 |.cons e es,ds,h=>by
  obtain⟨x,h1,h2⟩:=Kn (UF Z Y e es ▸ h);obtain⟨xs,h3,h4⟩:=Kn h2;cases h4;exact congrArg (· + 1) (QN Z Y es xs h3)
theorem Vr(Z:Gam)(Y:Rho):∀(es:Es)(ds:Ac D),evB Z Y es=.ok ds->ds.length=es.len
 |.nil,ds,h=>by cases h;rfl
 |.cons e es,ds,h=>by
  obtain⟨x,h1,h2⟩:=Kn (UE Z Y e es ▸ h);obtain⟨xs,h3,h4⟩:=Kn h2;cases h4;exact congrArg (· + 1) (Vr Z Y es xs h3)
theorem Wl(Z:Gam)(Y:Rho)(e:E)(h:shE Y e=Aa):top Y e (evE Z Y e)=evE Z Y e:=by
 cases e with
 |var i=>
  show EN Y i=Gb Y i;have h':shV Y i=Aa:=h;unfold shV at h';unfold EN Gb;cases q:Y[i]? with
  |none=>rfl
  |some x=>
   cases x with
   |none=>rfl
   |some y=>
    obtain⟨d,o⟩:=y;cases o with
    |true=>rw[q]at h';cases h'
    |false=>rfl
 |_=>rfl
theorem WJ(Z:Gam)(Y:Rho):∀(es:Es),JY Y es=Aa->evB Z Y es=evA Z Y es
 |.nil,_=>rfl
 |.cons e es,h=>by
  simp only[gN,Ap]at h;rw[UF,UE,Wl Z Y e h.1,WJ Z Y es h.2]
theorem Q7(Z:Gam)(c:E):Rf (λY=>evE Z Y c) (λY=>top Y c (evE Z Y c)):=λY=>by
 by_cases h:shE Y c=Aa
 .exact .inr (Wl Z Y c h).symm
 .cases c with
  |var i=>
   refine .inl ?_;show Gb Y i=.bad;have h':¬ shV Y i=Aa:=h;unfold shV at h';unfold Gb;cases q:Y[i]? with
   |none=>rfl
   |some x=>
    cases x with
    |none=>rfl
    |some y=>
     obtain⟨d,o⟩:=y;cases o with
     |true=>rfl
     |false=>rw[q]at h';exact absurd rfl h'
  |_=>exact absurd rfl h
def Pcs(X:Cx)(CL:ClA)(W:XW)(e:Ao)(f:Rho->R D):Prop:=∃ tg iter elt ifs scope pos N' ts fi fc fe as g,e=.ListComp elt [⟨tg,iter,ifs,0⟩] scope pos/\BlockOk X scope N' ts/\SI X CL W tg iter fi/\GG X.K CL ts as g /\
 (∀ cl C s H fp,PG (cxC X scope cl C N' s H fp) tg g)/\(∀ cl C s H fp,STs (cxC X scope cl C N' s H fp) CL ifs fc)/\(∀ cl C s H fp,SE (cxC X scope cl C N' s H fp) CL W0 elt fe)/\(∀ x,Dr iter X.env x=pure x) /\
 ∀ Y,f Y=(fi Y).bind λxs=>(noX (BR (λx=>(as x Y).bind fc) (λx=>(as x Y).bind fe) xs)).bind λys=>.ok (.lst ys)
theorem Pcs.sc{W:XW}{e:Ao}{f:Rho->R D}(hc:X.calm=Aa)(h:Pcs X CL W e f):SC X CL W Aa e f:=by
 obtain⟨tg,iter,elt,ifs,scope,pos,N',ts,fi,fc,fe,as,g,rfl,B,hi,hGG,hg,ht,he,hs,ef⟩:=h;exact SC.congr (rK hc B hi hGG hg ht he hs) ef
structure OkE (Z:Gam) (CL:ClA) (W:XW) (X:Cx) (e:Ao) (c:E):Prop where
 se:SE X CL W e (λY=>evE Z Y c)
 st:ST X CL W e (λY=>top Y c (evE Z Y c))
 nw:Do Z c=Aa->SC X CL W Aa e (λY=>evE Z Y c)
 cp:Lx e=Ae->Pcs X CL W e (λY=>evE Z Y c)
section
variable{Z:Gam}{CL:ClA}{W:XW}{X:Cx}{e:Ao}{c:E}
theorem EL(h:SE X CL W e (λY=>evE Z Y c))(ht:∀ Y r,top Y c r=r)(hn:Do Z c=Ae)(hc:Lx e=Aa):OkE Z CL W X e c:=
 ⟨h,by simp only[ht];exact h.st,λz=>absurd z (by rw[hn];decide),λz=>absurd z (by rw[hc];decide)⟩
theorem Rc(h:SC X CL W Aa e (λY=>evE Z Y c))(ht:∀ Y r,top Y c r=r)(hc:Lx e=Aa):OkE Z CL W X e c:=
 ⟨h.se,by simp only[ht];exact h.se.st,λ_=>h,λz=>absurd z (by rw[hc];decide)⟩
theorem W9(hc:X.calm=Aa)(h:Pcs X CL W e (λY=>evE Z Y c))(ht:∀ Y r,top Y c r=r):OkE Z CL W X e c:=
 ⟨(h.sc hc).se,by simp only[ht];exact(h.sc hc).se.st,λ_=>h.sc hc,λ_=>h⟩
end
theorem cR{k:Ki}(h:RG k=Ab x):∃ T,tyK k=Ab T/\DE x=Ab (.type T):=by
 cases k<;>simp only[RG]at h<;>cases h
 .exact⟨_,rfl,PyProof.Rows.boot_int⟩
 .exact⟨_,rfl,PyProof.Rows.boot_bool⟩
 .exact⟨_,rfl,PyProof.Rows.boot_str⟩
 .exact⟨_,rfl,YF⟩
 .exact⟨_,rfl,F4⟩
structure Snd (Z:Gam) (CL:ClA) (k:Ag) (n:Ag):Prop where
 e:∀(W:XW)(T:Tc)(X:Cx)(x:Ao)(c:E),VX Z CL k W T X->Bt n T x c=Aa->OkE Z CL W X x c
 b:∀(W:XW)(T:Tc)(X:Cx)(x:Ao)(c:E),VX Z CL k W T X->Ik n T x c=Aa->SB X CL W x (λY=>(top Y c (evE Z Y c)).bind CH)
 bs:∀(W:XW)(T:Tc)(X:Cx)(xs:Ac Ao)(es:Es)(pos:AX),VX Z CL k W T X->chkBs n T xs es=Aa->xs≠[]->SW X CL W (.BoolOp .And xs pos) (λY=>(evN Z Y es).bind CH)/\SW X CL W (.BoolOp .Or xs pos) (λY=>(evO Z Y es).bind CH)
 es:∀(W:XW)(T:Tc)(X:Cx)(xs:Ac Ao)(es:Es),VX Z CL k W T X->chkEs n T xs es=Aa->SA X CL W xs (λY=>evA Z Y es)/\SAT X CL W xs (λY=>evB Z Y es)/\xs.length=es.len/\(∀ pos,xs≠[]->SE X CL W (.BoolOp .And xs pos) (λY=>evN Z Y es)/\SE X CL W (.BoolOp .Or xs pos) (λY=>evO Z Y es))/\(∀ pos,(Ct pos (AB xs X.env)).any (·.1)=Ae)
 o:∀(W:XW)(T:Tc)(X:Cx)(x:Aq Ao)(c:E),VX Z CL k W T X->chkO n T x c=Aa->SO X CL W x (λY=>(top Y c (evE Z Y c)).bind (slE c))
 t:∀(T:Tc)(X:Cx)(xs:Ac Ao)(c:E),VX Z CL k W0 T X->chkT n T xs c=Aa->STs X CL xs (λY=>(top Y c (evE Z Y c)).bind CH)
 i:∀(W:XW)(T:Tc)(X:Cx)(tu:Al)(tg x:Ao)(i:I),VX Z CL k W T X->SG tu tg=Aa->chkI n T tu x i=Aa->SI X CL W tg x (λY=>evI Z Y i)
section
variable{Z:Gam}{CL:ClA}{W:XW}{k n:Ag}{T:Tc}{X:Cx}
theorem jU:Snd Z CL k 0:=⟨λ_ _ _ _ _ _ h=>noF h,λ_ _ _ _ _ _ h=>noF h,λ_ _ _ _ _ _ _ h=>noF h,λ_ _ _ _ _ _ h=>noF h,λ_ _ _ _ _ _ h=>noF h,λ_ _ _ _ _ h=>noF h,λ_ _ _ _ _ _ _ _ _ h=>noF h⟩
theorem Tf{x:Ao}(h:DW x=Aa)(hx:(Ct pos (AB xs env)).any (·.1)=Ae):(Ct pos (AB (x::xs) env)).any (·.1)=Ae:=by
 rw[CI h];show (Ae||(Ct pos (AB xs env)).any (·.1))=Ae;rw[hx];rfl
theorem yZ(S:Snd Z CL k n)(W:XW)(T:Tc)(X:Cx)(xs:Ac Ao)(es:Es)(v:VX Z CL k W T X)(h:chkEs (n+1) T xs es=Aa):SA X CL W xs (λY=>evA Z Y es)/\SAT X CL W xs (λY=>evB Z Y es)/\xs.length=es.len/\(∀ pos,xs≠[]->SE X CL W (.BoolOp .And xs pos) (λY=>evN Z Y es)/\SE X CL W (.BoolOp .Or xs pos) (λY=>evO Z Y es))/\(∀ pos,(Ct pos (AB xs X.env)).any (·.1)=Ae):=by
 cases xs with
 |nil=>
  cases es with
  |nil=>exact⟨xQ,rO,rfl,λ_ z=>absurd rfl z,λ_=>rfl⟩
  |cons=>exact noF h
 |cons x xs=>
  cases es with
  |nil=>exact noF h
  |cons e es=>
   replace h:(DW x&&Bt n T x e&&chkEs n T xs es)=Aa:=h;simp only[Ap]at h;obtain⟨⟨h0,h1⟩,h2⟩:=h;have he:=S.e W T X x e v h1;obtain⟨a1,a2,a3,a4,a5⟩:=S.es W T X xs es v h2;refine⟨rP he.se a1 (CI h0),lY he.st a2 (CI h0),congrArg (· + 1) a3,λpos _=>?_,λpos=>Tf h0 (a5 pos)⟩
   cases xs with
   |nil=>
    cases es with
    |nil=>exact⟨Wr he.se,Wr he.se⟩
    |cons=>cases a3
   |cons y ys=>
    cases es with
    |nil=>cases a3
    |cons e' es'=>
     obtain⟨b1,b2⟩:=a4 pos (by simp)
     exact⟨xM he.se b1,oo he.se b2⟩
theorem kq(S:Snd Z CL k n)(W:XW)(T:Tc)(X:Cx)(x:Aq Ao)(c:E)(v:VX Z CL k W T X)(h:chkO (n+1) T x c=Aa):SO X CL W x (λY=>(top Y c (evE Z Y c)).bind (slE c)):=by
 cases x with
 |none=>
  obtain rfl:=kQ h;exact rD
 |some x=>
  replace h:(!(Od c)&&Bt n T x c)=Aa:=h;rw[Ap]at h;have q:=rC (S.e W T X x c v h.2).st;have e:slE c=λd=>(Fu d).bind λi=>.ok (Ab i):=by
   funext d
   cases c<;>first|rfl|exact absurd (show Ae=Aa from h.1) AM
  rw[e];exact q
theorem km(S:Snd Z CL k n)(T:Tc)(X:Cx)(xs:Ac Ao)(c:E)(v:VX Z CL k W0 T X)(h:chkT (n+1) T xs c=Aa):STs X CL xs (λY=>(top Y c (evE Z Y c)).bind CH):=by
 cases xs with
 |nil=>
  replace h:=sG h;obtain⟨b,rfl,h⟩:=h;subst h;exact nZ
 |cons x xs=>
  replace h:(xs.isEmpty&&Ik n T x c)=Aa:=h;rw[Ap]at h;obtain rfl:=KB h.1;exact nY (S.b W0 T X x c v h.2)
theorem ku(S:Snd Z CL k n)(W:XW)(T:Tc)(X:Cx)(tu:Al)(tg x:Ao)(i:I)(v:VX Z CL k W T X)(ht':SG tu tg=Aa)(h:chkI (n+1) T tu x i=Aa):SI X CL W tg x (λY=>evI Z Y i):=by
 have ht:tu=Aa->aX tg=Aa:=λz=>by
  subst z;cases tg<;>first|rfl|cases ht'
 cases i with
 |e a=>
  exact eA (S.e W T X x a v h).se
 |rng a=>
  replace h:=Ll h;obtain⟨g,pp,l,qq,rfl,h⟩:=h;replace h:=Hx h;obtain⟨y,rfl,h⟩:=h;simp only[Ap,BK]at h;obtain⟨⟨⟨rfl,h1⟩,h2⟩,h3⟩:=h;obtain⟨g1,g2,_,_⟩:=Ji v h1;exact yC (S.e W T X _ a v h3).st g1 g2 (CI h2)
 |rng2 a b=>
  replace h:=Ll h;obtain⟨g,pp,l,qq,rfl,h⟩:=h;replace h:=Kt h;obtain⟨y,z,rfl,h⟩:=h;simp only[Ap,BK]at h;obtain⟨⟨⟨⟨⟨rfl,h1⟩,h2⟩,h3⟩,h4⟩,h5⟩:=h;obtain⟨g1,g2,_,_⟩:=Ji v h1;exact rF (S.e W T X _ a v h4).st (S.e W T X _ b v h5).st g1 g2 (by rw[CI h2,CI h3];rfl) (by rw[CI h3];rfl)
 |zip a b=>
  replace h:=Ll h;obtain⟨g,pp,l,qq,rfl,h⟩:=h;replace h:=Kt h;obtain⟨y,z,rfl,h⟩:=h;simp only[Ap,BK]at h;obtain⟨⟨⟨⟨⟨⟨h0,rfl⟩,h1⟩,h2⟩,h3⟩,h4⟩,h5⟩:=h;obtain⟨g1,g2,_,_⟩:=Ji v h1;have hg:=ht h0;cases tg with
  |Tuple es m tpos=>exact yB (S.e W T X _ a v h4).se (S.e W T X _ b v h5).se g1 g2 (by rw[CI h2,CI h3];rfl) (by rw[CI h3];rfl)
  |_=>cases hg
 |zip3 a b c=>exact absurd (show Ae=Aa from h) AM
 |enm a=>
  replace h:=Ll h;obtain⟨g,pp,l,qq,rfl,h⟩:=h;replace h:=Hx h;obtain⟨y,rfl,h⟩:=h;simp only[Ap,BK]at h;obtain⟨⟨⟨⟨h0,rfl⟩,h1⟩,h2⟩,h3⟩:=h;obtain⟨g1,g2,_,_⟩:=Ji v h1;have hg:=ht h0;cases tg with
  |Tuple es m tpos=>exact rG (S.e W T X _ a v h3).se g1 g2 (CI h2)
  |_=>cases hg
theorem Lo{c:Prop}[GC c]{b:Al}:(if c then R.ok (D.bl b) else .bad)=.bad\/∃ b',(if c then R.ok (D.bl b) else .bad)=.ok (.bl b'):=by
 by_cases h:c
 .rw[AF h];exact .inr ⟨_,rfl⟩
 .rw[AN h];exact .inl rfl
theorem nK(op:DR)(d d':D):B7 op d d'=.bad\/∃ b,B7 op d d'=.ok (.bl b):=by
 cases op with
 |Eq=>exact Lo
 |NotEq=>exact Lo
 |In=>
  cases d' with
  |lst ys=>exact Lo
  |tup ys=>exact Lo
  |dic kvs=>
   show (match EQ d with|some k=>R.ok (D.bl (kvs.any λp=>p.1==k))|none=>.bad)=.bad\/∃ b,(match EQ d with|some k=>R.ok (D.bl (kvs.any λp=>p.1==k))|none=>.bad)=.ok (.bl b)
   cases EQ d with
   |some k=>exact .inr ⟨_,rfl⟩
   |none=>exact .inl rfl
  |_=>exact .inl rfl
 |NotIn=>
  cases d' with
  |lst ys=>exact Lo
  |tup ys=>exact Lo
  |dic kvs=>
   show (match EQ d with|some k=>R.ok (D.bl (!kvs.any λp=>p.1==k))|none=>.bad)=.bad\/∃ b,(match EQ d with|some k=>R.ok (D.bl (!kvs.any λp=>p.1==k))|none=>.bad)=.ok (.bl b)
   cases EQ d with
   |some k=>exact .inr ⟨_,rfl⟩
   |none=>exact .inl rfl
  |_=>exact .inl rfl
 |Is=>
  cases d' with
  |non=>cases d<;>first|exact .inr ⟨_,rfl⟩|exact .inl rfl
  |_=>cases d<;>first|exact .inl rfl|exact .inr ⟨_,rfl⟩
 |IsNot=>
  cases d' with
  |non=>cases d<;>first|exact .inr ⟨_,rfl⟩|exact .inl rfl
  |_=>cases d<;>first|exact .inl rfl|exact .inr ⟨_,rfl⟩
 |_=>
  cases d with
  |int i=>cases d'<;>first|exact .inr ⟨_,rfl⟩|exact .inl rfl
  |_=>exact .inl rfl
theorem V5(op:DR)(d d':D):(B7 op d d').bind CH=.bad\/(B7 op d d').bind CH=(B7 op d d').bind Eo:=by
 rcases nK op d d' with h|⟨b,h⟩
 .rw[h];exact .inl rfl
 .rw[h];exact .inr rfl
theorem j5(e e':E)(es:Es):Rf (λY=>(evN Z Y (.cons e (.cons e' es))).bind CH) (λY=>((top Y e (evE Z Y e)).bind CH).bind λc=>if c=Aa then (evN Z Y (.cons e' es)).bind CH else .ok Ae):=λY=>by
 have e0:evN Z Y (.cons e (.cons e' es))=(evE Z Y e).bind λx=>(Eo x).bind λc=>if c=Aa then evN Z Y (.cons e' es) else .ok (.bl Ae):=rfl
 dsimp only;rw[e0];rcases Q7 Z e Y with z|z<;>dsimp only at z
 .rw[z];exact .inl rfl
 .rw[<-z];cases evE Z Y e with
  |bad=>exact .inl rfl
  |exn x=>exact .inr rfl
  |ok d=>
   cases d with
   |bl b=>cases b<;>exact .inr rfl
   |_=>exact .inl rfl
theorem j4(e e':E)(es:Es):Rf (λY=>(evO Z Y (.cons e (.cons e' es))).bind CH) (λY=>((top Y e (evE Z Y e)).bind CH).bind λc=>if c=Aa then .ok Aa else (evO Z Y (.cons e' es)).bind CH):=λY=>by
 have e0:evO Z Y (.cons e (.cons e' es))=(evE Z Y e).bind λx=>(Eo x).bind λc=>if c=Aa then .ok (.bl Aa) else evO Z Y (.cons e' es):=rfl
 dsimp only;rw[e0];rcases Q7 Z e Y with z|z<;>dsimp only at z
 .rw[z];exact .inl rfl
 .rw[<-z];cases evE Z Y e with
  |bad=>exact .inl rfl
  |exn x=>exact .inr rfl
  |ok d=>
   cases d with
   |bl b=>cases b<;>exact .inr rfl
   |_=>exact .inl rfl
theorem Rf.tru(e:E):Rf (λY=>(evE Z Y e).bind CH) (λY=>(top Y e (evE Z Y e)).bind CH):=λY=>by
 rcases Q7 Z e Y with z|z<;>dsimp only at z ⊢
 .rw[z];exact .inl rfl
 .rw[<-z];exact .inr rfl
theorem zA(S:Snd Z CL k n)(W:XW)(T:Tc)(X:Cx)(xs:Ac Ao)(es:Es)(pos:AX)(v:VX Z CL k W T X)(h:chkBs (n+1) T xs es=Aa)(hne:xs≠[]):SW X CL W (.BoolOp .And xs pos) (λY=>(evN Z Y es).bind CH)/\SW X CL W (.BoolOp .Or xs pos) (λY=>(evO Z Y es).bind CH):=by
 cases xs with
 |nil=>exact absurd rfl hne
 |cons x xs=>
  cases es with
  |nil=>exact noF h
  |cons e es=>
   replace h:(Ik n T x e&&chkBs n T xs es)=Aa:=h;simp only[Ap]at h;obtain⟨h1,h2⟩:=h;have he:=S.b W T X x e v h1;cases xs with
   |nil=>
    cases es with
    |nil=>exact⟨SW.ref (nX he) (Rf.tru e),SW.ref (yV he) (Rf.tru e)⟩
    |cons=>
     cases n with
     |zero=>exact absurd (show Ae=Aa from h2) AM
     |succ n=>exact absurd (show Ae=Aa from h2) AM
   |cons y ys=>
    cases es with
    |nil=>
     cases n with
     |zero=>exact absurd (show Ae=Aa from h2) AM
     |succ n=>exact absurd (show Ae=Aa from h2) AM
    |cons e' es'=>
     obtain⟨b1,b2⟩:=S.bs W T X (y::ys) (.cons e' es') pos v h2 (by simp)
     exact⟨SW.ref (yW he b1) (j5 e e' es'),SW.ref (kl he b2) (j4 e e' es')⟩
theorem oW(S:Snd Z CL k n){x:Ao}{ops:Ac DR}{b:BI}(v:VX Z CL k W T X)(h:R6 T (Bt n) x ops ys b as=Aa):SB X CL W (.Compare x ops ys pos) (λY=>(top Y (.bi b as) (evE Z Y (.bi b as))).bind CH):=by
 exact absurd (show Ae=Aa from h) AM
theorem kx(S:Snd Z CL k n)(W:XW)(T:Tc)(X:Cx)(x:Ao)(c:E)(v:VX Z CL k W T X)(h:Ik (n+1) T x c=Aa):SB X CL W x (λY=>(top Y c (evE Z Y c)).bind CH):=by
 have plain:∀ e,Nm e=Aa->Bt n T e c=Aa->SB X CL W e (λY=>(top Y c (evE Z Y c)).bind CH):=λe h1 h2=>xN (S.e W T X e c v h2).st (pF h1)
 replace h:((L5 x λo x=>decide (o=.Not)&&(Oz c λa=>Ik n T x a))||(LK x λo xs _=>(decide (o=.And)&&(Ol c λes=>chkBs n T xs es && !xs.isEmpty))||(decide (o=.Or)&&(Oy c λes=>chkBs n T xs es && !xs.isEmpty)))||(LJ x λx os ys=>(Og c λop a b=>Gz os λop'=>Gz ys λy=>decide (op'=op) && !behindInMarks op y&&Bt n T x a&&Bt n T y b)||(Oh c λop1 op2 a b c=>ID os λo1 o2=>ID ys λy z=>decide (o1=op1)&&decide (o2=op2) && !lastMarks [op1,op2] [y,z]&&Bt n T x a&&Bt n T y b&&Bt n T z c)||(Oi c λb as=>R6 T (Bt n) x os ys b as))||Nm x&&Bt n T x c)=Aa:=h
 replace h:=(orT h).imp_left λz=>(orT z).imp_left orT
 rcases h with ((h|h)|h)|h
 .replace h:=QX h;obtain⟨o,y,p,rfl,h⟩:=h;replace h:=FM h;obtain⟨h0,h⟩:=h;obtain rfl:=BA h0;replace h:=tQ h;obtain⟨a,rfl,h⟩:=h
  .skip
   refine SB.ref (xO (S.b W T X _ a v h)) λY=>?_
   show ((top Y a (evE Z Y a)).bind λx=>(Eo x).bind λb=>.ok (.bl (!b))).bind CH=.bad\/((top Y a (evE Z Y a)).bind λx=>(Eo x).bind λb=>.ok (.bl (!b))).bind CH=_
   cases top Y a (evE Z Y a) with
   |bad=>exact .inl rfl
   |exn x=>exact .inr rfl
   |ok d=>cases d<;>first|exact .inr rfl|exact .inl rfl
 .replace h:=Qz h;obtain⟨o,ys,p,rfl,h⟩:=h;replace h:=orT h;rcases h with h|h
  .replace h:=FM h;obtain⟨h0,h⟩:=h;obtain rfl:=BA h0;replace h:=lT h;obtain⟨es,rfl,h⟩:=h;simp only[Ap,BU,Ev]at h;exact(S.bs W T X _ _ _ v h.1 h.2).1.sb
  .replace h:=FM h;obtain⟨h0,h⟩:=h;obtain rfl:=BA h0;replace h:=tP h;obtain⟨es,rfl,h⟩:=h;simp only[Ap,BU,Ev]at h;exact(S.bs W T X _ _ _ v h.1 h.2).2.sb
 .replace h:=Qy h;obtain⟨w,os,ys,p,rfl,h⟩:=h;replace h:=(orT h).imp_left orT;rcases h with (h|h)|h
  .replace h:=lH h;obtain⟨op,a,b,rfl,h⟩:=h;replace h:=Hx h;obtain⟨op',rfl,h⟩:=h;replace h:=Hx h;obtain⟨y,rfl,h⟩:=h
   .simp only[Ap,BU,Bj]at h;obtain⟨⟨⟨rfl,h1⟩,h2⟩,h3⟩:=h;refine SB.ref (xP (Lh v.room.units _) (S.e W T X _ a v h2).st (S.e W T X _ b v h3).st h1) λY=>?_
    show ((top Y a (evE Z Y a)).bind λx=>(top Y b (evE Z Y b)).bind λy=>B7 op' x y).bind CH=.bad\/((top Y a (evE Z Y a)).bind λx=>(top Y b (evE Z Y b)).bind λy=>B7 op' x y).bind CH=_
    cases top Y a (evE Z Y a) with
    |bad=>exact .inl rfl
    |exn x=>exact .inr rfl
    |ok d=>
     cases top Y b (evE Z Y b) with
     |bad=>exact .inl rfl
     |exn x=>exact .inr rfl
     |ok d'=>
      dsimp only[R.bind];exact V5 _ d d'
  .replace h:=lI h;obtain⟨op1,op2,a,b,c,rfl,h⟩:=h;replace h:=Kt h;obtain⟨o1,o2,rfl,h⟩:=h;replace h:=Kt h;obtain⟨y,z,rfl,h⟩:=h
   .simp only[Ap,BU,Bj]at h;obtain⟨⟨⟨⟨⟨rfl,rfl⟩,h1⟩,h2⟩,h3⟩,h4⟩:=h;refine SB.ref (lX v.room.units (S.e W T X _ a v h2).st (S.e W T X _ b v h3).st (S.e W T X _ c v h4).st h1) λY=>?_
    show ((top Y a (evE Z Y a)).bind λx=>(top Y b (evE Z Y b)).bind λy=>(B7 o1 x y).bind λz=>(Eo z).bind λk=>if k=Aa then (top Y c (evE Z Y c)).bind λu=>B7 o2 y u else .ok (.bl Ae)).bind CH=.bad\/((top Y a (evE Z Y a)).bind λx=>(top Y b (evE Z Y b)).bind λy=>(B7 o1 x y).bind λz=>(Eo z).bind λk=>if k=Aa then (top Y c (evE Z Y c)).bind λu=>B7 o2 y u else .ok (.bl Ae)).bind CH=_
    cases top Y a (evE Z Y a) with
    |bad=>exact .inl rfl
    |exn x=>exact .inr rfl
    |ok d=>
     cases top Y b (evE Z Y b) with
     |bad=>exact .inl rfl
     |exn x=>exact .inr rfl
     |ok d'=>
      dsimp only[R.bind];cases B7 o1 d d' with
      |bad=>exact .inl rfl
      |exn x=>exact .inr rfl
      |ok d3=>
       cases d3 with
       |bl k=>
        cases k with
        |false=>exact .inr rfl
        |true=>
         dsimp only[R.bind,Eo];rw[AF rfl,AF rfl];cases top Y c (evE Z Y c) with
         |bad=>exact .inl rfl
         |exn x=>exact .inr rfl
         |ok d4=>exact V5 _ d' d4
       |_=>exact .inl rfl
  .replace h:=lJ h;obtain⟨b,as,rfl,h⟩:=h;exact oW S v h
 .exact plain _ (FM h).1 (FM h).2
end
section
variable{Z:Gam}{CL:ClA}{W:XW}{k n:Ag}{T:Tc}{X:Cx}
theorem cS{b:BI}{x:Ao}(v:VX Z CL k W T X)(hb:RH b=Ab g)(hg:isB T g=Aa)(hs:SAT X CL W (x::xs) (λY=>evB Z Y as))(h0:DW x=Aa)(hpl:∀ pos,(Ct pos (AB xs X.env)).any (·.1)=Ae):OkE Z CL W X (.Call (.Name g p) (x::xs) [] pos) (.bi b as):=by
 obtain⟨g1,g2,g3,g4⟩:=Ji v hg;cases b<;>simp only[RH]at hb<;>cases hb
 .exact EL (Lv k8 g1 g2 PySem.boot_len hs g3 g4 (CI h0) hpl) (λ_ _=>rfl) rfl rfl
 .exact EL (Lv (k7 v.calm) g1 g2 PyProof.Rows.boot_max hs g3 g4 (CI h0) hpl) (λ_ _=>rfl) rfl rfl
 .exact EL (Lv (k6 v.calm) g1 g2 PyProof.Rows.boot_min hs g3 g4 (CI h0) hpl) (λ_ _=>rfl) rfl rfl
 .exact Rc (xY uL g1 g2 YF hs g3 g4 (CI h0) hpl) (λ_ _=>rfl) rfl
 .exact EL (xL nL g1 g2 F4 hs g3 g4 (CI h0) hpl) (λ_ _=>rfl) rfl rfl
 .exact EL (Lv (j3 v.calm) g1 g2 PyProof.Rows.boot_all hs g3 g4 (CI h0) hpl) (λ_ _=>rfl) rfl rfl
 .exact EL (Lv (k9 v.calm) g1 g2 PyProof.Rows.boot_any hs g3 g4 (CI h0) hpl) (λ_ _=>rfl) rfl rfl
 .exact EL (Lv (jw v.calm) g1 g2 PyProof.Rows.boot_sum hs g3 g4 (CI h0) hpl) (λ_ _=>rfl) rfl rfl
theorem Qg{x:Ao}{es:Es}(h:chkEs n T (x::xs) es=Aa):DW x=Aa/\∃ e es',es=.cons e es'/\∃ m,n=m+1/\chkEs m T xs es'=Aa:=by
 cases n with
 |zero=>exact noF h
 |succ m=>
  cases es with
  |nil=>exact noF h
  |cons e es=>
   replace h:(DW x&&Bt m T x e&&chkEs m T xs es)=Aa:=h;simp only[Ap]at h;exact⟨h.1.1,e,es,rfl,m,rfl,h.2⟩
theorem Tq:∀(m:Ag)(xs:Ac Ao)(es:Es),chkEs m T xs es=Aa->∀ pos,(Ct pos (AB xs X.env)).any (·.1)=Ae:=by
 intro m
 induction m with
 |zero=>intro xs es h;exact noF h
 |succ m ih=>
  intro xs es h pos;cases xs with
  |nil=>rfl
  |cons x xs=>
   obtain⟨h0,e,es',rfl,m',e1,h1⟩:=Qg h;cases e1;exact Tf h0 (ih xs es' h1 pos)
theorem xS(S:Snd Z CL k n){x:Ao}{b:BI}(v:VX Z CL k W T X)(h:(match O1 as with|some a=>(match Se x with|some y=>decide (b=.rvs)&&Bt n T y a|none=>Ae)|none=>Ae)=Aa):OkE Z CL W X x (.bi b as):=by
 simp[O1]at h
theorem yT(S:Snd Z CL k n){x:Ao}{b:BI}(v:VX Z CL k W T X)(h:(match RZ as with|some (a,c)=>(match SX x with|some (y,z,_)=>decide (b=.tlt) && !behindInMarks .Lt z&&Bt n T y a&&Bt n T z c|none=>Ae)|none=>Ae)=Aa):OkE Z CL W X x (.bi b as):=by
 simp[RZ]at h
theorem jg{x:Ao}{b:BI}(v:VX Z CL k W T X)(h:SN T x b as=Aa):OkE Z CL W X x (.bi b as):=by
 exact absurd h AM
theorem yX(S:Snd Z CL k n){x:Ao}{b:BI}(v:VX Z CL k W T X)(h:(match R0 as with|some (a,k)=>(match SH x with|some (y,j)=>decide (b=.stp)&&decide (j=k)&&decide (0<=k)&&Bt n T y a|none=>Ae)|none=>Ae)=Aa):OkE Z CL W X x (.bi b as):=by
 simp[R0]at h
theorem i6(S:Snd Z CL k n){x:Ao}{b:BI}(v:VX Z CL k W T X)(h:(match R4 as with|some (a,c)=>(match Sq x with|some (g,h,y,z)=>decide (b=.list)&&g==("list" : An)&&h==("range" : An)&&isB T g&&isB T h&&DW y&&DW z&&Bt n T y a&&Bt n T z c|none=>Ae)|none=>Ae)=Aa):OkE Z CL W X x (.bi b as):=by
 simp[R4]at h
theorem sP(S:Snd Z CL k n){x:Ao}{b:BI}(v:VX Z CL k W T X)(h:(match R1 as with|some a=>(match So x with|some (g,h,y)=>decide (b=.lset)&&g==("len" : An)&&h==("set" : An)&&isB T g&&isB T h&&DW y&&Bt n T y a|none=>Ae)|none=>Ae)=Aa):OkE Z CL W X x (.bi b as):=by
 simp[R1]at h
theorem kw(S:Snd Z CL k n)(W:XW)(T:Tc)(X:Cx)(x:Ao)(c:E)(v:VX Z CL k W T X)(h:Bt (n+1) T x c=Aa):OkE Z CL W X x c:=by
 cases c with
 |non=>
  replace h:=NC h;obtain⟨c,u,p,rfl,h⟩:=h;obtain rfl:=BA h;exact EL yH (λ_ _=>rfl) rfl rfl
 |bl b=>
  replace h:=NC h;obtain⟨c,u,p,rfl,h⟩:=h;obtain rfl:=BA h;exact EL oq (λ_ _=>rfl) rfl rfl
 |int i=>
  replace h:=NC h;obtain⟨c,u,p,rfl,h⟩:=h;obtain rfl:=BA h;exact EL yK (λ_ _=>rfl) rfl rfl
 |str i=>
  replace h:=NC h;obtain⟨c,u,p,rfl,h⟩:=h;obtain rfl:=BA h;exact EL yF (λ_ _=>rfl) rfl rfl
 |var i=>
  replace h:=Jf h;obtain⟨y,p,rfl,h⟩:=h;exact⟨yD (Iz v h),Wo (Iz v h),λz=>(nomatch z),λz=>(nomatch z)⟩
 |glob g=>exact absurd (show Ae=Aa from h) AM
 |bin op a b=>
  replace h:=lK h;obtain⟨y,op',z,p,rfl,h⟩:=h;simp only[Ap,Bj]at h;obtain⟨⟨rfl,h1⟩,h2⟩:=h;have ha:=(S.e W T X _ a v h1).st;have hb:=(S.e W T X _ b v h2).st;refine⟨Ws (VJ _) ha hb,(Ws (VJ _) ha hb).st,λz=>?_,λz=>nomatch z⟩
  cases op'<;>first|exact xZ ha hb|cases z
 |un op a=>
  replace h:=QX h;obtain⟨o,y,p,rfl,h⟩:=h;replace h:=FM h;obtain⟨h0,h⟩:=h;obtain rfl:=BA h0;simp only[Ap,Bj]at h;obtain⟨rfl,h1⟩:=h;exact EL (yI (S.e W T X _ a v h1).st) (λ_ _=>rfl) rfl rfl
 |no a=>
  replace h:=QX h;obtain⟨o,y,p,rfl,h⟩:=h;replace h:=FM h;obtain⟨h0,h⟩:=h;obtain rfl:=BA h0;exact EL (yG (S.e W T X _ a v h).st) (λ_ _=>rfl) rfl rfl
 |and es=>
  replace h:=Qz h;obtain⟨o,ys,p,rfl,h⟩:=h;replace h:=FM h;obtain⟨h0,h⟩:=h;obtain rfl:=BA h0;simp only[Ap,BU,Ev]at h;exact EL ((S.es W T X _ es v h.1).2.2.2.1 _ h.2).1 (λ_ _=>rfl) rfl rfl
 |or es=>
  replace h:=Qz h;obtain⟨o,ys,p,rfl,h⟩:=h;replace h:=FM h;obtain⟨h0,h⟩:=h;obtain rfl:=BA h0;simp only[Ap,BU,Ev]at h;exact EL ((S.es W T X _ es v h.1).2.2.2.1 _ h.2).2 (λ_ _=>rfl) rfl rfl
 |cmp op a b=>
  replace h:=Qy h;obtain⟨y,os,ys,p,rfl,h⟩:=h;replace h:=Hx h;obtain⟨op',rfl,h⟩:=h;replace h:=Hx h;obtain⟨z,rfl,h⟩:=h;simp only[Ap,BU,Bj]at h;obtain⟨⟨⟨rfl,h1⟩,h2⟩,h3⟩:=h;exact EL (xK (Lh v.room.units _) (S.e W T X _ a v h2).st (S.e W T X _ b v h3).st h1) (λ_ _=>rfl) rfl rfl
 |cmp2 op1 op2 a b c=>
  replace h:=Qy h;obtain⟨y,os,ys,p,rfl,h⟩:=h;replace h:=Kt h;obtain⟨o1,o2,rfl,h⟩:=h;replace h:=Kt h;obtain⟨z,w,rfl,h⟩:=h;simp only[Ap,BU,Bj]at h;obtain⟨⟨⟨⟨⟨rfl,rfl⟩,h1⟩,h2⟩,h3⟩,h4⟩:=h;exact EL (lW v.room.units (S.e W T X _ a v h2).st (S.e W T X _ b v h3).st (S.e W T X _ c v h4).st h1) (λ_ _=>rfl) rfl rfl
 |ite c a b=>exact absurd (show Ae=Aa from h) AM
 |call f as=>
  replace h:=TY h;obtain⟨g,pp,y,ys,qq,rfl,h⟩:=h;simp only[Ap,Fk,BK,Bj]at h;obtain⟨⟨⟨⟨⟨p,hp,⟨rfl,rfl⟩,hl⟩,h900⟩,h1⟩,h2⟩,h3⟩:=h;obtain⟨fa,fd,ps,m1,m2,m3,m4,m5,_⟩:=v.fn p hp;have hlt:p.2.2<1000:=by omega
  rw[Nat.mod_eq_of_lt hlt]at m4 m5;have m5:=m5 hlt;obtain⟨n2,n3,n4⟩:=QY h2;obtain⟨a1,a2,a3,a4,a5⟩:=S.es W T X _ as v h3;obtain⟨s0,e,es',rfl,m,rfl,s1⟩:=Qg h3;have q:SC X CL W (Z.fr p.2.1) (.Call (.Name p.1 pp) (y::ys) [] qq) (λY=>evE Z Y (.call p.2.1 (.cons e es'))):=rL (sh:=λY=>JY Y (.cons e es')) m5 v.room (by unfold glB at h1;show X.env.scope.names.lookup p.1=_;rw[v.sc];exact eq_of_beq h1) m1 m2 m3 v.px a1 a2 (λY z=>WJ Z Y _ z) (λY ds z=>by rw[Vr Z Y _ _ z,<-a3,hl];rfl) n2 (CI s0) (Tq m ys es' s1)
  exact⟨q.se,q.se.st,λz=>by
   have z':Z.fr p.2.1=Aa:=z;rw[z']at q;exact q,λz=>nomatch z⟩
 |bi b as=>
  unfold Bt at h;dsimp only at h;simp only[C7]at h;rcases h with (((((h|h)|h)|h)|h)|h)|h
  .replace h:=TY h;obtain⟨g,pp,y,ys,qq,rfl,h⟩:=h;simp only[Ap,BK]at h;obtain⟨⟨h1,h2⟩,h3⟩:=h;obtain⟨s0,e,es',rfl,m,rfl,s1⟩:=Qg h3;exact cS v h1 h2 (S.es W T X _ _ v h3).2.1 s0 (Tq m _ es' s1)
  .exact jg v h
  .exact i6 S v h
  .exact yX S v h
  .exact sP S v h
  .exact yT S v h
  .exact xS S v h
 |isi a ks=>
  replace h:=Hx h;obtain⟨k',rfl,h⟩:=h;replace h:=Ll h;obtain⟨g,pp,l,qq,rfl,h⟩:=h;replace h:=Kt h;obtain⟨y,t,rfl,h⟩:=h;replace h:=Jf h;obtain⟨t,pt,rfl,h⟩:=h;simp only[Ap,BK]at h;obtain⟨⟨⟨⟨⟨rfl,h1⟩,h2⟩,h3⟩,h4⟩,h5⟩:=h;obtain⟨g1,g2,_,_⟩:=Ji v h1;obtain⟨b1,b2,b3,b4⟩:=Ji v h3;obtain⟨ty,t1,t2⟩:=cR h2;exact EL (yJ t1 g1 g2 b1 b2 t2 b3 b4 (S.e W T X _ a v h5).st (CI h4)) (λ_ _=>rfl) rfl rfl
 |idx a i=>
  replace h:=Qx h;obtain⟨y,z,p,rfl,h⟩:=h;simp only[Ap]at h;obtain⟨⟨h1,h2⟩,h3⟩:=h;exact EL (yL v.room.units (jV h1) (S.e W T X _ a v h2).st (S.e W T X _ i v h3).st) (λ_ _=>rfl) rfl rfl
 |sl a lo hi=>
  replace h:=Qx h;obtain⟨y,s,p,rfl,h⟩:=h;replace h:=kZ h;obtain⟨l,u,st,p',rfl,h⟩:=h;replace h:=FM h;obtain⟨h0,h⟩:=h;obtain rfl:=Option.isNone_iff_eq_none.mp h0;simp only[Ap]at h;obtain⟨⟨h1,h2⟩,h3⟩:=h;refine Rc (SC.congr (lh (S.e W T X _ a v h1).st (S.o W T X _ lo v h2) (S.o W T X _ hi v h3)) λY=>?_) (λ_ _=>rfl) rfl
  show ((top Y a (evE Z Y a)).bind λx=>(top Y lo (evE Z Y lo)).bind λl=>(slE lo l).bind λl'=>(top Y hi (evE Z Y hi)).bind λh=>(slE hi h).bind λh'=>slD x l' h')=_
  simp only[R.bind_assoc]
 |tup es=>
  replace h:=Qw h;obtain⟨ys,cc,p,rfl,h⟩:=h;simp only[Ap,Bj]at h;have q:=S.es W T X _ es v h.1;exact EL (yE q.1 λY ds z=>by rw[QN Z Y _ _ z,<-q.2.2.1];omega) (λ_ _=>rfl) rfl rfl
 |lst es=>
  replace h:=lE h;obtain⟨ys,p,rfl,h⟩:=h;simp only[Ap,Bj]at h;have q:=S.es W T X _ es v h.1;exact Rc (xX q.1 λY ds z=>by rw[QN Z Y _ _ z,<-q.2.2.1];omega) (λ_ _=>rfl) rfl
 |comp elt t it c=>
  replace h:=VN (e:=x) (F:=_) (by unfold Bt at h;exact h)
  obtain⟨y,tg,it',ifs,scope,p,rfl,h⟩:=h;replace h:=Jf h;obtain⟨w,pw,rfl,h⟩:=h;simp only[Ap]at h;obtain⟨⟨⟨⟨⟨h1,h2⟩,h3⟩,h4⟩,h5⟩,h6⟩:=h;refine W9 v.calm ⟨_,_,_,_,_,_,_,_,_,_,_,_,_,rfl,(Ro v h3).1,S.i W T X Ae _ _ it v rfl h1,vD t,λcl C s H fp=>oY (v.blk h3) (λz=>BK.mpr z) h4,λcl C s H fp=>S.t _ _ _ c (v.blk h3) h5,λcl C s H fp=>(S.e W0 _ _ _ elt (v.blk h3) h6).se,NU h2,λY=>rfl⟩ (λ_ _=>rfl)
 |compT elt ts it c=>
  replace h:=VN (e:=x) (F:=_) (by unfold Bt at h;exact h)
  obtain⟨y,tg,it',ifs,scope,p,rfl,h⟩:=h;replace h:=Qw h;obtain⟨ys,cc,pw,rfl,h⟩:=h;simp only[Ap]at h;obtain⟨⟨⟨⟨⟨⟨h0,h1⟩,h2⟩,h3⟩,h4⟩,h5⟩,h6⟩:=h;refine W9 v.calm ⟨_,_,_,_,_,_,_,_,_,_,_,_,_,rfl,(Ro v h3).1,S.i W T X Aa _ _ it v rfl h1,eh ts,λcl C s H fp=>pC (v.blk h3) h0 h4,λcl C s H fp=>S.t _ _ _ c (v.blk h3) h5,λcl C s H fp=>(S.e W0 _ _ _ elt (v.blk h3) h6).se,NU h2,λY=>rfl⟩ (λ_ _=>rfl)
 |tupI it=>
  cases it with
  |zip3 a b c=>
   unfold Bt at h;dsimp only at h;cases q:Ot x with
   |none=>rw[q]at h;cases h
   |some t=>
    obtain⟨g,f,y1,y2,y3⟩:=t;rw[q]at h;simp only[Ap,BK]at h;obtain⟨⟨⟨⟨⟨⟨⟨⟨⟨rfl,rfl⟩,h1⟩,h2⟩,h3⟩,h4⟩,h5⟩,h6⟩,h7⟩,h8⟩:=h;obtain⟨p,p',pos,pos',rfl⟩:=uK q;obtain⟨g1,g2,_,_⟩:=Ji v h1;obtain⟨g3,g4,_,_⟩:=Ji v h2;exact EL (yM (S.e W T X _ a v h6).se (S.e W T X _ b v h7).se (S.e W T X _ c v h8).se v.calm g1 g2 g3 g4 (by rw[CI h3,CI h4,CI h5];rfl) (by rw[CI h4,CI h5];rfl) (by rw[CI h5];rfl)) (λ_ _=>rfl) rfl rfl
  |_=>exact noF h
 |dget i a c=>
  unfold Bt at h;dsimp only at h;cases q:xMt x with
  |none=>rw[q]at h;cases h
  |some t=>
   obtain⟨x,m,y,z⟩:=t;rw[q]at h;simp only[Ap,BK]at h;obtain⟨⟨⟨⟨⟨rfl,h1⟩,h2⟩,h3⟩,h4⟩,h5⟩:=h;obtain⟨p,ap,cp,rfl,hl⟩:=WI q;have hu:=v.room.units;exact EL (rJ (by omega) (Iz v h1) (S.e W T X _ a v h4).st (S.e W T X _ c v h5).se rfl (by rw[CI h2,CI h3];rfl) (by rw[hl];exact D9 _) (CI h2) (CI h3) (by rw[CI h3];rfl)) (λ_ _=>rfl) rfl rfl
 |fld o f=>exact noF h
theorem snd:∀ n,Snd Z CL k n
 |0=>jU
 |n+1=>⟨kw (snd n),kx (snd n),zA (snd n),yZ (snd n),kq (snd n),km (snd n),ku (snd n)⟩
end
section
variable{Z:Gam}{CL:ClA}{W:XW}{k n:Ag}{T:Tc}{X:Cx}
theorem pA{t:Ag}(v:VX Z CL k W T X)(hf:∀ x,X.fn x=Aa)(h:tgC T [t] [x]=Aa):PG X (.Name x pos) (F8 t):=by
 unfold tgC at h;simp only[Ap,BK]at h;exact Mx (by rw[v.N];exact v.nd) (by rw[v.N];exact h.1.1) (by rw[v.sc];exact NM h.1.2) (.inl (hf x))
theorem pB(v:VX Z CL k W T X)(hf:∀ x,X.fn x=Aa):∀(ys:Ac Ao)(ts:Ac Ag)(zs:Ac An),Gy ys=Ab zs->tgC T ts zs=Aa->PGs X ys (ts.foldr (λt u=>Jn (F8 t) u) Jr)/\ts.length=ys.length:=by
 intro ys
 induction ys with
 |nil=>
  intro ts zs e h;cases e;cases ts with
  |nil=>exact⟨VF,rfl⟩
  |cons t ts=>cases h
 |cons y r ih=>
  intro ts zs e h;obtain⟨x,p,ws,rfl,e2,rfl⟩:=Pj e;cases ts with
  |nil=>cases h
  |cons t ts=>
   have h':(T.N[t]? == Ab x&&KO T x&&tgC T ts ws)=Aa:=h;simp only[Ap,BK]at h';obtain⟨h1,h2⟩:=ih ts ws e2 h'.2;exact⟨US (Mx (by rw[v.N];exact v.nd) (by rw[v.N];exact h'.1.1) (by rw[v.sc];exact NM h'.1.2) (.inl (hf x))) h1 (by rw[PX];rfl),congrArg (· + 1) h2⟩
theorem oZ(v:VX Z CL k W T X)(hf:∀ x,X.fn x=Aa)(hn:(Gy ys).isSome=Aa)(h:tgC T ts (tgN ys)=Aa):PG X (.Tuple ys kk pos) (MU X.K ts.length (ts.foldr (λt u=>Jn (F8 t) u) Jr)):=by
 cases e:Gy ys with
 |none=>rw[e]at hn;cases hn
 |some zs=>
  have e2:tgN ys=zs:=by unfold tgN;rw[e];rfl
  rw[e2]at h;obtain⟨h1,h2⟩:=pB v hf ys ts zs e h;obtain⟨h3,h4,_⟩:=Ta (env:=X.env) ys zs e;exact Wx v.calm h1 (by rw[h3,h2]) h4
theorem iL(ts:Ac Ag):∀ d Y x,F7 ts d Y≠.exn x:=λd Y x h=>by
 unfold F7 at h;cases d with
 |tup xs=>
  dsimp only at h;cases e:Ff ts xs Y with
  |some r=>rw[e]at h;cases h
  |none=>rw[e]at h;cases h
 |_=>cases h
theorem jR{elt:Ao}{gs:Ac Ju}{pos':AX}:∃ b,DQ (.ListComp elt gs scope pos) (Ab (.Name x pos')) l env=pure b/\(b=Aa->env.scope.names.lookup x=Ab .local):=by
 refine⟨_,rfl,λh=>?_⟩
 simp only[Ap,BK]at h;exact h.1.1.2
theorem Q3{v0:Ao}{i:Ag}{e:E}(v:VX Z CL k W T X)(hf:∀ x,X.fn x=Aa)(hi:T.N[i]?=Ab x)(hl:KO T x=Aa)(o:OkE Z CL W X v0 e)(hfr:fr=Aa->Do Z e=Aa):SAs X CL W fr i (.Assign [.Name x p] v0 pos) (λY=>evE Z Y e):=by
 have hN:X.N.Nodup:=by rw[v.N];exact v.nd
 have hi':X.N[i]?=Ab x:=by rw[v.N];exact hi
 have hx:Loc X.env.scope x:=by rw[v.sc];exact NM hl
 have sc:SC X CL W fr v0 (λY=>evE Z Y e):=by
  cases fr with
  |false=>exact o.se.sc
  |true=>exact o.nw (hfr rfl)
 cases hc:Lx v0 with
 |true=>exact SC.sas hN hi' hx sc (V3 hc) (.inl (hf x))
 |false=>
  obtain⟨tg,iter,elt,ifs,scope,pos2,N',ts,fi,fc,fe,as,g,rfl,B,h2,hGG,hg,ht,he,hs,ef⟩:=o.cp hc;obtain⟨b,hb,hb'⟩:=jR (elt:=elt) (gs:=[⟨tg,iter,ifs,0⟩]) (scope:=scope) (pos:=pos2) (pos':=p) (x:=x) (l:=pos.line) (env:=X.env);cases b with
  |false=>exact SC.sas hN hi' hx sc hb (.inl (hf x))
  |true=>
   have q:=lZ (pos2:=pos) v.calm B h2 hGG hg ht he hs hN hi' (hb' rfl) hb;have q':SAs X CL W Aa i (.Assign [.Name x p] (.ListComp elt [⟨tg,iter,ifs,0⟩] scope pos2) pos) (λY=>evE Z Y e):=by
    have:(λY=>evE Z Y e)=_:=funext ef
    rw[this];exact q
   cases fr with
   |true=>exact q'
   | false=>exact λA=>PS.weak (q' A) λD U H ⟨hA,Y,gd,z⟩=>⟨hA,Y,gd,by
     dsimp only at z ⊢;cases e0:evE Z Y e with
     |ok d=>
      rw[e0]at z;exact λv' H' s' r'=>z v' H' s' ⟨r'.1,λ_=>r'.2 rfl⟩
     |exn y=>rw[e0]at z;exact z
     | bad=>rw[e0]at z;exact z⟩
theorem Vp{e t:Ao}(h:∀ x p,t≠.Name x p):Hu [t] e l env=pure Ae:=by
 show DQ e (Ab t) l env=pure Ae;cases e<;>first|rfl|(cases t<;>first|rfl|exact absurd rfl (h _ _))
theorem TB(Y:Rho)(e:E)(h:∀ i,e≠.var i):evS Z Y (.ret e)=O.of Y (evE Z Y e) λd=>.ret d (Do Z e):=by
 have k:∀ b:Al,b=Ae->top Y e (evE Z Y e)=evE Z Y e->(O.of Y (top Y e (evE Z Y e)) λd=>.ret d (Do Z e||b))=O.of Y (evE Z Y e) λd=>.ret d (Do Z e):=λb hb ht=>by
  rw[hb,ht];simp only[Gm]
 rw[vS];cases e with
 |var i=>exact absurd rfl (h i)
 |_=>exact k _ rfl rfl
structure DefX (X:Cx):Prop where
 fn:∀ x,X.fn x=Aa
 ex:X.ex=[]
 st:X.stack=X.env::X.outer
 fm:X.env.frame=Ab X.env.locals
structure SndS (Z:Gam) (CL:ClA) (k:Ag) (n:Ag):Prop where
 s:∀(W:XW)(T:Tc)(X:Cx)(x:Bp)(c:S),VX Z CL k W T X->DefX X->KQ n T x c=Aa->SS X CL W x (λY=>evS Z Y c)
 ss:∀(W:XW)(T:Tc)(X:Cx)(x:Ac Bp)(c:Ss),VX Z CL k W T X->DefX X->chkSs n T x c=Aa->SSs X CL W x (λY=>evSs Z Y c)
theorem VX.pw(v:VX Z CL k W T X){pI:Pn}{Xw:Vq}(own:Fj (model X.prog X.w) X.A X.env Xw):VX Z CL k W0 T (Cx.pw X pI Xw):=⟨v.sc,v.kd,v.N,v.nd,v.calm,v.room,v.bl,v.fn,own,WA,Sd,v.xt,v.gl⟩
theorem STB.congr{st:Ac Bp}{f g:Rho->O}(h:STB X CL st f)(e:∀ Y,g Y=f Y):STB X CL st g:=by
 have:g=f:=funext e;rw[this];exact h
theorem ko(Z_:SndS Z CL k n)(W:XW)(T:Tc)(X:Cx)(st:Bp)(c:S)(v:VX Z CL k W T X)(hf:DefX X)(h:KQ (n+1) T st c=Aa):SS X CL W st (λY=>evS Z Y c):=by
  have E:=snd (Z:=Z) (CL:=CL) (k:=k) n;cases c with
  |pass=>exact absurd (show Ae=Aa from h) AM
  |brk=>exact absurd (show Ae=Aa from h) AM
  |cont=>exact absurd (show Ae=Aa from h) AM
  |asg i fresh e=>
    replace h:=lR h;obtain⟨x,px,v0,pos,rfl,h⟩:=h;simp only[Ap,BK]at h;obtain⟨⟨h1,h2⟩,h3⟩:=h;have o:=E.e W T X _ e v h3;cases fresh with
    |false=>exact Wq (Q3 (fr:=Ae) v hf.fn h1 h2 o (λz=>nomatch z))
    |true=>
      cases hn:Do Z e with
      |true=>
        refine SS.ref (rB (Q3 (fr:=Aa) v hf.fn h1 h2 o (λ_=>hn))) λY=>.inr ?_
        show O.of Y (evE Z Y e) (λd=>if Aa=Aa then (if Do Z e=Aa then (match d with
          |.lst xs=>.next (Y.set i (Ab (.lst xs,Aa)))
          | _=>.bad) else .bad) else .next (Y.set i (Ab (d,Ae))))=_
        rw[hn];rfl
      |false=>
        refine SS.ref (Wq (Q3 (fr:=Ae) v hf.fn h1 h2 o (λz=>nomatch z))) λY=>?_
        have e0:evS Z Y (.asg i Aa e)=O.of Y (evE Z Y e) (λd=>if Aa=Aa then (if Do Z e=Aa then (match d with
          |.lst xs=>.next (Y.set i (Ab (.lst xs,Aa)))
          | _=>.bad) else .bad) else .next (Y.set i (Ab (d,Ae)))):=rfl
        rw[e0,hn];cases evE Z Y e with
        |ok d=>exact .inl rfl
        |exn y=>exact .inr rfl
        |bad=>exact .inl rfl
  |asgT ts e=>exact absurd (show Ae=Aa from h) AM
  |expr e=>
    replace h:=UX h;obtain⟨v0,pos,rfl,h⟩:=h;simp only[Ap]at h;exact oG (E.e W T X _ e v h.2).se (V3 h.1)
  |ret e=>
    replace h:=lA h;obtain⟨o,pos,rfl,h⟩:=h;cases o with
    |none=>exact noF h
    |some v0=>
    replace h:Bt n T v0 e=Aa:=h;have o:=E.e W T X _ e v h;cases hv:Do Z e with
    |true=>
      refine SS.ref (oE (o.nw hv)) λY=>.inr ?_
      rw[TB Y e (λi z=>by subst z;cases hv),hv]
    |false=>
      cases e with
      |var i=>
        cases n with
        |zero=>exact noF h
        |succ n=>
          replace h:=Jf h;obtain⟨y,py,rfl,h⟩:=h;exact oC (Iz v h)
      |_=>
        refine SS.ref (oD o.se) λY=>.inr ?_
        rw[TB Y _ (by intro i z;cases z),hv]
  |retN=>exact absurd (show Ae=Aa from h) AM
  |ife c a b=>
    replace h:=VO h;obtain⟨t,xs,ys,pos,rfl,h⟩:=h;simp only[Ap]at h;exact W3 (E.b W T X _ c v h.1.1) (Z_.ss W T X _ a v hf h.1.2) (Z_.ss W T X _ b v hf h.2)
  |lnd c a b=>
    replace h:=VO h;obtain⟨t,xs,ys,pos,rfl,h⟩:=h;simp only[Ap]at h;exact W3 (rM (E.b W T X _ c v h.1.1)) (Z_.ss W T X _ a v hf h.1.2) (Z_.ss W T X _ b v hf h.2)
  |fors t it body=>
    replace h:=UW h;obtain⟨tg,it',xs,ys,pos,rfl,h⟩:=h;replace h:=FM h;obtain⟨hn,h⟩:=h;obtain rfl:=KB hn;replace h:=Jf h;obtain⟨y,py,rfl,h⟩:=h;simp only[Ap]at h;obtain⟨⟨⟨h1,h2⟩,h3⟩,h4⟩:=h;exact Wp v.own v.calm (uZ t) (pA v hf.fn h1) (E.i W T X Ae _ _ it v rfl h3) (Z_.ss W T X _ body v hf h4) (NU h2) (λ_ _ _ z=>nomatch z)
  |forT ts it body=>
    replace h:=UW h;obtain⟨tg,it',xs,zs,pos,rfl,h⟩:=h;replace h:=FM h;obtain⟨hn,h⟩:=h;obtain rfl:=KB hn;replace h:=Qw h;obtain⟨ys,cc,py,rfl,h⟩:=h;simp only[Ap]at h;obtain⟨⟨⟨⟨h0,h1⟩,h2⟩,h3⟩,h4⟩:=h;exact Wp v.own v.calm (dq ts) (oZ v hf.fn h0 h1) (E.i W T X Aa _ _ it v rfl h3) (Z_.ss W T X _ body v hf h4) (NU h2) (iL ts)
  |whl c body=>
    replace h:=kY h;obtain⟨t,xs,ys,pos,rfl,h⟩:=h;replace h:=FM h;obtain⟨hn,h⟩:=h;obtain rfl:=KB hn;simp only[Ap]at h;exact jT LO v.own (E.b W T X _ c v h.1) (Z_.ss W T X _ body v hf h.2)
  |rais c as=>
    replace h:(!(T.rzs.any λp=>p.2==c))=Aa:=h
    cases hc:T.rzs.any (λp=>p.2==c) with
    |false=>
      have hb:∀ ds,Z.xn c ds=.bad:=v.xt.xb c λp hp z=>by
        have:T.rzs.any (λp=>p.2==c)=Aa:=List.any_eq_true.mpr ⟨p,hp,BK.mpr z⟩
        rw[hc]at this;cases this
      intro Fz B pI s U H D I ⟨Y,x,p⟩;have p':CG X.K CL Fz B W (O.of Y (noX (evA Z Y as)) λxs=>O.of Y (Z.xn c xs) λx=>.exn x Y) D:=p
      cases e1:evA Z Y as with
      |bad=>rw[e1]at p';exact p'.elim
      |exn y=>rw[e1]at p';exact p'.elim
      |ok ds=>
        rw[e1]at p';have p2:CG X.K CL Fz B W (O.of Y (Z.xn c ds) λx=>.exn x Y) D:=p'
        rw[hb ds]at p2;exact p2.elim
    |true=>rw[hc]at h;cases h
  |app i e=>
    replace h:=UV h;obtain⟨x,px,m,ap,l,cp,pos,rfl,h2,h⟩:=h;replace h:=Hx h;obtain⟨v0,rfl,h⟩:=h;simp only[Ap,BK]at h;obtain⟨⟨⟨rfl,h1⟩,h3⟩,h4⟩:=h;exact xW (Iz v h1) (E.e W T X _ e v h4).se rfl (by rw[CI h3];rfl) (by rw[h2];exact D9 _) (CI h3) rfl
  |ext i e=>
    replace h:=UV h;obtain⟨x,px,m,ap,l,cp,pos,rfl,h2,h⟩:=h;replace h:=Hx h;obtain⟨v0,rfl,h⟩:=h;simp only[Ap,BK]at h;rw[C7]at h;obtain⟨⟨⟨rfl,h1⟩,h3⟩,h5⟩:=h;rcases h5 with h5|h5
    · rw[Ap]at h5;obtain⟨h5,h4⟩:=h5;exact xT (Iz v h1) ((E.e W T X _ e v h4).nw (sJ Z h5)) rfl (by rw[CI h3];rfl) (by rw[h2];exact D9 _) (CI h3) rfl
    · cases q:Oq e with
      |none=>rw[q]at h5;cases h5
      |some a=>
        rw[q]at h5;have eq:=nN q;subst eq;have fe:(λY=>evS Z Y (.ext i (.bi .list (.cons (.bin .Add a (.tup .nil)) .nil))))=λY=>O.of Y (C3 Y i) λxs=>O.of Y (top Y a (evE Z Y a)) λx=>O.of Y ((Dg .Add x (.tup [])).bind λy=>biD .list [y]) λd=>O.of Y (LP d) λys=>if CN (xs.length+ys.length)=Aa then .next (Y.set i (Ab (.lst (xs++ys),Aa))) else .bad:=funext λY=>by
          rw[vT];have e2:evE Z Y (.bi .list (.cons (.bin .Add a (.tup .nil)) .nil))=(top Y a (evE Z Y a)).bind λx=>(Dg .Add x (.tup [])).bind λy=>biD .list [y]:=by
            simp only[gm,evB,vX,oV,oU,vW,evA,R.bind_ok,R.bind_assoc]
          rw[e2];cases C3 Y i with
          |ok xs=>
            rw[O.of_ok,O.of_ok];cases top Y a (evE Z Y a)<;>rfl
          |exn z=>rfl
          |bad=>rfl
        show SS X CL W _ (λY=>evS Z Y (.ext i (.bi .list (.cons (.bin .Add a (.tup .nil)) .nil))))
        rw[fe];exact oF (Iz v h1) (E.e W T X _ a v h5).st rfl (by rw[CI h3];rfl) (by rw[h2];exact D9 _) (CI h3) rfl
  |rev i=>exact absurd (show Ae=Aa from h) AM
  |clr i=>exact absurd (show Ae=Aa from h) AM
  |put i k e=>
    replace h:=UZ h;obtain⟨t,v0,pos,rfl,h⟩:=h;replace h:=Qx h;obtain⟨o,y,sp,rfl,h⟩:=h;replace h:=Jf h;obtain⟨x,p,rfl,h⟩:=h;simp only[Ap]at h;obtain⟨⟨⟨h1,h2⟩,h4⟩,h5⟩:=h;exact zH (Iz v h1) (E.e W T X _ k v h4).st (E.e W T X _ e v h5).se (λw=>by cases y<;>first|rfl|cases h2) (Vp (λ_ _ z=>by cases z)) rfl rfl
  |tryx body c x hh=>exact absurd (show Ae=Aa from h) AM
  |try2 body c x hd c' hd' els=>exact absurd (show Ae=Aa from h) AM
  |swp i k l=>exact absurd (show Ae=Aa from h) AM
  |apop j i e=>exact absurd (show Ae=Aa from h) AM
  |ins i k e=>exact absurd (show Ae=Aa from h) AM
  |dnw i=>
    unfold KQ at h;dsimp only at h;split at h
    · simp only[Ap,BK]at h;obtain⟨⟨h1,h2⟩,h3⟩:=h;obtain⟨p,rfl⟩:=oM h3;exact xV (by rw[v.N];exact v.nd) (by rw[v.N];exact h1) (by rw[v.sc];exact NM h2) rfl (.inl (hf.fn _))
    · cases h
  |dput i k e=>
    unfold KQ at h;dsimp only at h;split at h
    · simp only[Ap]at h;obtain⟨⟨⟨h1,h2⟩,h4⟩,h5⟩:=h;rename_i x p y sp v0 pos;have hu:=v.room.units;exact rA (by omega) (Iz v h1) (E.e W T X _ k v h4).st (E.e W T X _ e v h5).se (λw=>by cases y<;>first|rfl|cases h2) (Vp (λ_ _ z=>by cases z)) rfl rfl
    · cases h
  |dsd i k e=>
    unfold KQ at h;dsimp only at h;split at h
    · rename_i w pos;cases q:xMt w with
      |none=>rw[q]at h;cases h
      |some t=>
        obtain⟨x,m,y,z⟩:=t;rw[q]at h;simp only[Ap,BK]at h;obtain⟨⟨⟨⟨⟨rfl,h1⟩,h2⟩,h3⟩,h4⟩,h5⟩:=h;obtain⟨p,ap,cp,rfl,hl⟩:=WI q;have hu:=v.room.units;exact xU (by omega) (Iz v h1) (E.e W T X _ k v h4).st (E.e W T X _ e v h5).se rfl (by rw[CI h2,CI h3];rfl) (by rw[hl];exact D9 _) (CI h2) (CI h3) (by rw[CI h3];rfl) rfl
    · cases h
  |rel=>exact noF h
theorem nM{c:Ss}(h:OD c=Aa)(Y:Rho):evSs Z Y c=.bad:=by
 cases c with
 |nil=>cases h
 |cons s ss=>
  cases s with
  |expr e=>
   cases e with
   |bi b as=>
    cases as with
    |nil=>
     cases b with
     |len=>rfl
     |_=>exact noF h
    |cons=>cases b<;>exact noF h
   |_=>exact noF h
  |_=>exact noF h
theorem yY(Z_:SndS Z CL k n)(W:XW)(T:Tc)(X:Cx)(xs:Ac Bp)(c:Ss)(v:VX Z CL k W T X)(hf:DefX X)(h:chkSs (n+1) T xs c=Aa):SSs X CL W xs (λY=>evSs Z Y c):=by
 by_cases hb:OD c=Aa
 .exact λFz B pI s U H D I ⟨Y,x,p⟩=>by
   dsimp only at p;rw[nM hb]at p;exact p.elim
 have hb:OD c=Ae:=by simpa using hb
 cases c with
 |nil=>
  simp only[chkSs,hb,Gm,HN]at h;subst h;exact oB
 |cons s ss=>
  by_cases hr:∃ i,s=.rel i
  .obtain⟨i,rfl⟩:=hr;simp only[chkSs,hb,Gm]at h;exact oA i (Z_.ss W T X xs ss v hf h)
  .cases xs with
   |nil=>cases s<;>first|(simp[chkSs,hb]at h;done)|exact absurd ⟨_,rfl⟩ hr
   |cons st r=>
    have h':KQ n T st s=Aa/\chkSs n T r ss=Aa:=by
     cases s<;>first|(simp only[chkSs,hb,Gm,Ap]at h;exact h)|exact absurd ⟨_,rfl⟩ hr
    exact jS (Z_.s W T X st s v hf h'.1) (Z_.ss W T X r ss v hf h'.2)
theorem R7:∀ n,SndS Z CL k n
 |0=>⟨λ_ _ _ _ _ _ _ h=>noF h,λ_ _ _ _ _ _ _ h=>noF h⟩
 |n+1=>⟨ko (R7 n),yY (R7 n)⟩
end
theorem Mo{n:Ag}{ds:Ac D}{i:Ag}{d:D}{o:Al}(h:(Bv n ds)[i]?=Ab (Ab (d,o))):o=Ae/\ds[i]?=Ab d:=by
 unfold Bv at h;by_cases hi:i<ds.length
 .rw[FN (by simpa using hi),C0]at h
  cases e:ds[i]? with
  |none=>rw[e]at h;cases h
  |some x=>rw[e]at h;cases h;exact⟨rfl,rfl⟩
 .rw[Yk (by simpa using Nat.le_of_not_lt hi),Ym]at h
  split at h<;>cases h
theorem hJ{N:Ac An}{i:Ag}{v:V}(h:vs[i]?=Ab v):(L2.start N vs)[i]?=Ab (Ab v):=by
 unfold L2.start;have hi:=(Bf.mp h).1;rw[FN (by simpa using hi),C0,h]
 rfl
theorem jQ{A:Ak->Prop}{N:Ac An}{n:Ag}{ds:Ac D}(hn:N.length=n)(hA:AOk H A)(r:Reps K CL H A vs ds):Sx K CL (λb o=>H b=Ab o) A (Bv n ds) (L2.start N vs) H:=by
 have own:∀ a,Cp A (Bv n ds) (L2.start N vs) a->A a:=λa h=>by
  rcases h with h|⟨j,d,h,_⟩
  .exact h
  .exact absurd (Mo h).1 (by decide)
 have hlen:(Bv n ds).length=(L2.start N vs).length:=by
  unfold Bv L2.start;simp only[A4,AV,Yt,r.length,hn]
 refine⟨⟨λi d h=>?_,λi d h=>absurd (Mo h).1 (by decide),hlen⟩,λa h=>hA a (own a h),λj d a h _=>absurd (Mo h).1 (by decide),λi j d e a h _ _ _=>absurd (Mo h).1 (by decide),λb o h=>h,hlen⟩
 obtain⟨v,h1,h2⟩:=r.get (Mo h).2;exact⟨v,hJ h1,Rep.sub own _ h2⟩
structure FunX (K:Fg) (x qual:An) (st:Bp) (f:Ak) (fd:Cv):Prop where
 ex:∃(oc:Ai)(od:Aq Ak)(dV kV doc pm:Ai)(an:Aq Ak)(cdv ct:Ai)(osl:A6 (Aq Ai)),
  fd=Ec x qual (Kx st) (HY st) (GS st) dV kV doc pm an cdv ct/\K.lookup f=Ab ⟨oc,od,.func fd,osl⟩/\F0 K cdv qual=Aa
 kp:DO K (.ref f)=Aa
theorem Xi{st:Bp}{f:Ak}(F:Fun K x qual st f fd):FunX K x qual st f fd:=by
 obtain⟨oc,od,kV,doc,pm,an,cdv,ct,osl,e,lk,hcd⟩:=F.ex;exact⟨⟨oc,od,.none,kV,doc,pm,an,cdv,ct,osl,e,lk,hcd⟩,F.kp⟩
def LS(K:Fg)(mg:An->Aq Ai)(fns:Ac (An×Ag×Ag))(bl:Ac An)(rzs exs gls:Ac (An×Ag))(Pg:Prg)(fuel:Ag)(p:An×Ag×Ag):Prop:=∃ f fd ps qual st N,mg p.1=Ab (.ref f)/\FunX K p.1 qual st f fd/\IB K fd ps []/\ps.length=p.2.2%1000/\Ii fuel (ET 1000 p.2.2) fns bl rzs exs gls ps N st (Pg.defs p.2.1)=Aa
structure Tab (K:Fg) (mg:An->Aq Ai) (CL:ClA) (fns:Ac (An×Ag×Ag)) (bl:Ac An) (rzs exs gls:Ac (An×Ag)) (Pg:Prg) (fuel:Ag):Prop where
 xt:XT Pg.up Pg.xn CL rzs exs K mg
 bln:∀ x,x∈bl->mg x=Af
 gl:∀ p∈gls,O2 K mg CL p.1 (Pg.G p.2)
 fn:∀ p∈fns,LS K mg fns bl rzs exs gls Pg fuel p
theorem fw(Pg:Prg)(n i:Ag):(gam Pg n).fr i=(Pg.defs i).fr:=by cases n<;>rfl
theorem fu(Pg:Prg)(n:Ag):(gam Pg n).up=Pg.up:=by cases n<;>rfl
theorem aO(Pg:Prg)(n:Ag):(gam Pg n).G=Pg.G:=by cases n<;>rfl
theorem fj(Pg:Prg)(n:Ag):(gam Pg n).xn=Pg.xn:=by cases n<;>rfl
section
variable{P:AT}{w:AD}{K:Fg}{mg:An->Aq Ai}{base:AJ}{CL:ClA}{fns:Ac (An×Ag×Ag)}{bl:Ac An}{rzs exs gls:Ac (An×Ag)}{Pg:Prg}{fuel:Ag}
def Lvl(P:AT)(w:AD)(K:Fg)(mg:An->Aq Ai)(base:AJ)(CL:ClA)(Pg:Prg)(n:Ag)(p:An×Ag×Ag):Prop:=∃ f fd ps,mg p.1=Ab (.ref f)/\DO K (.ref f)=Aa/\IB K fd ps []/\ps.length=p.2.2%1000/\(p.2.2<1000->FnOk P w K mg base (CXR P w) n f fd ps (spD K CL (p.2.2%1000) ((gam Pg n).fr p.2.1) ((gam Pg n).F p.2.1)))/\(1000<=p.2.2->HotOk P w K mg base n f fd ps (spH K CL (p.2.2%1000) ((gam Pg n).fr p.2.1) ((gam Pg n).F p.2.1)))
theorem WM(t:Tab K mg CL fns bl rzs exs gls Pg fuel){n:Ag}(hlv:∀ q∈fns,Lvl P w K mg base CL Pg n q){st:Bp}{f:Ak}{ps N:Ac An}{m id:Ag}(h2:FunX K x qual st f fd)(h4:ps.length=m)(h5:Ii fuel Ae fns bl rzs exs gls ps N st (Pg.defs id)=Aa):FnOk P w K mg base (CXR P w) (n+1) f fd ps (spD K CL m ((gam Pg (n+1)).fr id) ((gam Pg (n+1)).F id)):=by
  unfold Ii at h5;simp only[Ap,BK,BU,Gq,C7,K3,ne_eq]at h5;obtain⟨⟨⟨⟨⟨⟨⟨⟨c1,c2⟩,c3⟩,c4⟩,c5⟩,c6⟩,c7⟩,c8⟩,c9⟩:=h5;obtain⟨oc,od,dV,kV,doc,pm,an,cdv,ct,osl,rfl,lk,hcd⟩:=h2.ex;refine Xm (N:=N) lk hcd ⟨c1,c2,c3,Nn c4,c5,c6,c7⟩ (λvs H Q E ⟨ds,A,z,_⟩=>z.trans h4.symm) λA outer s H vs Q E hr ⟨ds,B,hl,hA,hreps,hpost⟩=>?_
  have xt:XT (gam Pg n).up (gam Pg n).xn CL rzs exs K mg:=by rw[fu,fj];exact t.xt
  have gl:∀ p∈gls,O2 K mg CL p.1 ((gam Pg n).G p.2):=by rw[aO];exact t.gl
  have key:∀ W:XW,(∀ x cls dx H',W x H'->Ic K CL H' cls dx x->E cls dx H')->CG K CL (λb o=>H b=Ab o) B W (evSs (gam Pg n) (Bv (Pg.defs id).n ds) (Pg.defs id).body) {nx:=λ_ H'=>Q .non H',rt:=Q} ->
      ∃ t,PSs (Hf (CXR P w) P w K mg base N qual (GS st) f cdv A outer s H E) (HY st) t/\t {nx:=λ_ H'=>Q .non H',rt:=Q} (start N vs) H:=λW hW hp=>by
    have v:VX (gam Pg n) CL n W ⟨GS st,N,fns,bl,rzs,exs,gls⟩ (Hf (CXR P w) P w K mg base N qual (GS st) f cdv A outer s H E):=⟨rfl,c1,rfl,Nn c4,rfl,hr,t.bln,hlv,ownR,bH hW,rzR hW,xt,gl⟩;exact⟨_,(R7 fuel).ss W _ _ _ (Pg.defs id).body v ⟨λ_=>rfl,rfl,rfl,rfl⟩ c9 (λb o=>H b=Ab o) B,_,jQ c8 hA hreps,hp⟩
  have no:∀ x cls dx H',W0 x H'->Ic K CL H' cls dx x->E cls dx H':=λ_ _ _ _ z=>z.elim
  have e:(gam Pg (n+1)).F id ds=HC Pg.xs ((evSs (gam Pg n) (Bv (Pg.defs id).n ds) (Pg.defs id).body).ans (Pg.defs id).fr):=rfl;rw[e,fw]at hpost;have cutO:∀ r:R D,(∀ x,r≠.exn x)->HC Pg.xs r=r:=λr hr=>by
    cases Pg.xs<;>cases r<;>first|rfl|exact absurd rfl (hr _)
  cases eo:evSs (gam Pg n) (Bv (Pg.defs id).n ds) (Pg.defs id).body with
  |next Y'=>
    refine key W0 no ?_;rw[eo]at hpost ⊢;cases ef:(Pg.defs id).fr with
    |true=>rw[ef]at hpost;rw[cutO _ (by intro x z;cases z)]at hpost;exact hpost.elim
    |false=>
      rw[ef]at hpost;rw[cutO _ (by intro x z;cases z)]at hpost
      exact λU' H' x'=>hpost .non H' (λb o z=>x'.same b o z) ⟨rfl,λz=>nomatch z⟩
  |ret d b=>
    refine key W0 no ?_;rw[eo]at hpost ⊢;intro v H' sm rp fr;have hp2:(match HC Pg.xs (if ((Pg.defs id).fr&&(!b&&isL d))=Aa then R.bad else R.ok d) with
      |.ok d=>∀ v H',AH H H'->Fi K CL (Pg.defs id).fr H B H' v d->Q v H'
      |.exn x=>∀ cls dx H',AH H H'->Ic K CL H' cls dx x->E cls dx H'
      | .bad=>Bu):=hpost
    cases ec:((Pg.defs id).fr&&(!b&&isL d)) with
    |true=>rw[ec,AF rfl,cutO _ (by intro x z;cases z)]at hp2;exact hp2.elim
    |false=>
      rw[ec,AN (by decide),cutO _ (by intro x z;cases z)]at hp2
      refine hp2 v H' sm ⟨rp,λefr es hd=>?_⟩
      subst hd;have eb:b=Aa:=by
        cases b with
        |true=>rfl
        |false=>rw[efr]at ec;cases ec
      obtain⟨a,xs,h1,h2,h3,h4⟩:=fr eb es rfl;refine⟨a,xs,h1,?_,h3,h4⟩;cases ha:H a with
      |none=>rfl
      |some o=>exact absurd ha (h2 o)
  |brk Y'=>rw[eo]at hpost;have hp2:(match HC Pg.xs (R.bad:R D) with | .ok _=>_ | .exn _=>_ | .bad=>Bu):=hpost;rw[cutO _ (by intro x z;cases z)]at hp2;exact hp2.elim
  |cont Y'=>rw[eo]at hpost;have hp2:(match HC Pg.xs (R.bad:R D) with | .ok _=>_ | .exn _=>_ | .bad=>Bu):=hpost;rw[cutO _ (by intro x z;cases z)]at hp2;exact hp2.elim
  |bad=>rw[eo]at hpost;have hp2:(match HC Pg.xs (R.bad:R D) with | .ok _=>_ | .exn _=>_ | .bad=>Bu):=hpost;rw[cutO _ (by intro x z;cases z)]at hp2;exact hp2.elim
  |exn x Y'=>
    rw[eo]at hpost;have hp2:(match HC Pg.xs (R.exn x:R D) with
      |.ok d=>∀ v H',AH H H'->Fi K CL (Pg.defs id).fr H B H' v d->Q v H'
      |.exn x=>∀ cls dx H',AH H H'->Ic K CL H' cls dx x->E cls dx H'
      | .bad=>Bu):=hpost
    cases ex:Pg.xs with
    |false=>rw[ex]at hp2;exact hp2.elim
    |true=>
      rw[ex]at hp2;have hp3:∀ cls dx H',AH H H'->Ic K CL H' cls dx x->E cls dx H':=hp2;refine key (λy H'=>y=x/\AH H H') (λy cls dx H' ⟨e1,sm⟩ xr=>?_) ?_
      · subst e1;exact hp3 cls dx H' sm xr
      · rw[eo];exact λH' sm=>⟨rfl,sm⟩
theorem ir(t:Tab K mg CL fns bl rzs exs gls Pg fuel){n:Ag}(hlv:∀ q∈fns,Lvl P w K mg base CL Pg n q){st:Bp}{f:Ak}{ps N:Ac An}{m id:Ag}(h2:FunX K x qual st f fd)(h4:ps.length=m)(h5:Ii fuel Aa fns bl rzs exs gls ps N st (Pg.defs id)=Aa):HotOk P w K mg base (n+1) f fd ps (spH K CL m ((gam Pg (n+1)).fr id) ((gam Pg (n+1)).F id)):=by
 exfalso
 unfold Ii at h5;simp[XH]at h5
theorem Q8(t:Tab K mg CL fns bl rzs exs gls Pg fuel):∀ n,∀ p∈fns,Lvl P w K mg base CL Pg n p
 |0,p,hp=>by
  obtain⟨f,fd,ps,qual,st,N,h1,h2,h3,h4,h5⟩:=t.fn p hp;exact⟨f,fd,ps,h1,h2.kp,h3,h4,λ_=>⟨λvs H Q E ⟨ds,A,_,_,_,z⟩=>z.elim,λA outer s H args us vs Q E _ _ _ _ ⟨ds,A,_,_,_,z⟩=>z.elim⟩,λ_=>⟨λvs H Q E ⟨ds,A,_,_,_,z⟩=>z.elim,λA ev outer s H args us vs Q E _ _ _ _ ⟨ds,A,_,_,_,z⟩=>z.elim⟩⟩
 |n+1,p,hp=>by
  obtain⟨f,fd,ps,qual,st,N,h1,h2,h3,h4,h5⟩:=t.fn p hp;refine⟨f,fd,ps,h1,h2.kp,h3,h4,λhlt=>?_,λhge=>?_⟩
  .have eb:ET 1000 p.2.2=Ae:=by
    cases e:ET 1000 p.2.2 with
    |false=>rfl
    |true=>exact absurd (Yy e) (by omega)
   rw[eb]at h5;exact WM t (λq hq=>Q8 t n q hq) h2 h4 h5
  .rw[CQ hge]at h5;exact ir t (λq hq=>Q8 t n q hq) h2 h4 h5
theorem di{s s':As}{e:Ai}(h:CXR P w [] H s (λ_ _ _=>Bu) e s'):Bu:=by
 obtain⟨_,_,_,_,_,_,_,_,_,_,_,_,_,_,_,z⟩:=h;exact z
theorem bX{c:Ag}(h:∀ ds,xn c ds=.bad\/xn c ds=.ok ⟨c,[]⟩)(e:LU K C Af=Aa)(ds:Ac D):xn c ds=.bad\/(xn c ds=.ok ⟨c,[]⟩/\LU K C Af=Aa)\/Bu:=(h ds).imp id λz=>.inl ⟨z,e⟩
theorem bU(dc:MT K C=Aa)(h1:CZ K (.ref C) "triple" = Ab Af)(h2:CZ K (.ref C) "points" = Ab Af)(f:An)(h:(f==("triple" : An)||f==("points" : An))=Aa):MT K C=Aa/\CZ K (.ref C) f=Ab Af:=by
 rw[C7]at h;rcases h with h|h
 .rw[eq_of_beq h];exact⟨dc,h1⟩
 .rw[eq_of_beq h];exact⟨dc,h2⟩
theorem oH{up:Ag->Ac Ag}(h:∀ c ds,xn c ds=.bad):XT up xn (λ_=>Af) [] [] K mg:=⟨λ_ _ z=>(nomatch z),λ_ z=>(nomatch z),λ_ z=>(nomatch z),λc _ ds z=>.inl (h c ds),λ_ _ z=>(nomatch z),λc _ ds=>h c ds⟩
structure XA (K:Fg) (c:An) (x:Ak) (i:Aq Ai):Prop where
 n:B8 K Bh c=Ab (Ab (.ref x))
 y:LU K x i=Aa
 dc:MT K x=Aa
 ft:CZ K (.ref x) "triple" = Ab Af
 fp:CZ K (.ref x) "points" = Ab Af
 ok:XcOk K x
structure XR (K:Fg) (mg:An->Aq Ai) (xn:Ag->Ac D->R Ex) (p:Ag×Ak):Prop where
 ok:XcOk K p.2
 nf:∀ f:An,(f==("triple" : An)||f==("points" : An))=Aa->MT K p.2=Aa/\CZ K (.ref p.2) f=Ab Af
 md:∀ ds,xn p.1 ds=.bad\/(xn p.1 ds=.ok ⟨p.1,[]⟩/\LU K p.2 Af=Aa)\/Bu
theorem XA.row{c:An}{x:Ak}(a:XA K c x Af)(h:∀ ds,xn k ds=.bad\/xn k ds=.ok ⟨k,[]⟩):XR K mg xn (k,x):=⟨a.ok,bU a.dc a.ft a.fp,bX h a.y⟩
def MO(K:Fg):Sp:=λvs H Q _=>∃(a:Ak)(ns:Ac Ad),vs=[.ref a]/\ns.length<=63/\SqL K H a (ns.map V.int)/\∀ v H',v=V.bl Aa->Q v H'
theorem law_fn{f:Ak}{F:Ac D->R D}(G:FnOk P w K mg base CX k f fd ps (spD K CL 1 Ae F))(h:∀ ns:Ac Ad,F [.lst (ns.map .int)]=.ok (.bl Aa)):FnOk P w K mg base CX k f fd ps (MO K):=G.imp λvs H Q E ⟨a,ns,e,hl,hS,q⟩=>by
 subst e;have rs:∀ l:Ac Ad,Reps K CL H A0 (l.map V.int) (l.map D.int):=λl=>by
  induction l with
  |nil=>trivial
  |cons x l ih=>exact⟨rfl,ih⟩
 refine⟨[.lst (ns.map .int)],A0,rfl,λ_ z=>z.elim,⟨⟨a,_,rfl,.inl (λz=>z),hS,rs ns⟩,trivial⟩,?_⟩
 rw[h ns];exact λv H' _ r=>q v H' r.1
theorem sA{f:Ak}{F:Ac D->R D}(G:FnOk P w K mg base CX k f fd ps (spD K CL 1 Ae F))(h:∀ ns:Ac Ad,ns.length<=63->F [.lst (ns.map .int)]=.ok (.bl Aa)):FnOk P w K mg base CX k f fd ps (MO K):=G.imp λvs H Q E ⟨a,ns,e,hl,hS,q⟩=>by
 subst e;have rs:∀ l:Ac Ad,Reps K CL H A0 (l.map V.int) (l.map D.int):=λl=>by
  induction l with
  |nil=>trivial
  |cons x l ih=>exact⟨rfl,ih⟩
 refine⟨[.lst (ns.map .int)],A0,rfl,λ_ z=>z.elim,⟨⟨a,_,rfl,.inl (λz=>z),hS,rs ns⟩,trivial⟩,?_⟩
 rw[h ns hl];exact λv H' _ r=>q v H' r.1
theorem QR{Q:α->Prop}:∀ x∈([]:Ac α),Q x:=λ_ h=>nomatch h
theorem all_cons{Q:α->Prop}{a:α}{l:Ac α}(h1:Q a)(h2:∀ x∈l,Q x):∀ x∈a::l,Q x:=List.forall_mem_cons.2 ⟨h1,h2⟩
def FnI(K:Fg)(f:Ak)(n:An)(st:Bp):Prop:=∃ fd,Fun K n n st f fd/\B8 K Bh n=Ab (Ab (.ref f))
theorem fni{n:An}{st:Bp}{f:Ak}{oc:Ai}{od an:Aq Ak}{osl:A6 (Aq Ai)}{kV doc pm cdv ct:Ai}(a:B8 K Bh n=Ab (Ab (.ref f)))(l:K.lookup f=Ab ⟨oc,od,.func (Ec n n (Kx st) (HY st) (GS st) .none kV doc pm an cdv ct),osl⟩)(c:F0 K cdv n=Aa)(k:DO K (.ref f)=Aa):FnI K f n st:=⟨_,fx l c k,a⟩
def Bd(n:An)(st:Bp)(ps:Ac An)(us:Ac Ai):Prop:=∀(kV doc pm:Ai)(an:Aq Ak)(cdv ct:Ai),Mb (Ec n n (Kx st) (HY st) (GS st) .none kV doc pm an cdv ct) ⟨us,[]⟩=pure (ps.zip us)
theorem NV{n:An}{f:Ak}{st:Bp}{ps N:Ac An}(m id:Ag)(X:K.In h)(G:h.Ns Bh mg)(A:FnI K f n st)(hl:ps.length=m%1000)(hc:Ii fuel (ET 1000 m) fns bl rzs exs gls ps N st (Pg.defs id)=Aa)(hb:∀ us:Ac Ai,us.length=ps.length->Bd n st ps us):LS K mg fns bl rzs exs gls Pg fuel (n,id,m):=by
 obtain⟨fd,F,a⟩:=A;exact⟨_,_,_,_,_,_,Jv X G a,Xi F,F.binds λkV doc pm an cdv ct us hu=>hb us hu kV doc pm an cdv ct,hl,hc⟩
theorem OC{l:Ac α}(h:l.length=0):l=[]:=List.eq_nil_of_length_eq_zero h
theorem II{l:Ac α}{n:Ag}(h:l.length=n+1):∃ a r,l=a::r/\r.length=n:=by
 cases l with
 |nil=>cases h
 |cons a r=>exact⟨a,r,rfl,HQ h⟩
theorem KN{n:An}{f:Ak}{st:Bp}{N:Ac An}(m id:Ag)(X:K.In h)(G:h.Ns Bh mg)(A:FnI K f n st)(hl:1=m%1000)(hc:Ii fuel (ET 1000 m) fns bl rzs exs gls [x0] N st (Pg.defs id)=Aa)(hb:∀ u0,Bd n st [x0] [u0]):LS K mg fns bl rzs exs gls Pg fuel (n,id,m):=
 NV (ps:=[x0]) m id X G A hl hc λus hu=>by obtain⟨u0,v0,rfl,h0⟩:=II hu;obtain rfl:=OC h0;exact hb u0
theorem DL{n:An}{f:Ak}{st:Bp}{N:Ac An}(m id:Ag)(X:K.In h)(G:h.Ns Bh mg)(A:FnI K f n st)(hl:2=m%1000)(hc:Ii fuel (ET 1000 m) fns bl rzs exs gls [x0,x1] N st (Pg.defs id)=Aa)(hb:∀ u0 u1,Bd n st [x0,x1] [u0,u1]):LS K mg fns bl rzs exs gls Pg fuel (n,id,m):=
 NV (ps:=[x0,x1]) m id X G A hl hc λus hu=>by obtain⟨u0,v0,rfl,h0⟩:=II hu;obtain⟨u1,v1,rfl,h1⟩:=II h0;obtain rfl:=OC h1;exact hb u0 u1
theorem FW{n:An}{f:Ak}{st:Bp}{N:Ac An}{x2:An}(m id:Ag)(X:K.In h)(G:h.Ns Bh mg)(A:FnI K f n st)(hl:3=m%1000)(hc:Ii fuel (ET 1000 m) fns bl rzs exs gls [x0,x1,x2] N st (Pg.defs id)=Aa)(hb:∀ u0 u1 u2,Bd n st [x0,x1,x2] [u0,u1,u2]):LS K mg fns bl rzs exs gls Pg fuel (n,id,m):=
 NV (ps:=[x0,x1,x2]) m id X G A hl hc λus hu=>by obtain⟨u0,v0,rfl,h0⟩:=II hu;obtain⟨u1,v1,rfl,h1⟩:=II h0;obtain⟨u2,v2,rfl,h2⟩:=II h1;obtain rfl:=OC h2;exact hb u0 u1 u2
theorem R9{n:An}{f:Ak}{st:Bp}{N:Ac An}{x2 x3:An}(m id:Ag)(X:K.In h)(G:h.Ns Bh mg)(A:FnI K f n st)(hl:4=m%1000)(hc:Ii fuel (ET 1000 m) fns bl rzs exs gls [x0,x1,x2,x3] N st (Pg.defs id)=Aa)(hb:∀ u0 u1 u2 u3,Bd n st [x0,x1,x2,x3] [u0,u1,u2,u3]):LS K mg fns bl rzs exs gls Pg fuel (n,id,m):=
 NV (ps:=[x0,x1,x2,x3]) m id X G A hl hc λus hu=>by obtain⟨u0,v0,rfl,h0⟩:=II hu;obtain⟨u1,v1,rfl,h1⟩:=II h0;obtain⟨u2,v2,rfl,h2⟩:=II h1;obtain⟨u3,v3,rfl,h3⟩:=II h2;obtain rfl:=OC h3;exact hb u0 u1 u2 u3
end
end Ov
namespace OvC
open PySem Ov
variable{p t k v i at_ N d:Ad}{xs ns:Ac Ad}{m n j:Ag}{Z:Gam}{s3 s4 s5 s7 s6:Sl}{RL:Ac D}{Y:Rho}{T A X PP DC:D}{kv:Ac (Ac Ad×D)}{α:Type}
noncomputable def P8:Df:=⟨4,Ae,(.cons (.ret (.call 1 (.cons (.var 0) (.cons (.bin .Add (.bin .Sub (.bin .Mult (.idx (.var 1) (.int 0)) (.bin .Sub (.bin .Mult (.idx (.var 2) (.int 1)) (.idx (.var 3) (.int 2))) (.bin .Mult (.idx (.var 2) (.int 2)) (.idx (.var 3) (.int 1))))) (.bin .Mult (.idx (.var 1) (.int 1)) (.bin .Sub (.bin .Mult (.idx (.var 2) (.int 0)) (.idx (.var 3) (.int 2))) (.bin .Mult (.idx (.var 2) (.int 2)) (.idx (.var 3) (.int 0)))))) (.bin .Mult (.idx (.var 1) (.int 2)) (.bin .Sub (.bin .Mult (.idx (.var 2) (.int 0)) (.idx (.var 3) (.int 1))) (.bin .Mult (.idx (.var 2) (.int 1)) (.idx (.var 3) (.int 0)))))) .nil)))) .nil)⟩
noncomputable abbrev tr(a b c:Ad):D:=.tup [.int a,.int b,.int c]
noncomputable def det(a0 a1 a2 b0 b1 b2 c0 c1 c2:Ad):Ad:=a0*(b1*c2-b2*c1)-a1*(b0*c2-b2*c0)+a2*(b0*c1-b1*c0)
def Sm(x:Ad):Prop:=0<=x/\x<11
theorem Sm.of(h:P4 p)(x:Ad):Sm (x%p):=⟨AS _ (by have:=h.pos;omega),by have:=AQ x h.pos;have:=h.hi;omega⟩
theorem Tn{body:D->Rho->O}(I:Rho->Prop)(g:Ad->Al):∀(L:Ac Ad),(∀ t∈L,∀ Y,I Y->(g t=Aa/\body (.int t) Y=.ret (.int t) Ae)\/(g t=Ae/\∃ Y',body (.int t) Y=.next Y'/\I Y'))->∀ Y,I Y->(∃ t∈L,g t=Aa/\B5 body (L.map D.int) Y=.ret (.int t) Ae)\/((∀ t∈L,g t=Ae)/\∃ Y',B5 body (L.map D.int) Y=.next Y'/\I Y')
 |[],_,Y,i=>.inr ⟨(λ_ h=>nomatch h),Y,rfl,i⟩
 |m::L,h,Y,i=>by
  rcases h m (Aw ..) Y i with ⟨e1,e2⟩|⟨e1,Y',e2,i'⟩
  .refine .inl ⟨m,Aw ..,e1,?_⟩;show (body (.int m) Y).turn _=_;rw[e2];rfl
  .rcases Tn I g L (λm' h'=>h m' (Av _ h')) Y' i' with ⟨t,ht,a,b⟩|⟨a,r,b,c⟩
   .refine .inl ⟨t,Av _ ht,a,?_⟩;show (body (.int m) Y).turn _=_;rw[e2];exact b
   .refine .inr ⟨λt ht=>?_,r,?_,c⟩
    .rcases Au.mp ht with rfl|ht
     .exact e1
     .exact a t ht
    .show (body (.int m) Y).turn _=_;rw[e2];exact b
noncomputable def K6:Ss:=(.cons (.ife (.cmp .Eq (.call 1 (.cons (.var 0) (.cons (.bin .Mult (.var 1) (.var 2)) .nil))) (.int 1)) (.cons (.ret (.var 2)) .nil) .nil) .nil)
noncomputable def M3:Df:=⟨3,Ae,(.cons (.fors 2 (.rng2 (.int 1) (.var 0)) K6) (.cons (.rais 2 (.cons (.str (By "a number with the rest 0 is not turned over")) .nil)) .nil))⟩
noncomputable def GY(p:Ad):Ac Ad:=(AZ (p-1).toNat).map fun(k:Ag)=>1+(k:Ad)
theorem Lm:t∈GY p↔1<=t/\t<p:=by
 unfold GY;rw[Bo];constructor
 .rintro⟨k,hk,rfl⟩;have:=A5.mp hk;omega
 .rintro⟨h1,h2⟩;exact⟨(t-1).toNat,A5.mpr (by omega),by omega⟩
theorem Ud(h:P4 p):CF 1 p=.ok ((GY p).map D.int):=by
 rcases h with rfl|rfl|rfl|rfl<;>rfl
theorem sE:∀ p:Fin 12,(p.val=3\/p.val=5\/p.val=7\/p.val=11)->∀ r:Fin 12,r.val<p.val->r.val≠0->∃ t:Fin 12,1<=t.val/\t.val<p.val/\r.val*t.val%p.val=1:=by decide+kernel
theorem Ia{n:Ad}(h:P4 p)(hn:n%p≠0):∃ t,1<=t/\t<p/\n*t%p=1:=by
 have p0:0<p/\p<12:=by rcases h with rfl|rfl|rfl|rfl<;>decide
 obtain⟨q,rfl⟩:∃ q:Ag,p=q:=⟨p.toNat,by omega⟩
 have h0:=AS n (b:=(q:Ad)) (by omega)
 have h1:=AQ n p0.1;obtain⟨r,hr⟩:∃ r:Ag,n%(q:Ad)=r:=⟨(n%(q:Ad)).toNat,by omega⟩
 obtain⟨t,t1,t2,t3⟩:=sE ⟨q,by omega⟩ (by rcases h with e|e|e|e<;>simp<;>omega) ⟨r,by omega⟩ (by show r<q;omega) (by show r≠0;omega)
 refine⟨(t.val:Ad),by omega,by show (t.val:Ad)<q;exact Int.ofNat_lt.mpr t2,?_⟩
 have e:((r*t.val%q:Ag):Ad)=1:=by rw[show r*t.val%q=1 from t3];rfl
 rw[<-e,Int.natCast_emod,Int.natCast_mul,<-hr];exact(BX n _ _).trans (by rw[BX (n%(q:Ad)) (t.val:Ad) (q:Ad),BD n (CA _)])
def E5(p n t:Ad):Prop:=1<=t/\t<p/\n*t%p=1
theorem Tw{n u:Ad}(h1:E5 p n t)(h2:E5 p n u):t=u:=by
 have hp:1<p:=by have:=h1.1;have:=h1.2.1;omega
 have e:t%p=u%p:=by
  have a:t%p=t*(n*u)%p:=by rw[BX,h2.2.2,EA,BD _ (CA p)]
  have b:u%p=(n*t)*u%p:=by rw[BX (n*t) u p,h1.2.2,Dz,BD _ (CA p)]
  rw[a,b]
  congr 1
  rw[<-Gn,BS t n]
 rw[AK (by have:=h1.1;omega) h1.2.1,AK (by have:=h2.1;omega) h2.2.1]at e
 exact e
theorem B6{c x:Ad}(hp:P4 p)(hc:c%p≠0)(hx:x%p≠0):c*x%p≠0:=λz=>by
 obtain⟨t,_,_,e⟩:=Ia hp hc;refine hx ?_;have e1:x%p=(c*t)*x%p:=by rw[BX (c*t) x p,e,Dz,BD _ (CA p)]
 rw[e1,show c*t*x=t*(c*x) by rw[BS c t,Gn],BX,z,CB,Be]
noncomputable def AW(p:Ad):Ac Ad->Aq Ad
 |[]=>Af
 |x::xs=>if x%p=0 then AW p xs else Ab (x%p)
theorem Jg{p:Ad}:∀{xs:Ac Ad},AW p xs=Af↔∀ x∈xs,x%p=0
 |[]=>by simp[AW]
 |x::xs=>by
  unfold AW;by_cases h:x%p=0
  .rw[AF h,Jg (xs:=xs)];simp[h]
  .rw[AN h];simp[h]
theorem Ir{p l:Ad}(hp:0<p):∀{xs:Ac Ad},AW p xs=Ab l->l%p≠0/\0<l/\l<p
 |[],h=>by cases h
 |x::xs,h=>by
  unfold AW at h;by_cases hx:x%p=0
  .rw[AF hx]at h;exact Ir hp h
  .rw[AN hx]at h;cases h;have h0:=AS x (b:=p) (by omega)
   have h1:=AQ x hp;exact⟨by rw[BD _ (CA p)];exact hx,by omega,h1⟩
theorem Ln{p c:Ad}(hp:P4 p)(hc:c%p≠0){f:Ad->Ad}(hf:∀ x,f x%p=c*x%p):∀ xs:Ac Ad,AW p (xs.map f)=(AW p xs).map λl=>c*l%p
 |[]=>rfl
 |x::xs=>by
  rw[Bm];unfold AW;rw[hf x];by_cases hx:x%p=0
  .rw[AF hx,AF (by rw[BX,hx,CB,Be]),Ln hp hc hf xs]
  .rw[AN hx,AN (B6 hp hc hx),EY]
   congr 1
   rw[BX c (x%p),BD _ (CA p),<-BX]
noncomputable def ds(xs:Ac Ad):Ac D:=xs.map D.int
noncomputable def Dt(b:Al)(xs:Ac Ad):D:=if b=Aa then .tup (ds xs) else .lst (ds xs)
theorem Ql(b xs):Ch (Dt b xs)=.ok (ds xs):=by unfold Dt;cases b<;>rfl
theorem Kl{g:D->R Al}{f:D->R D}{φ:Ad->Ad}:∀(xs:Ac Ad),(∀ x∈xs,g (.int x)=.ok Aa/\f (.int x)=.ok (.int (φ x)))->BR g f (ds xs)=.ok (ds (xs.map φ))
 |[],_=>rfl
 |x::xs,h=>by
  obtain⟨h1,h2⟩:=h x (Aw ..);show (g (.int x)).bind _=_;rw[h1,R.bind_ok,AF rfl,h2,R.bind_ok];show (BR g f (ds xs)).bind _=_;rw[Kl xs λy hy=>h y (Av _ hy)]
  rfl
noncomputable def CM:E:=(.bl Aa)
noncomputable def Po:E:=(.call 1 (.cons (.var 0) (.cons (.var 5) .nil)))
noncomputable def Pl:E:=(.call 1 (.cons (.var 0) (.cons (.bin .Mult (.var 4) (.var 6)) .nil)))
noncomputable def HW:Ss:=(.cons (.ife (.cmp .NotEq (.var 3) (.int 0)) (.cons (.asg 4 Ae (.call 9 (.cons (.var 0) (.cons (.var 3) .nil)))) (.cons (.ret (.bi .tuple (.cons (.comp Pl 6 (.e (.var 2)) CM) .nil))) .nil)) .nil) .nil)
noncomputable def Nr:Df:=⟨7,Ae,(.cons (.asg 2 Ae (.comp Po 5 (.e (.var 1)) CM)) (.cons (.fors 3 (.e (.var 2)) HW) (.cons (.rais 3 (.cons (.str (By "all the numbers have the rest 0")) .nil)) .nil)))⟩
noncomputable def fmI(p t:Ad)(xs:Ac Ad):Ac Ad:=xs.map λx=>t*(x%p)%p
section
variable{Z:Gam}{p:Ad}{xs:Ac Ad}{b:Al}
end
theorem Nc{g:D->R Al}{f:D->R D}{q:Ad->Al}:∀(xs:Ac Ad),(∀ x∈xs,g (.int x)=.ok (q x)/\f (.int x)=.ok (.int x))->BR g f (ds xs)=.ok (ds (xs.filter q))
 |[],_=>rfl
 |x::xs,h=>by
  obtain⟨h1,h2⟩:=h x (Aw ..);have ih:=Nc xs λy hy=>h y (Av _ hy)
  show (g (.int x)).bind _=_;rw[h1,R.bind_ok];cases hq:q x with
  |true=>
   rw[AF rfl,h2,R.bind_ok,DK,hq,AF rfl];show (BR g f (ds xs)).bind _=_;rw[ih];rfl
  |false=>
   rw[AN (by decide),DK,hq,AN (by decide)]
   exact ih
theorem S9{p:Ad}(hp:0<p):∀(xs:Ac Ad),((xs.map λx=>x%p).filter λr=>decide (0<r)).head?=AW p xs
 |[]=>rfl
 |x::xs=>by
  have h0:=AS x (b:=p) (by omega)
  unfold AW;rw[Bm,DK];by_cases h:x%p=0
  .rw[AF h,AN (by simp[h]),S9 hp xs]
  .rw[AN h,AF (by simp;omega)]
   rfl
theorem iK{p l t:Ad}(it:E5 p l t):((GY p).filter λk=>decide (k*l%p=1)).head?=Ab t:=by
 have hm:t∈(GY p).filter λk=>decide (k*l%p=1):=CC.mpr ⟨Lm.mpr ⟨it.1,it.2.1⟩,by simp[BS t l,it.2.2]⟩
 cases e:(GY p).filter λk=>decide (k*l%p=1) with
 |nil=>rw[e]at hm;cases hm
 |cons u us=>
  have hu:u∈(GY p).filter λk=>decide (k*l%p=1):=by rw[e];exact Aw ..
  obtain⟨h1,h2⟩:=CC.mp hu;obtain⟨a,b⟩:=Lm.mp h1;have h3:u*l%p=1:=by simpa using h2
  rw[Tw it ⟨a,b,by rw[BS];exact h3⟩]
  rfl
theorem Qd{l:Ad}(h:xs.head?=Ab l):DH (ds xs) 0=.ok (.int l):=by
 cases xs with
 |nil=>cases h
 |cons x xs=>cases h;exact QC (by omega) rfl
theorem WK:∀ xs:Ac Ad,eqDs (ds xs) (ds xs)=Aa
 |[]=>rfl
 |x::xs=>by
  show (eqD (.int x) (.int x)&&eqDs (ds xs) (ds xs))=Aa;rw[WK xs];simp
theorem UM:∀ xs:Ac Ad,GA (xs.map λ_=>D.bl Aa)=.ok Aa
 |[]=>rfl
 |x::xs=>by
  rw[Bm,Qm,UM xs];rfl
theorem V4{g:D->R Al}{f:D->R D}:∀(xs:Ac Ad),(∀ x∈xs,g (.int x)=.ok Aa/\f (.int x)=.ok (.bl Aa))->BR g f (ds xs)=.ok (xs.map λ_=>D.bl Aa)
 |[],_=>rfl
 |x::xs,h=>by
  obtain⟨h1,h2⟩:=h x (Aw ..);show (g (.int x)).bind _=_;rw[h1,R.bind_ok,AF rfl,h2,R.bind_ok];show (BR g f (ds xs)).bind _=_;rw[V4 xs λy hy=>h y (Av _ hy)]
  rfl
noncomputable abbrev own(xs:Ac Ad):Sl:=Ab (.lst (ds xs),Aa)
section
variable{Z:Gam}{ns:Ac Ad}{a1 a2 a4 a6 a7 a8 a9 b0 b1 b2 b3 b4:Sl}{p:Ad}
end
section
variable{Z:Gam}{ns:Ac Ad}{a1 a4 a6 a7 a8 a9 b2 b3 b4:Sl}{p m:Ad}{xs:Ac Ad}
end
def Cg(p x y:Ad):Prop:=x%p=y%p
section
variable{p a b c d:Ad}
theorem Cg.rfl:Cg p a a:=Eq.refl _
theorem Cg.of(h:a=b):Cg p a b:=by unfold Cg;rw[h]
theorem Cg.trans{a b c:Ad}(h:Cg p a b)(g:Cg p b c):Cg p a c:=IV h g
theorem Cg.symm(h:Cg p a b):Cg p b a:=MY h
theorem Cg.add(h:Cg p a b)(g:Cg p c d):Cg p (a+c) (b+d):=by unfold Cg at *;rw[XV,h,g,<-XV]
theorem Cg.sub(h:Cg p a b)(g:Cg p c d):Cg p (a-c) (b-d):=by unfold Cg at *;rw[X6,h,g,<-X6]
theorem Cg.mul(h:Cg p a b)(g:Cg p c d):Cg p (a*c) (b*d):=by unfold Cg at *;rw[BX,h,g,<-BX]
theorem Cg.md(h:a=b%p):Cg p a b:=by unfold Cg;rw[h,BD _ (CA p)]
end
theorem Jj{p a0 a1 a2 b0 b1 b2 c0 c1 c2 x0 x1 x2 y0 y1 y2 z0 z1 z2:Ad}(h0:Cg p a0 x0)(h1:Cg p a1 x1)(h2:Cg p a2 x2)(h3:Cg p b0 y0)(h4:Cg p b1 y1)(h5:Cg p b2 y2)(h6:Cg p c0 z0)(h7:Cg p c1 z1)(h8:Cg p c2 z2):Cg p (a0*(b1*c2-b2*c1)-a1*(b0*c2-b2*c0)+a2*(b0*c1-b1*c0)) (x0*(y1*z2-y2*z1)-x1*(y0*z2-y2*z0)+x2*(y0*z1-y1*z0)):=
 ((h0.mul ((h4.mul h8).sub (h5.mul h7))).sub (h1.mul ((h3.mul h8).sub (h5.mul h6)))).add (h2.mul ((h3.mul h7).sub (h4.mul h6)))
theorem P4.m1(h:P4 p):(-1:Ad)%p≠0:=by rcases h with rfl|rfl|rfl|rfl<;>decide
theorem P4.o1(h:P4 p):(1:Ad)%p≠0:=by rcases h with rfl|rfl|rfl|rfl<;>decide
abbrev R3:=Ad×Ad×Ad
variable{a x' x y r g y':R3}{L pts:Ac R3}
noncomputable def Ee(a:R3):D:=.lst [.int a.1,.int a.2.1,.int a.2.2]
noncomputable def Am(a b c:R3):Ad:=det a.1 a.2.1 a.2.2 b.1 b.2.1 b.2.2 c.1 c.2.1 c.2.2
def In3(p:Ad)(a:R3):Prop:=(0<=a.1/\a.1<p)/\(0<=a.2.1/\a.2.1<p)/\(0<=a.2.2/\a.2.2<p)
structure GoodR (p:Ad) (a b c:R3):Prop where
 p4:P4 p
 ia:In3 p a
 ib:In3 p b
 ic:In3 p c
 nz:Am a b c%p≠0
theorem GoodR.of{a b c a' b' c':R3}(h:GoodR p a b c)(hk:k%p≠0)(e:Cg p (Am a' b' c') (k*Am a b c))(hin:In3 p a'/\In3 p b'/\In3 p c'):GoodR p a' b' c':=⟨h.p4,hin.1,hin.2.1,hin.2.2,by rw[show Am a' b' c'%p=_ from e];exact B6 h.p4 hk h.nz⟩
noncomputable def OS(t:Ad)(a:R3):R3:=(a.1*t,a.2.1*t,a.2.2*t)
noncomputable def Hg(t:Ad)(a b:R3):R3:=(a.1+t*b.1,a.2.1+t*b.2.1,a.2.2+t*b.2.2)
noncomputable def mdR(p:Ad)(a:R3):R3:=(a.1%p,a.2.1%p,a.2.2%p)
noncomputable def scR(p t:Ad)(a:R3):R3:=mdR p (OS t a)
noncomputable def adR(p t:Ad)(a b:R3):R3:=mdR p (Hg t a b)
theorem Oc(h:0<p)(a:R3):In3 p (mdR p a):=⟨⟨AS _ (by omega),AQ _ h⟩,⟨AS _ (by omega),AQ _ h⟩,⟨AS _ (by omega),AQ _ h⟩⟩
theorem ou(h:0<p)(t:Ad)(a:R3):In3 p (scR p t a):=Oc h _
theorem LQ(h:0<p)(t:Ad)(a b:R3):In3 p (adR p t a b):=Oc h _
theorem fK(p t:Ad)(a b c:R3):Cg p (Am (scR p t a) b c) (t*Am a b c):=by
 refine Cg.trans (b:=Am (OS t a) b c) ?_ (Cg.of (by unfold Am det OS;grind))
 unfold Am det;exact Jj (Cg.md (by rfl)) (Cg.md (by rfl)) (Cg.md (by rfl)) Cg.rfl Cg.rfl Cg.rfl Cg.rfl Cg.rfl Cg.rfl
theorem cQ(p t:Ad)(a b c:R3):Cg p (Am (adR p t a b) b c) (1*Am a b c):=by
 refine Cg.trans (b:=Am (Hg t a b) b c) ?_ (Cg.of (by unfold Am det Hg;grind))
 unfold Am det;exact Jj (Cg.md (by rfl)) (Cg.md (by rfl)) (Cg.md (by rfl)) Cg.rfl Cg.rfl Cg.rfl Cg.rfl Cg.rfl Cg.rfl
theorem cP(p t:Ad)(a b c:R3):Cg p (Am (adR p t a c) b c) (1*Am a b c):=by
 refine Cg.trans (b:=Am (Hg t a c) b c) ?_ (Cg.of (by unfold Am det Hg;grind))
 unfold Am det;exact Jj (Cg.md (by rfl)) (Cg.md (by rfl)) (Cg.md (by rfl)) Cg.rfl Cg.rfl Cg.rfl Cg.rfl Cg.rfl Cg.rfl
theorem cO(p t:Ad)(a b c:R3):Cg p (Am a (adR p t b a) c) (1*Am a b c):=by
 refine Cg.trans (b:=Am a (Hg t b a) c) ?_ (Cg.of (by unfold Am det Hg;grind))
 unfold Am det;exact Jj Cg.rfl Cg.rfl Cg.rfl (Cg.md (by rfl)) (Cg.md (by rfl)) (Cg.md (by rfl)) Cg.rfl Cg.rfl Cg.rfl
theorem cN(p t:Ad)(a b c:R3):Cg p (Am a (adR p t b c) c) (1*Am a b c):=by
 refine Cg.trans (b:=Am a (Hg t b c) c) ?_ (Cg.of (by unfold Am det Hg;grind))
 unfold Am det;exact Jj Cg.rfl Cg.rfl Cg.rfl (Cg.md (by rfl)) (Cg.md (by rfl)) (Cg.md (by rfl)) Cg.rfl Cg.rfl Cg.rfl
theorem cK(p t:Ad)(a b c:R3):Cg p (Am a b (adR p t c a)) (1*Am a b c):=by
 refine Cg.trans (b:=Am a b (Hg t c a)) ?_ (Cg.of (by unfold Am det Hg;grind))
 unfold Am det;exact Jj Cg.rfl Cg.rfl Cg.rfl Cg.rfl Cg.rfl Cg.rfl (Cg.md (by rfl)) (Cg.md (by rfl)) (Cg.md (by rfl))
theorem cJ(p t:Ad)(a b c:R3):Cg p (Am a b (adR p t c b)) (1*Am a b c):=by
 refine Cg.trans (b:=Am a b (Hg t c b)) ?_ (Cg.of (by unfold Am det Hg;grind))
 unfold Am det;exact Jj Cg.rfl Cg.rfl Cg.rfl Cg.rfl Cg.rfl Cg.rfl (Cg.md (by rfl)) (Cg.md (by rfl)) (Cg.md (by rfl))/-! ### draws -/
theorem vE(h0:0<=k)(h1:k<ns.length):DH (ns.map D.int) k=.ok (.int (ns.getD k.toNat 0)):=QC h0 (by
 have:k.toNat<ns.length:=by omega
 simp[this])
noncomputable abbrev ownR(a b c:R3):Sl:=Ab (.lst [Ee a,Ee b,Ee c],Aa)
section
variable{Z:Gam}{ns:Ac Ad}{at_ many s5 s0 s1 s2:Sl}{p t m:Ad}{a b c:R3}
end
section
variable{Z:Gam}{ns:Ac Ad}{many s5 s6 s7 s8 s9 s0 s1 s2:Sl}{p:Ad}{a b c:R3}
end
noncomputable def Hd(a b c:R3):D:=.lst [Ee a,Ee b,Ee c]
noncomputable def Pd:E:=(.bin .Mod (.var 5) (.var 0))
noncomputable def Pa:E:=(.cmp .Gt (.var 6) (.int 0))
noncomputable def K7:E:=(.var 6)
noncomputable def O9:E:=(.cmp .Eq (.bin .Mod (.bin .Mult (.var 7) (.var 3)) (.var 0)) (.int 1))
noncomputable def Pc:E:=(.var 7)
noncomputable def Pb:E:=(.bin .Mod (.bin .Mult (.var 8) (.var 4)) (.var 0))
noncomputable def Pp:Df:=⟨9,Ae,(.cons (.asg 2 Ae (.comp Pd 5 (.e (.var 1)) CM)) (.cons (.asg 3 Ae (.idx (.comp K7 6 (.e (.var 2)) Pa) (.int 0))) (.cons (.asg 4 Ae (.idx (.comp Pc 7 (.rng2 (.int 1) (.var 0)) O9) (.int 0))) (.cons (.ret (.bi .tuple (.cons (.comp Pb 8 (.e (.var 2)) CM) .nil))) .nil))))⟩
theorem qS(Z:Gam){b:Al}{l t:Ad}(hp:P4 p)(e:AW p xs=Ab l)(it:E5 p l t):Pp.run Z [.int p,Dt b xs]=.ok (.tup (ds (fmI p t xs))):=by
 have p0:=hp.pos;have ph:=hp.hi;have c1:BR (cG Z [si p,sh (Dt b xs),Af,Af,Af,Af,Af,Af,Af] 5 CM) (cF Z [si p,sh (Dt b xs),Af,Af,Af,Af,Af,Af,Af] 5 Pd) (ds xs)=.ok (ds (xs.map λx=>x%p)):=by
  refine Kl xs λx _=>⟨rfl,?_⟩
  simp[cF,Pd,p0]
 generalize hR:(xs.map λx=>x%p)=rs at c1
 have c2:BR (cG Z [si p,sh (Dt b xs),sh (.lst (ds rs)),Af,Af,Af,Af,Af,Af] 6 Pa) (cF Z [si p,sh (Dt b xs),sh (.lst (ds rs)),Af,Af,Af,Af,Af,Af] 6 K7) (ds rs)=.ok (ds (rs.filter λr=>decide (0<r))):=by
  refine Nc rs λx _=>⟨?_,?_⟩
  .simp[cG,Pa]
  .simp[cF,K7]
 have hl:=S9 p0 xs;rw[hR,e]at hl;generalize hL:(rs.filter λr=>decide (0<r))=ls at c2 hl
 have g0:=Qd hl;obtain⟨_,l0,l1⟩:=Ir p0 e;have c3:BR (cG Z [si p,sh (Dt b xs),sh (.lst (ds rs)),si l,Af,Af,Af,Af,Af] 7 O9) (cF Z [si p,sh (Dt b xs),sh (.lst (ds rs)),si l,Af,Af,Af,Af,Af] 7 Pc) (ds (GY p))=.ok (ds ((GY p).filter λk=>decide (k*l%p=1))):=by
  refine Nc (GY p) λx hx=>⟨?_,?_⟩
  .obtain⟨x1,x2⟩:=Lm.mp hx;have m:DZ x l=Aa:=HZ (by omega) (by omega)
   simp[cG,O9,m,p0];rw[CS];simp
  .simp[cF,Pc]
 have g1:=Qd (iK it);have c4:BR (cG Z [si p,sh (Dt b xs),sh (.lst (ds rs)),si l,si t,Af,Af,Af,Af] 8 CM) (cF Z [si p,sh (Dt b xs),sh (.lst (ds rs)),si l,si t,Af,Af,Af,Af] 8 Pb) (ds rs)=.ok (ds (rs.map λr=>t*r%p)):=by
  refine Kl rs λx _=>⟨rfl,?_⟩
  have m:DZ x t=Aa:=NL (by have:=it.1;omega) (by have:=it.2.1;omega)
  simp[cF,Pb,m,p0,BS]
 have ru:CF 1 p=.ok (ds (GY p)):=Ud hp;have fe:fmI p t xs=rs.map λr=>t*r%p:=by rw[<-hR];simp[fmI,Ea,HF]
 simp[Pp,Df.run,Bv,Ql,c1,c2,g0,ru,c3,g1,c4,fe]
noncomputable def nine(a b c:R3):Ac Ad:=[a.1,a.2.1,a.2.2,b.1,b.2.1,b.2.2,c.1,c.2.1,c.2.2]
noncomputable def trR(a:R3):D:=.tup [.int a.1,.int a.2.1,.int a.2.2]
noncomputable def Cj(a b c:R3):D:=.tup [trR a,trR b,trR c]
noncomputable def fmR(p t:Ad)(a:R3):R3:=(t*(a.1%p)%p,t*(a.2.1%p)%p,t*(a.2.2%p)%p)
theorem vH(p t:Ad)(a b c:R3):fmI p t (nine a b c)=nine (fmR p t a) (fmR p t b) (fmR p t c):=rfl
theorem Mm{a b c:R3}(h:Am a b c%p≠0):∃ l,AW p (nine a b c)=Ab l:=by
 cases e:AW p (nine a b c) with
 |some l=>exact⟨l,rfl⟩
 |none=>
  refine absurd ?_ h;have z:=Jg.mp e;have q:∀ x∈nine a b c,Cg p x 0:=λx hx=>by
   have:=z x hx;show x%p=0%p;rw[this];simp
  have:=Jj (p:=p) (q a.1 (by simp[nine])) (q a.2.1 (by simp[nine])) (q a.2.2 (by simp[nine])) (q b.1 (by simp[nine])) (q b.2.1 (by simp[nine])) (q b.2.2 (by simp[nine])) (q c.1 (by simp[nine])) (q c.2.1 (by simp[nine])) (q c.2.2 (by simp[nine]))
  have e2:Am a b c%p=(0*(0*0-0*0)-0*(0*0-0*0)+0*(0*0-0*0))%p:=this;rw[e2];simp
theorem fL(a b c:R3):slD (.tup (ds (nine a b c))) Af (Ab 3)=.ok (trR a)/\slD (.tup (ds (nine a b c))) (Ab 3) (Ab 6)=.ok (trR b)/\slD (.tup (ds (nine a b c))) (Ab 6) Af=.ok (trR c):=⟨rfl,rfl,rfl⟩
theorem nS(a b c:R3):Dg .Add (Ee a) (Ee b)=.ok (.lst [.int a.1,.int a.2.1,.int a.2.2,.int b.1,.int b.2.1,.int b.2.2])/\Dg .Add (.lst [.int a.1,.int a.2.1,.int a.2.2,.int b.1,.int b.2.1,.int b.2.2]) (Ee c)=.ok (.lst (ds (nine a b c))):=⟨rfl,rfl⟩
def Bd(n:Ag)(x:Ad):Prop:=x.natAbs<2 ^ n
theorem Bd.mul{x y:Ad}(h:Bd m x)(g:Bd n y):Bd (m+n) (x*y):=by
 unfold Bd at *;rw[Int.natAbs_mul,Nat.pow_add];exact Nat.mul_lt_mul'' h g
theorem Bd.sub{x y:Ad}(h:Bd n x)(g:Bd n y):Bd (n+1) (x-y):=by
 unfold Bd at *;rw[Nat.pow_succ];omega
theorem GV{x y:Ad}(h:Bd m x)(g:Bd n y)(hm:m<=2000)(hn:n<=2000):Fh x y=Aa:=by
 unfold Fh Bd at *;rw[Ap,Bj,Bj];exact⟨AI h (Fn (by decide) hm),AI g (Fn (by decide) hn)⟩
def B3(a:R3):Prop:=Bd 300 a.1/\Bd 300 a.2.1/\Bd 300 a.2.2
noncomputable def Aj(q:Al)(a:R3):D:=Dt q [a.1,a.2.1,a.2.2]
theorem Fs(q:Al)(a:R3):Cr (Aj q a) (.int 0)=.ok (.int a.1)/\Cr (Aj q a) (.int 1)=.ok (.int a.2.1)/\Cr (Aj q a) (.int 2)=.ok (.int a.2.2):=by cases q<;>exact⟨rfl,rfl,rfl⟩
def Hw(Z:Gam):Prop:=∀(p:Ad)(q:Al)(a b c:R3),0<p->B3 a->B3 b->B3 c->Z.F 61 [.int p,Aj q a,Aj q b,Aj q c]=.ok (.int (Am a b c%p))
theorem qO(h:Ib Z)(p:Ad)(q:Al)(a b c:R3)(hp:0<p)(ha:B3 a)(hb:B3 b)(hc:B3 c):P8.run Z [.int p,Aj q a,Aj q b,Aj q c]=.ok (.int (Am a b c%p)):=by
 obtain⟨a0,a1,a2⟩:=Fs q a;obtain⟨b0,b1,b2⟩:=Fs q b;obtain⟨c0,c1,c2⟩:=Fs q c;have k:∀ {x y},Bd 300 x->Bd 300 y->Fh x y=Aa:=λhx hy=>GV hx hy (by decide) (by decide)
 have k2:∀ {x y z u v},Bd 300 x->Bd 300 y->Bd 300 z->Bd 300 u->Bd 300 v->Fh x (y*z-u*v)=Aa:=λhx hy hz hu hv=>GV hx ((hy.mul hz).sub (hu.mul hv)) (by decide) (by decide)
 simp[P8,Df.run,Bv,a0,a1,a2,b0,b1,b2,c0,c1,c2,k hb.2.1 hc.2.2,k hb.2.2 hc.2.1,k hb.1 hc.2.2,k hb.2.2 hc.1,k hb.1 hc.2.1,k hb.2.1 hc.1,k2 ha.1 hb.2.1 hc.2.2 hb.2.2 hc.2.1,k2 ha.2.1 hb.1 hc.2.2 hb.2.2 hc.1,k2 ha.2.2 hb.1 hc.2.1 hb.2.1 hc.1,h p _ hp];rfl
noncomputable def Qi:Df:=⟨3,Ae,(.cons (.ife (.cmp .Eq (.call 61 (.cons (.var 0) (.cons (.idx (.var 1) (.int 0)) (.cons (.idx (.var 1) (.int 1)) (.cons (.idx (.var 1) (.int 2)) .nil))))) (.int 0)) (.cons (.rais 4 (.cons (.str (By "the measure of the rows is 0")) .nil)) .nil) .nil) (.cons (.asg 2 Ae (.call 17 (.cons (.var 0) (.cons (.bin .Add (.bin .Add (.bi .list (.cons (.idx (.var 1) (.int 0)) .nil)) (.bi .list (.cons (.idx (.var 1) (.int 1)) .nil))) (.bi .list (.cons (.idx (.var 1) (.int 2)) .nil))) .nil)))) (.cons (.ret (.tup (.cons (.sl (.var 2) .non (.int 3)) (.cons (.sl (.var 2) (.int 3) (.int 6)) (.cons (.sl (.var 2) (.int 6) .non) .nil))))) .nil)))⟩
theorem h9(q:Al)(a:R3):biD .list [Aj q a]=.ok (Ee a):=by cases q<;>rfl
section
variable{Z:Gam}{ns:Ac Ad}{p t:Ad}{a b c r:R3}{made s6 s7:Sl}
end
theorem Mn{p:Ad}:∀{xs ys:Ac Ad},xs.map (λx=>x%p)=ys.map (λx=>x%p)->AW p xs=AW p ys
 |[],[],_=>rfl
 |x::xs,y::ys,h=>by
  rw[Bm,Bm,Yd]at h;unfold AW;rw[h.1,Mn h.2]
 |[],_::_,h=>by simp at h
 |_::_,[],h=>by simp at h
theorem Vc{ys:Ac Ad}(h:xs.map (λx=>x%p)=ys.map (λx=>x%p)):fmI p t xs=fmI p t ys:=by
 have e:∀ zs:Ac Ad,fmI p t zs=(zs.map λx=>x%p).map λr=>t*r%p:=λzs=>by simp[fmI,Ea,HF]
 rw[e,e,h]
theorem F9(hp:0<p)(t:Ad)(a:R3):In3 p (fmR p t a):=⟨⟨AS _ (by omega),AQ _ hp⟩,⟨AS _ (by omega),AQ _ hp⟩,⟨AS _ (by omega),AQ _ hp⟩⟩
section
variable{Z:Gam}{ns:Ac Ad}{p m:Ad}{a b c:R3}{fa fb fc:R3}{q:Al}{s9 s0 s1 s2:Sl}
end
def Qv(Z:Gam):Prop:=∀ p n:Ad,P4 p->n%p≠0->∃ t,1<=t/\t<p/\n*t%p=1/\Z.F 9 [.int p,.int n]=.ok (.int t)
def NI(Z:Gam):Prop:=∀(p:Ad)(b:Al)(xs:Ac Ad)(l t:Ad),P4 p->AW p xs=Ab l->E5 p l t->Z.F 17 [.int p,Dt b xs]=.ok (.tup (ds (fmI p t xs)))
theorem jI(hr:Ib Z)(p n:Ad)(hp:P4 p)(z:n%p≠0):∃ t,1<=t/\t<p/\n*t%p=1/\M3.run Z [.int p,.int n]=.ok (.int t):=by
 have p0:=hp.pos;have ph:=hp.hi;have body:∀ t∈GY p,∀ Y,(∃ s,Y=[si p,si n,s])->(decide (n*t%p=1)=Aa/\AY Z 2 K6 (.int t) Y=.ret (.int t) Ae)\/(decide (n*t%p=1)=Ae/\∃ Y',AY Z 2 K6 (.int t) Y=.next Y'/\∃ s,Y'=[si p,si n,s]):=by
  rintro t ht Y ⟨s,rfl⟩;obtain⟨t1,t2⟩:=Lm.mp ht;have m:DZ n t=Aa:=NL (by omega) (by omega)
  by_cases e:n*t%p=1
  .exact .inl ⟨by simp[e],by simp[AY,K6,hr p (n*t) p0,m,e,Do]⟩
  .exact .inr ⟨by simp[e],_,by simp[AY,K6,hr p (n*t) p0,m,e];rfl,_,rfl⟩
 have run:∀ o,B5 (AY Z 2 K6) ((GY p).map D.int) [si p,si n,Af]=o->M3.run Z [.int p,.int n]=(Ge Z (.cons (.rais 2 (.cons (.str (By "a number with the rest 0 is not turned over")) .nil)) .nil) o).ans Ae:=by
  rintro o rfl;simp[M3,Df.run,Bv,Ud hp]
 rcases Tn (λY=>∃ s,Y=[si p,si n,s]) (λt=>decide (n*t%p=1)) (GY p) body [si p,si n,Af] ⟨_,rfl⟩ with ⟨t,ht,a,b⟩|⟨a,r,b,s,rfl⟩
 .obtain⟨t1,t2⟩:=Lm.mp ht;have a':n*t%p=1:=by simpa using a
  exact⟨t,t1,t2,a',by rw[run _ b];rfl⟩
 .obtain⟨t,t1,t2,e⟩:=Ia hp z;have:=a t (Lm.mpr ⟨t1,t2⟩);simp[e]at this
section
variable{Z:Gam}{p:Ad}{xs:Ac Ad}{b:Al}
theorem U_0(hr:Ib Z)(ht:Qv Z)(hp:P4 p)(rs:Ac Ad):∀(ys:Ac Ad),(∀ y∈ys,0<=y/\y<p)->∀ s3,(AW p ys=Af->∃ s3',B5 (AY Z 3 HW) (ds ys) [si p,sh (Dt b xs),sh (.lst (ds rs)),s3,Af,Af,Af]=.next [si p,sh (Dt b xs),sh (.lst (ds rs)),s3',Af,Af,Af])/\(∀ l t,AW p ys=Ab l->E5 p l t->B5 (AY Z 3 HW) (ds ys) [si p,sh (Dt b xs),sh (.lst (ds rs)),s3,Af,Af,Af]=.ret (.tup (ds (rs.map λr=>t*r%p))) Ae)
 |[],_,s3=>⟨λ_=>⟨s3,rfl⟩,(λl t h=>nomatch h)⟩
 |y::ys,hy,s3=>by
  obtain⟨y0,y1⟩:=hy y (Aw ..);have ym:y%p=y:=AK y0 y1;have ih:=U_0 hr ht hp rs ys (λz hz=>hy z (Av _ hz)) (si y)
  have step:∀ o,AY Z 3 HW (.int y) [si p,sh (Dt b xs),sh (.lst (ds rs)),s3,Af,Af,Af]=o->B5 (AY Z 3 HW) (ds (y::ys)) [si p,sh (Dt b xs),sh (.lst (ds rs)),s3,Af,Af,Af]=o.turn (B5 (AY Z 3 HW) (ds ys)):=by
   rintro o rfl;rfl
  unfold AW;rw[ym];by_cases hz:y=0
  .have e:AY Z 3 HW (.int y) [si p,sh (Dt b xs),sh (.lst (ds rs)),s3,Af,Af,Af]=.next [si p,sh (Dt b xs),sh (.lst (ds rs)),si y,Af,Af,Af]:=by
    simp[AY,HW,hz]
   rw[AF hz,step _ e];exact ih
  .rw[AN hz];refine⟨(λz=>nomatch z),λl t e it=>?_⟩
   cases e;obtain⟨u,u1,u2,u3,u4⟩:=ht p y hp (by rw[ym];exact hz)
   have:t=u:=Tw it ⟨u1,u2,u3⟩;subst this;have p0:=hp.pos;have ph:=hp.hi;have cp:BR (cG Z [si p,sh (Dt b xs),sh (.lst (ds rs)),si y,si t,Af,Af] 6 CM) (cF Z [si p,sh (Dt b xs),sh (.lst (ds rs)),si y,si t,Af,Af] 6 Pl) (ds rs)=.ok (ds (rs.map λr=>t*r%p)):=by
    refine Kl rs λr _=>⟨rfl,?_⟩
    have m:DZ t r=Aa:=HZ (by omega) (by omega)
    simp[cF,Pl,m,hr p (t*r) p0]
   have e:AY Z 3 HW (.int y) [si p,sh (Dt b xs),sh (.lst (ds rs)),s3,Af,Af,Af]=.ret (.tup (ds (rs.map λr=>t*r%p))) Ae:=by
    simp[AY,HW,hz,u4,cp,Do]
   rw[step _ e];rfl
theorem qR(hr:Ib Z)(ht:Qv Z)(hp:P4 p){l t:Ad}(e:AW p xs=Ab l)(it:E5 p l t):Nr.run Z [.int p,Dt b xs]=.ok (.tup (ds (fmI p t xs))):=by
 have p0:=hp.pos;have cp:BR (cG Z [si p,sh (Dt b xs),Af,Af,Af,Af,Af] 5 CM) (cF Z [si p,sh (Dt b xs),Af,Af,Af,Af,Af] 5 Po) (ds xs)=.ok (ds (xs.map λx=>x%p)):=by
  refine Kl xs λx _=>⟨rfl,?_⟩
  simp[cF,Po,hr p x p0]
 have run:∀ o,B5 (AY Z 3 HW) (ds (xs.map λx=>x%p)) [si p,sh (Dt b xs),sh (.lst (ds (xs.map λx=>x%p))),Af,Af,Af,Af]=o->Nr.run Z [.int p,Dt b xs]=(Ge Z (.cons (.rais 3 (.cons (.str (By "all the numbers have the rest 0")) .nil)) .nil) o).ans Ae:=by
  rintro o rfl;simp[Nr,Df.run,Bv,Ql,cp]
 have le:AW p (xs.map λx=>x%p)=AW p xs:=by
  have:=Ln (c:=1) hp (by rcases hp with rfl|rfl|rfl|rfl<;>decide) (f:=λx=>x%p) (λx=>by rw[Dz,BD _ (CA p)]) xs
  rw[this];cases e:AW p xs with
  |none=>rfl
  |some l=>
   obtain⟨_,l0,l1⟩:=Ir p0 e;simp[AK (Int.le_of_lt l0) l1]
 obtain⟨a,c⟩:=U_0 (b:=b) (xs:=xs) hr ht hp (xs.map λx=>x%p) (xs.map λx=>x%p) (λy hy=>by
  obtain⟨x,_,rfl⟩:=Bo.mp hy;exact⟨AS _ (by omega),AQ _ p0⟩) Af
 rw[le]at a c;rw[run _ (c l t e it)];simp[fmI,Ea,HF]
end
noncomputable def Da(t q:Al)(a b c:R3):D:=if t=Aa then .tup [Aj q a,Aj q b,Aj q c] else .lst [Aj q a,Aj q b,Aj q c]
theorem OK(t q:Al)(a b c:R3):Cr (Da t q a b c) (.int 0)=.ok (Aj q a)/\Cr (Da t q a b c) (.int 1)=.ok (Aj q b)/\Cr (Da t q a b c) (.int 2)=.ok (Aj q c):=by cases t<;>exact⟨rfl,rfl,rfl⟩
theorem NT(q:Al)(a:R3):Ch (Aj q a)=.ok [.int a.1,.int a.2.1,.int a.2.2]:=by cases q<;>rfl
theorem SK(t q:Al)(a b c:R3):Ch (Da t q a b c)=.ok [Aj q a,Aj q b,Aj q c]:=by cases t<;>rfl
noncomputable def BG(a b c:R3):R3:=(a.1,b.1,c.1)
noncomputable def BF(a b c:R3):R3:=(a.2.1,b.2.1,c.2.1)
noncomputable def BE(a b c:R3):R3:=(a.2.2,b.2.2,c.2.2)
noncomputable def Qs:Df:=⟨1,Ae,(.cons (.ret (.tupI (.zip3 (.idx (.var 0) (.int 0)) (.idx (.var 0) (.int 1)) (.idx (.var 0) (.int 2))))) .nil)⟩
def ML(Z:Gam):Prop:=∀(t q:Al)(a b c:R3),Z.F 104 [Da t q a b c]=.ok (Da Aa Aa (BG a b c) (BF a b c) (BE a b c))
theorem cy(Z:Gam)(t q:Al)(a b c:R3):Qs.run Z [Da t q a b c]=.ok (Da Aa Aa (BG a b c) (BF a b c) (BE a b c)):=by
 obtain⟨r0,r1,r2⟩:=OK t q a b c;have z:LD (Aj q a) (Aj q b) (Aj q c)=.ok [Aj Aa (BG a b c),Aj Aa (BF a b c),Aj Aa (BE a b c)]:=by
  unfold LD;rw[NT,NT,NT];rfl
 simp[Qs,Df.run,Bv,r0,r1,r2,z];rfl
noncomputable def AC(a x:R3):Ad:=a.1*x.1+a.2.1*x.2.1+a.2.2*x.2.2
noncomputable def Nf:E:=(.call 1 (.cons (.var 0) (.cons (.bin .Add (.bin .Add (.bin .Mult (.idx (.var 3) (.int 0)) (.idx (.var 2) (.int 0))) (.bin .Mult (.idx (.var 3) (.int 1)) (.idx (.var 2) (.int 1)))) (.bin .Mult (.idx (.var 3) (.int 2)) (.idx (.var 2) (.int 2)))) .nil)))
noncomputable def P7:Df:=⟨4,Ae,(.cons (.ret (.bi .tuple (.cons (.comp Nf 3 (.e (.var 1)) CM) .nil))) .nil)⟩
def Ri(Z:Gam):Prop:=∀(p:Ad)(t q q':Al)(a b c x:R3),0<p->B3 a->B3 b->B3 c->B3 x->Z.F 91 [.int p,Da t q a b c,Aj q' x]=.ok (Aj Aa (AC a x%p,AC b x%p,AC c x%p))
theorem bz(h:Ib Z)(p:Ad)(t q q':Al)(a b c x:R3)(hp:0<p)(ha:B3 a)(hb:B3 b)(hc:B3 c)(hx:B3 x):P7.run Z [.int p,Da t q a b c,Aj q' x]=.ok (Aj Aa (AC a x%p,AC b x%p,AC c x%p)):=by
 obtain⟨x0,x1,x2⟩:=Fs q' x;have k:∀ {u v},Bd 300 u->Bd 300 v->Fh u v=Aa:=λhu hv=>GV hu hv (by decide) (by decide)
 have key:∀ r:R3,B3 r->cF Z [si p,sh (Da t q a b c),sh (Aj q' x),Af] 3 Nf (Aj q r)=.ok (.int (AC r x%p)):=λr hr=>by
  obtain⟨y0,y1,y2⟩:=Fs q r;simp[cF,Nf,x0,x1,x2,y0,y1,y2,k hr.1 hx.1,k hr.2.1 hx.2.1,k hr.2.2 hx.2.2,h p _ hp];rfl
 have g:∀ r,cG Z [si p,sh (Da t q a b c),sh (Aj q' x),Af] 3 CM r=.ok Aa:=λ_=>rfl
 have cp:BR (cG Z [si p,sh (Da t q a b c),sh (Aj q' x),Af] 3 CM) (cF Z [si p,sh (Da t q a b c),sh (Aj q' x),Af] 3 Nf) [Aj q a,Aj q b,Aj q c]=.ok [.int (AC a x%p),.int (AC b x%p),.int (AC c x%p)]:=by
  simp[BR,g,key a ha,key b hb,key c hc]
 simp[P7,Df.run,Bv,SK,cp];rfl
noncomputable def crs(a b:R3):R3:=(a.2.1*b.2.2-a.2.2*b.2.1,a.2.2*b.1-a.1*b.2.2,a.1*b.2.1-a.2.1*b.1)
theorem Vs:∀ xs ys:Ac Ad,eqDs (ds xs) (ds ys)=decide (xs=ys)
 |[],[]=>rfl
 |[],_::_=>rfl
 |_::_,[]=>rfl
 |x::xs,y::ys=>by
  show ((x==y)&&eqDs (ds xs) (ds ys))=_;rw[Vs xs ys,CS];simp
theorem LA(a b:R3):eqD (Aj Aa a) (Aj Aa b)=decide (a=b):=by
 show eqDs (ds [a.1,a.2.1,a.2.2]) (ds [b.1,b.2.1,b.2.2])=_;rw[Vs,CS];simp only[Yd,Hi,Bj];exact⟨λ⟨h1,h2,h3⟩=>by obtain⟨a1,a2,a3⟩:=a;obtain⟨b1,b2,b3⟩:=b;simp at h1 h2 h3;rw[h1,h2,h3],λh=>by rw[h];exact⟨rfl,rfl,rfl⟩⟩
def VY(Z:Gam):Prop:=∀ a b:R3,B3 a->B3 b->a≠b->Z.F 23 [Aj Aa a,Aj Aa b]=.ok (Aj Aa (crs a b))
noncomputable def PF:Df:=⟨1,Ae,(.cons (.ret (.tup (.cons (.call 23 (.cons (.idx (.var 0) (.int 1)) (.cons (.idx (.var 0) (.int 2)) .nil))) (.cons (.call 23 (.cons (.idx (.var 0) (.int 2)) (.cons (.idx (.var 0) (.int 0)) .nil))) (.cons (.call 23 (.cons (.idx (.var 0) (.int 0)) (.cons (.idx (.var 0) (.int 1)) .nil))) .nil))))) .nil)⟩
def VW(Z:Gam):Prop:=∀ a b c:R3,B3 a->B3 b->B3 c->a≠b->b≠c->c≠a->Z.F 98 [Da Aa Aa a b c]=.ok (Da Aa Aa (crs b c) (crs c a) (crs a b))
theorem qX(h:VY Z)(a b c:R3)(ha:B3 a)(hb:B3 b)(hc:B3 c)(n1:a≠b)(n2:b≠c)(n3:c≠a):PF.run Z [Da Aa Aa a b c]=.ok (Da Aa Aa (crs b c) (crs c a) (crs a b)):=by
 obtain⟨r0,r1,r2⟩:=OK Aa Aa a b c;simp[PF,Df.run,Bv,r0,r1,r2,h b c hb hc n2,h c a hc ha n3,h a b ha hb n1];rfl
def N4(Z:Gam):Prop:=∀(p:Ad)(t q:Al)(a b c:R3),P4 p->B3 a->B3 b->B3 c->Am a b c%p≠0->∀ l u,AW p (nine a b c)=Ab l->E5 p l u->Z.F 78 [.int p,Da t q a b c]=.ok (Cj (fmR p u a) (fmR p u b) (fmR p u c))
theorem bt(hm:Hw Z)(hf:NI Z)(p:Ad)(t q:Al)(a b c:R3)(hp:P4 p)(ha:B3 a)(hb:B3 b)(hc:B3 c)(z:Am a b c%p≠0)(l u:Ad)(e:AW p (nine a b c)=Ab l)(it:E5 p l u):Qi.run Z [.int p,Da t q a b c]=.ok (Cj (fmR p u a) (fmR p u b) (fmR p u c)):=by
 obtain⟨r0,r1,r2⟩:=OK t q a b c;have m:=hm p q a b c hp.pos ha hb hc;have f:=hf p Ae (nine a b c) l u hp e it;rw[vH]at f;have f':Z.F 17 [.int p,.lst (ds (nine a b c))]=.ok (.tup (ds (nine (fmR p u a) (fmR p u b) (fmR p u c)))):=f;obtain⟨x1,x2⟩:=nS a b c;obtain⟨y1,y2,y3⟩:=fL (fmR p u a) (fmR p u b) (fmR p u c);simp[Qi,Df.run,Bv,r0,r1,r2,m,z,h9,x1,x2,f',y1,y2,y3,slE];rfl
noncomputable def PR:Df:=⟨2,Ae,(.cons (.ret (.call 78 (.cons (.var 0) (.cons (.call 104 (.cons (.call 98 (.cons (.var 1) .nil)) .nil)) .nil)))) .nil)⟩
noncomputable def bk0(a b c:R3):R3:=BG (crs b c) (crs c a) (crs a b)
noncomputable def bk1(a b c:R3):R3:=BF (crs b c) (crs c a) (crs a b)
noncomputable def bk2(a b c:R3):R3:=BE (crs b c) (crs c a) (crs a b)
def Rk(Z:Gam):Prop:=∀(p:Ad)(a b c:R3),P4 p->In3 p a->In3 p b->In3 p c->Am a b c%p≠0->∀ l u,AW p (nine (bk0 a b c) (bk1 a b c) (bk2 a b c))=Ab l->E5 p l u->Z.F 106 [.int p,Cj a b c]=.ok (Cj (fmR p u (bk0 a b c)) (fmR p u (bk1 a b c)) (fmR p u (bk2 a b c)))
theorem JU{x:Ad}(hp:P4 p)(h0:0<=x)(h1:x<p):Bd 10 x:=by
 unfold Bd;have:=hp.hi;omega
theorem Bd.mono{x:Ad}(h:Bd m x)(hm:m<=n):Bd n x:=AI h (Fn (by decide) hm)
def Bn(n:Ag)(a:R3):Prop:=Bd n a.1/\Bd n a.2.1/\Bd n a.2.2
theorem Bn.b3(h:Bn n a)(hn:n<=300):B3 a:=⟨h.1.mono hn,h.2.1.mono hn,h.2.2.mono hn⟩
theorem Cy(hp:P4 p)(h:In3 p a):Bn 10 a:=⟨JU hp h.1.1 h.1.2,JU hp h.2.1.1 h.2.1.2,JU hp h.2.2.1 h.2.2.2⟩
theorem RU{a b:R3}(ha:Bn n a)(hb:Bn n b):Bn (n+n+1) (crs a b):=
 ⟨(ha.2.1.mul hb.2.2).sub (ha.2.2.mul hb.2.1),(ha.2.2.mul hb.1).sub (ha.1.mul hb.2.2),(ha.1.mul hb.2.1).sub (ha.2.1.mul hb.1)⟩
theorem RV{a b c:R3}(ha:Bn n a)(hb:Bn n b)(hc:Bn n c):Bn n (BG a b c)/\Bn n (BF a b c)/\Bn n (BE a b c):=⟨⟨ha.1,hb.1,hc.1⟩,⟨ha.2.1,hb.2.1,hc.2.1⟩,⟨ha.2.2,hb.2.2,hc.2.2⟩⟩
theorem dh{a b c:R3}(z:Am a b c%p≠0):a≠b/\b≠c/\c≠a:=by
 refine⟨λe=>z ?_,λe=>z ?_,λe=>z ?_⟩
 .subst e;rw[show Am a a c=0 by unfold Am det;grind,Be]
 .subst e;rw[show Am a b b=0 by unfold Am det;grind,Be]
 .subst e;rw[show Am c b c=0 by unfold Am det;grind,Be]
theorem N2(a b c:R3):Am (bk0 a b c) (bk1 a b c) (bk2 a b c)=Am a b c*Am a b c:=by
 unfold Am det bk0 bk1 bk2 BG BF BE crs;grind
theorem d5(h1:VW Z)(h2:ML Z)(h3:N4 Z)(p:Ad)(a b c:R3)(hp:P4 p)(ha:In3 p a)(hb:In3 p b)(hc:In3 p c)(z:Am a b c%p≠0)(l u:Ad)(e:AW p (nine (bk0 a b c) (bk1 a b c) (bk2 a b c))=Ab l)(it:E5 p l u):PR.run Z [.int p,Cj a b c]=.ok (Cj (fmR p u (bk0 a b c)) (fmR p u (bk1 a b c)) (fmR p u (bk2 a b c))):=by
 have ba:=Cy hp ha;have bb:=Cy hp hb;have bc:=Cy hp hc;obtain⟨n1,n2,n3⟩:=dh z;have e1:Z.F 98 [Cj a b c]=.ok (Da Aa Aa (crs b c) (crs c a) (crs a b)):=h1 a b c (ba.b3 (by decide)) (bb.b3 (by decide)) (bc.b3 (by decide)) n1 n2 n3
 have e2:=h2 Aa Aa (crs b c) (crs c a) (crs a b);obtain⟨c0,c1,c2⟩:=RV (RU bb bc) (RU bc ba) (RU ba bb);have z2:Am (bk0 a b c) (bk1 a b c) (bk2 a b c)%p≠0:=by rw[N2];exact B6 hp z z
 have e3:Z.F 78 [.int p,Da Aa Aa (BG (crs b c) (crs c a) (crs a b)) (BF (crs b c) (crs c a) (crs a b)) (BE (crs b c) (crs c a) (crs a b))]=.ok (Cj (fmR p u (bk0 a b c)) (fmR p u (bk1 a b c)) (fmR p u (bk2 a b c))):=h3 p Aa Aa _ _ _ hp (c0.b3 (by decide)) (c1.b3 (by decide)) (c2.b3 (by decide)) z2 l u e it
 simp[PR,Df.run,Bv,e1,e2,e3]
noncomputable def mlR(p:Ad)(x a b c:R3):R3:=(AC (BG a b c) x%p,AC (BF a b c) x%p,AC (BE a b c) x%p)
noncomputable def Nv:E:=(.call 91 (.cons (.var 0) (.cons (.var 3) (.cons (.var 4) .nil))))
noncomputable def QQ:Df:=⟨5,Ae,(.cons (.asg 3 Ae (.call 104 (.cons (.var 2) .nil))) (.cons (.ret (.call 78 (.cons (.var 0) (.cons (.comp Nv 4 (.e (.var 1)) CM) .nil)))) .nil))⟩
def VZ(Z:Gam):Prop:=∀(p:Ad)(x y z a b c:R3),P4 p->In3 p x->In3 p y->In3 p z->In3 p a->In3 p b->In3 p c->Am (mlR p x a b c) (mlR p y a b c) (mlR p z a b c)%p≠0->∀ l u,AW p (nine (mlR p x a b c) (mlR p y a b c) (mlR p z a b c))=Ab l->E5 p l u ->
 Z.F 105 [.int p,Cj x y z,Cj a b c]=.ok (Cj (fmR p u (mlR p x a b c)) (fmR p u (mlR p y a b c)) (fmR p u (mlR p z a b c)))
theorem RJ(hp:0<p)(x a b c:R3):In3 p (mlR p x a b c):=⟨⟨AS _ (by omega),AQ _ hp⟩,⟨AS _ (by omega),AQ _ hp⟩,⟨AS _ (by omega),AQ _ hp⟩⟩
theorem qY(h2:ML Z)(hs:Ri Z)(h3:N4 Z)(p:Ad)(x y z a b c:R3)(hp:P4 p)(hx:In3 p x)(hy:In3 p y)(hz:In3 p z)(ha:In3 p a)(hb:In3 p b)(hc:In3 p c)(nz:Am (mlR p x a b c) (mlR p y a b c) (mlR p z a b c)%p≠0)(l u:Ad)(e:AW p (nine (mlR p x a b c) (mlR p y a b c) (mlR p z a b c))=Ab l)(it:E5 p l u):QQ.run Z [.int p,Cj x y z,Cj a b c]=.ok (Cj (fmR p u (mlR p x a b c)) (fmR p u (mlR p y a b c)) (fmR p u (mlR p z a b c))):=by
 have p0:=hp.pos;have e1:Z.F 104 [Cj a b c]=.ok (Da Aa Aa (BG a b c) (BF a b c) (BE a b c)):=h2 Aa Aa a b c;obtain⟨c0,c1,c2⟩:=RV (Cy hp ha) (Cy hp hb) (Cy hp hc);have es:∀ r:R3,In3 p r->Z.F 91 [.int p,Da Aa Aa (BG a b c) (BF a b c) (BE a b c),Aj Aa r]=.ok (Aj Aa (mlR p r a b c)):=λr hr=>hs p Aa Aa Aa _ _ _ r p0 (c0.b3 (by decide)) (c1.b3 (by decide)) (c2.b3 (by decide)) ((Cy hp hr).b3 (by decide))
 have key:∀ r:R3,In3 p r->cF Z [si p,sh (Cj x y z),sh (Cj a b c),sh (Da Aa Aa (BG a b c) (BF a b c) (BE a b c)),Af] 4 Nv (Aj Aa r)=.ok (Aj Aa (mlR p r a b c)):=λr hr=>by
  simp[cF,Nv,es r hr]
 have g:∀ r,cG Z [si p,sh (Cj x y z),sh (Cj a b c),sh (Da Aa Aa (BG a b c) (BF a b c) (BE a b c)),Af] 4 CM r=.ok Aa:=λ_=>rfl
 have sq:Ch (Cj x y z)=.ok [Aj Aa x,Aj Aa y,Aj Aa z]:=rfl;have cp:BR (cG Z [si p,sh (Cj x y z),sh (Cj a b c),sh (Da Aa Aa (BG a b c) (BF a b c) (BE a b c)),Af] 4 CM) (cF Z [si p,sh (Cj x y z),sh (Cj a b c),sh (Da Aa Aa (BG a b c) (BF a b c) (BE a b c)),Af] 4 Nv) [Aj Aa x,Aj Aa y,Aj Aa z]=.ok [Aj Aa (mlR p x a b c),Aj Aa (mlR p y a b c),Aj Aa (mlR p z a b c)]:=by
  simp[BR,g,key x hx,key y hy,key z hz]
 have e3:Z.F 78 [.int p,.lst [Aj Aa (mlR p x a b c),Aj Aa (mlR p y a b c),Aj Aa (mlR p z a b c)]]=.ok (Cj (fmR p u (mlR p x a b c)) (fmR p u (mlR p y a b c)) (fmR p u (mlR p z a b c))):=
  h3 p Ae Aa _ _ _ hp ((Cy hp (RJ p0 x a b c)).b3 (by decide)) ((Cy hp (RJ p0 y a b c)).b3 (by decide)) ((Cy hp (RJ p0 z a b c)).b3 (by decide)) nz l u e it
 simp[QQ,Df.run,Bv,e1,sq,cp,e3]
noncomputable def PN:E:=(.bin .Mult (.var 0) (.var 2))
noncomputable def QI:Df:=⟨3,Ae,(.cons (.ret (.comp PN 2 (.e (.var 1)) CM)) .nil)⟩
def nV(Z:Gam):Prop:=∀(k:Ad)(a:R3),0<=k->k<100->Z.F 110 [.int k,Aj Aa a]=.ok (Aj Ae (k*a.1,k*a.2.1,k*a.2.2))
theorem mE(Z:Gam)(k:Ad)(a:R3)(h0:0<=k)(h1:k<100):QI.run Z [.int k,Aj Aa a]=.ok (Aj Ae (k*a.1,k*a.2.1,k*a.2.2)):=by
 have m:∀ x,DZ k x=Aa:=λx=>HZ (by omega) (by omega)
 have key:∀ x:Ad,cF Z [si k,sh (Aj Aa a),Af] 2 PN (.int x)=.ok (.int (k*x)):=λx=>by
  simp[cF,PN,m]
 have g:∀ x,cG Z [si k,sh (Aj Aa a),Af] 2 CM x=.ok Aa:=λ_=>rfl
 simp[QI,Df.run,Bv,NT,BR,g,key];rfl
noncomputable def E2(a b c d:R3):D:=.lst [Aj Aa a,Aj Aa b,Aj Aa c,Aj Aa d]
noncomputable def Bs(k:Ad)(a:R3):R3:=(k*a.1,k*a.2.1,k*a.2.2)
theorem sD(a b c d:R3):Cr (E2 a b c d) (.int 0)=.ok (Aj Aa a)/\Cr (E2 a b c d) (.int 1)=.ok (Aj Aa b)/\Cr (E2 a b c d) (.int 2)=.ok (Aj Aa c)/\Cr (E2 a b c d) (.int 3)=.ok (Aj Aa d):=⟨rfl,rfl,rfl,rfl⟩
noncomputable def Pq:Df:=⟨3,Ae,(.cons (.asg 2 Ae (.tup (.cons (.call 110 (.cons (.call 61 (.cons (.var 0) (.cons (.idx (.var 1) (.int 3)) (.cons (.idx (.var 1) (.int 1)) (.cons (.idx (.var 1) (.int 2)) .nil))))) (.cons (.idx (.var 1) (.int 0)) .nil))) (.cons (.call 110 (.cons (.call 61 (.cons (.var 0) (.cons (.idx (.var 1) (.int 0)) (.cons (.idx (.var 1) (.int 3)) (.cons (.idx (.var 1) (.int 2)) .nil))))) (.cons (.idx (.var 1) (.int 1)) .nil))) (.cons (.call 110 (.cons (.call 61 (.cons (.var 0) (.cons (.idx (.var 1) (.int 0)) (.cons (.idx (.var 1) (.int 1)) (.cons (.idx (.var 1) (.int 3)) .nil))))) (.cons (.idx (.var 1) (.int 2)) .nil))) .nil))))) (.cons (.ret (.call 78 (.cons (.var 0) (.cons (.call 104 (.cons (.var 2) .nil)) .nil)))) .nil))⟩
noncomputable def fk0(p:Ad)(a b c d:R3):Ad:=Am d b c%p
noncomputable def fk1(p:Ad)(a b c d:R3):Ad:=Am a d c%p
noncomputable def fk2(p:Ad)(a b c d:R3):Ad:=Am a b d%p
noncomputable def fs0(p:Ad)(a b c d:R3):R3:=Bs (fk0 p a b c d) a
noncomputable def fs1(p:Ad)(a b c d:R3):R3:=Bs (fk1 p a b c d) b
noncomputable def fs2(p:Ad)(a b c d:R3):R3:=Bs (fk2 p a b c d) c
noncomputable def fr0(p:Ad)(a b c d:R3):R3:=BG (fs0 p a b c d) (fs1 p a b c d) (fs2 p a b c d)
noncomputable def fr1(p:Ad)(a b c d:R3):R3:=BF (fs0 p a b c d) (fs1 p a b c d) (fs2 p a b c d)
noncomputable def fr2(p:Ad)(a b c d:R3):R3:=BE (fs0 p a b c d) (fs1 p a b c d) (fs2 p a b c d)
def SZ(Z:Gam):Prop:=∀(p:Ad)(a b c d:R3),P4 p->In3 p a->In3 p b->In3 p c->In3 p d->Am (fr0 p a b c d) (fr1 p a b c d) (fr2 p a b c d)%p≠0->∀ l u,AW p (nine (fr0 p a b c d) (fr1 p a b c d) (fr2 p a b c d))=Ab l->E5 p l u ->
 Z.F 111 [.int p,E2 a b c d]=.ok (Cj (fmR p u (fr0 p a b c d)) (fmR p u (fr1 p a b c d)) (fmR p u (fr2 p a b c d)))
theorem Sa(hk:Bd n k)(ha:Bn m a):Bn (n+m) (Bs k a):=⟨hk.mul ha.1,hk.mul ha.2.1,hk.mul ha.2.2⟩
theorem eF(hm:Hw Z)(hs:nV Z)(h2:ML Z)(h3:N4 Z)(p:Ad)(a b c d:R3)(hp:P4 p)(ha:In3 p a)(hb:In3 p b)(hc:In3 p c)(hd:In3 p d)(z:Am (fr0 p a b c d) (fr1 p a b c d) (fr2 p a b c d)%p≠0)(l u:Ad)(e:AW p (nine (fr0 p a b c d) (fr1 p a b c d) (fr2 p a b c d))=Ab l)(it:E5 p l u):Pq.run Z [.int p,E2 a b c d]=.ok (Cj (fmR p u (fr0 p a b c d)) (fmR p u (fr1 p a b c d)) (fmR p u (fr2 p a b c d))):=by
 have p0:=hp.pos;have ph:=hp.hi;have ba:=(Cy hp ha).b3 (by decide)
 have bb:=(Cy hp hb).b3 (by decide)
 have bc:=(Cy hp hc).b3 (by decide)
 have bd:=(Cy hp hd).b3 (by decide)
 obtain⟨x0,x1,x2,x3⟩:=sD a b c d;have m0:=hm p Aa d b c p0 bd bb bc;have m1:=hm p Aa a d c p0 ba bd bc;have m2:=hm p Aa a b d p0 ba bb bd;have k0:0<=Am d b c%p/\Am d b c%p<p:=⟨AS _ (by omega),AQ _ p0⟩
 have k1:0<=Am a d c%p/\Am a d c%p<p:=⟨AS _ (by omega),AQ _ p0⟩
 have k2:0<=Am a b d%p/\Am a b d%p<p:=⟨AS _ (by omega),AQ _ p0⟩
 have s0:Z.F 110 [.int (Am d b c%p),Aj Aa a]=.ok (Aj Ae (Bs (Am d b c%p) a)):=hs (Am d b c%p) a k0.1 (by omega)
 have s1:Z.F 110 [.int (Am a d c%p),Aj Aa b]=.ok (Aj Ae (Bs (Am a d c%p) b)):=hs (Am a d c%p) b k1.1 (by omega)
 have s2:Z.F 110 [.int (Am a b d%p),Aj Aa c]=.ok (Aj Ae (Bs (Am a b d%p) c)):=hs (Am a b d%p) c k2.1 (by omega)
 have e2:Z.F 104 [.tup [Aj Ae (Bs (Am d b c%p) a),Aj Ae (Bs (Am a d c%p) b),Aj Ae (Bs (Am a b d%p) c)]]=.ok (Da Aa Aa (fr0 p a b c d) (fr1 p a b c d) (fr2 p a b c d)):=h2 Aa Ae _ _ _;obtain⟨c0,c1,c2⟩:=RV (Sa (JU hp k0.1 k0.2) (Cy hp ha)) (Sa (JU hp k1.1 k1.2) (Cy hp hb)) (Sa (JU hp k2.1 k2.2) (Cy hp hc));have e3:=h3 p Aa Aa (fr0 p a b c d) (fr1 p a b c d) (fr2 p a b c d) hp (c0.b3 (by decide)) (c1.b3 (by decide)) (c2.b3 (by decide)) z l u e it
 simp[Pq,Df.run,Bv,x0,x1,x2,x3,m0,m1,m2,s0,s1,s2,e2,e3]
noncomputable def JR:Ss:=(.cons (.ife (.cmp .Eq (.call 61 (.cons (.var 0) (.cons (.var 3) (.cons (.idx (.var 1) (.var 4)) (.cons (.idx (.var 1) (.var 5)) .nil))))) (.int 0)) (.cons (.ret (.tup (.cons (.var 3) (.cons (.idx (.var 1) (.var 4)) (.cons (.idx (.var 1) (.var 5)) .nil))))) .nil) .nil) .nil)
noncomputable def Kd:Ss:=(.cons (.fors 5 (.rng2 (.bin .Add (.var 4) (.int 1)) (.bi .len (.cons (.var 1) .nil))) JR) .nil)
noncomputable def HV:Ss:=(.cons (.fors 4 (.rng2 (.bin .Add (.var 2) (.int 1)) (.bi .len (.cons (.var 1) .nil))) Kd) .nil)
noncomputable def K4:Df:=⟨6,Ae,(.cons (.forT [2,3] (.enm (.var 1)) HV) (.cons (.ret .non) .nil))⟩
theorem mJ(p:Ad)(a b c d:D){m0 m1 m2 m3:Ad}(h0:Z.F 61 [.int p,a,b,c]=.ok (.int m0))(h1:Z.F 61 [.int p,a,b,d]=.ok (.int m1))(h2:Z.F 61 [.int p,a,c,d]=.ok (.int m2))(h3:Z.F 61 [.int p,b,c,d]=.ok (.int m3))(n0:m0≠0)(n1:m1≠0)(n2:m2≠0)(n3:m3≠0):K4.run Z [.int p,.lst [a,b,c,d]]=.ok .non:=by
 have x0:DH [a,b,c,d] 0=.ok a:=rfl;have x1:DH [a,b,c,d] 1=.ok b:=rfl;have x2:DH [a,b,c,d] 2=.ok c:=rfl;have x3:DH [a,b,c,d] 3=.ok d:=rfl;have r14:CF 1 4=.ok [.int 1,.int 2,.int 3]:=rfl;have r24:CF 2 4=.ok [.int 2,.int 3]:=rfl;have r34:CF 3 4=.ok [.int 3]:=rfl;have r44:CF 4 4=.ok []:=rfl;simp[K4,Df.run,Bv,EH,B5,AY,En,JR,Kd,HV,F7,x0,x1,x2,x3,r14,r24,r34,r44,h0,h1,h2,h3,n0,n1,n2,n3]
def J4(p:Ad)(a b c d:R3):Prop:=Am a b c%p≠0/\Am a b d%p≠0/\Am a c d%p≠0/\Am b c d%p≠0
def XD(Z:Gam):Prop:=∀(p:Ad)(a b c d:R3),P4 p->In3 p a->In3 p b->In3 p c->In3 p d->J4 p a b c d->Z.F 109 [.int p,E2 a b c d]=.ok .non
def nW(Z:Gam):Prop:=∀(p:Ad)(a b c d:R3),P4 p->In3 p a->In3 p b->In3 p c->In3 p d->J4 p a b c d->Z.F 65 [.int p,E2 a b c d]=.ok .non
theorem qT(hm:Hw Z)(p:Ad)(a b c d:R3)(hp:P4 p)(ha:In3 p a)(hb:In3 p b)(hc:In3 p c)(hd:In3 p d)(h:J4 p a b c d):K4.run Z [.int p,E2 a b c d]=.ok .non:=by
 have p0:=hp.pos;have ba:=(Cy hp ha).b3 (by decide)
 have bb:=(Cy hp hb).b3 (by decide)
 have bc:=(Cy hp hc).b3 (by decide)
 have bd:=(Cy hp hd).b3 (by decide)
 exact mJ p _ _ _ _ (hm p Aa a b c p0 ba bb bc) (hm p Aa a b d p0 ba bb bd) (hm p Aa a c d p0 ba bc bd) (hm p Aa b c d p0 bb bc bd) h.1 h.2.1 h.2.2.1 h.2.2.2
noncomputable def Mi:Df:=⟨3,Ae,(.cons (.ife (.or (.cons (.cmp .NotEq (.bi .len (.cons (.var 1) .nil)) (.int 4)) (.cons (.cmp .NotEq (.bi .len (.cons (.var 2) .nil)) (.int 4)) .nil))) (.cons (.rais 13 (.cons (.str (By "a frame has four points")) .nil)) .nil) .nil) (.cons (.expr (.call 109 (.cons (.var 0) (.cons (.var 1) .nil)))) (.cons (.expr (.call 109 (.cons (.var 0) (.cons (.var 2) .nil)))) (.cons (.ret (.call 105 (.cons (.var 0) (.cons (.call 111 (.cons (.var 0) (.cons (.var 2) .nil))) (.cons (.call 106 (.cons (.var 0) (.cons (.call 111 (.cons (.var 0) (.cons (.var 1) .nil))) .nil))) .nil))))) .nil))))⟩
theorem cm{a b c d a' b' c' d':R3}{M N B R:D}(e1:Z.F 109 [.int p,E2 a b c d]=.ok .non)(e2:Z.F 109 [.int p,E2 a' b' c' d']=.ok .non)(e3:Z.F 111 [.int p,E2 a' b' c' d']=.ok N)(e4:Z.F 111 [.int p,E2 a b c d]=.ok M)(e5:Z.F 106 [.int p,M]=.ok B)(e6:Z.F 105 [.int p,N,B]=.ok R):Mi.run Z [.int p,E2 a b c d,E2 a' b' c' d']=.ok R:=by
 have l1:biD .len [E2 a b c d]=.ok (.int 4):=rfl;have l2:biD .len [E2 a' b' c' d']=.ok (.int 4):=rfl;simp[Mi,Df.run,Bv,l1,l2,e1,e2,e3,e4,e5,e6]
def CgR(p:Ad)(x y:R3):Prop:=Cg p x.1 y.1/\Cg p x.2.1 y.2.1/\Cg p x.2.2 y.2.2
section
variable{p:Ad}{a b c a' b' c' x y z x':R3}{k l m k':Ad}
theorem CgR.rfl:CgR p a a:=⟨Cg.rfl,Cg.rfl,Cg.rfl⟩
theorem CgR.of(h:a=b):CgR p a b:=by rw[h];exact CgR.rfl
theorem CgR.trans(h:CgR p a b)(g:CgR p b c):CgR p a c:=⟨h.1.trans g.1,h.2.1.trans g.2.1,h.2.2.trans g.2.2⟩
theorem CgR.symm(h:CgR p a b):CgR p b a:=⟨h.1.symm,h.2.1.symm,h.2.2.symm⟩
theorem CgR.sc(hk:Cg p k k')(h:CgR p a b):CgR p (Bs k a) (Bs k' b):=⟨hk.mul h.1,hk.mul h.2.1,hk.mul h.2.2⟩
theorem CgR.md(h:a=mdR p b):CgR p a b:=by rw[h];exact⟨Cg.md _root_.rfl,Cg.md _root_.rfl,Cg.md _root_.rfl⟩
theorem Mu(ha:CgR p a a')(hb:CgR p b b')(hc:CgR p c c'):Cg p (Am a b c) (Am a' b' c'):=by
 unfold Am det;exact Jj ha.1 ha.2.1 ha.2.2 hb.1 hb.2.1 hb.2.2 hc.1 hc.2.1 hc.2.2
theorem GU(ha:CgR p a a')(hb:CgR p b b'):Cg p (AC a b) (AC a' b'):=((ha.1.mul hb.1).add (ha.2.1.mul hb.2.1)).add (ha.2.2.mul hb.2.2)
theorem jf(ha:CgR p a a')(hb:CgR p b b')(hc:CgR p c c'):CgR p (BG a b c) (BG a' b' c')/\CgR p (BF a b c) (BF a' b' c')/\CgR p (BE a b c) (BE a' b' c'):=⟨⟨ha.1,hb.1,hc.1⟩,⟨ha.2.1,hb.2.1,hc.2.1⟩,⟨ha.2.2,hb.2.2,hc.2.2⟩⟩
theorem jc(ha:CgR p a a')(hb:CgR p b b'):CgR p (crs a b) (crs a' b'):=
 ⟨(ha.2.1.mul hb.2.2).sub (ha.2.2.mul hb.2.1),(ha.2.2.mul hb.1).sub (ha.1.mul hb.2.2),(ha.1.mul hb.2.1).sub (ha.2.1.mul hb.1)⟩
theorem KI(p t:Ad)(a:R3):CgR p (fmR p t a) (Bs t a):=by
 have key:∀ x:Ad,Cg p (t*(x%p)%p) (t*x):=λx=>(Cg.md _root_.rfl).trans (Cg.rfl.mul (Cg.md _root_.rfl))
 exact⟨key _,key _,key _⟩
noncomputable def rm(a x y z:R3):R3:=(AC (BG x y z) a,AC (BF x y z) a,AC (BE x y z) a)
theorem RK(p:Ad)(a x y z:R3):CgR p (mlR p a x y z) (rm a x y z):=⟨Cg.md _root_.rfl,Cg.md _root_.rfl,Cg.md _root_.rfl⟩
noncomputable def ap(a b c x:R3):R3:=(AC a x,AC b x,AC c x)
theorem WL(a b c x y z:R3):Am (ap a b c x) (ap a b c y) (ap a b c z)=Am a b c*Am x y z:=by
 unfold Am det ap AC;grind
theorem NY(k l m:Ad)(x y z:R3):Am (Bs k x) (Bs l y) (Bs m z)=k*l*m*Am x y z:=by
 unfold Am det Bs;grind
theorem Rz(k l:Ad)(x:R3):Bs k (Bs l x)=Bs (k*l) x:=by
 unfold Bs;simp only[Gn]
theorem cU(a b c x:R3)(k:Ad):ap a b c (Bs k x)=Bs k (ap a b c x):=by
 unfold ap Bs AC;refine BO ?_ (BO ?_ ?_)<;>(simp only;grind)
theorem Vt(x y z:R3):Am (BG x y z) (BF x y z) (BE x y z)=Am x y z:=by
 unfold Am det BG BF BE;grind
end
theorem Kv(a b:R3):AC a b=AC b a:=by unfold AC;grind
theorem RY{x y:Ad}(h:Cg p x y)(hy:y%p≠0):x%p≠0:=λz=>hy ((show x%p=y%p from h).symm.trans z)
theorem nz3{x y z:Ad}(hp:P4 p)(hx:x%p≠0)(hy:y%p≠0)(hz:z%p≠0):x*y*z%p≠0:=B6 hp (B6 hp hx hy) hz
section
variable{p:Ad}{a b c f0 f1 f2 f3 g0 g1 g2 g3:R3}{d0 d1 d2 d3:Ad}
theorem fy(p:Ad)(f0 f1 f2 f3:R3):Am (fr0 p f0 f1 f2 f3) (fr1 p f0 f1 f2 f3) (fr2 p f0 f1 f2 f3)=fk0 p f0 f1 f2 f3*fk1 p f0 f1 f2 f3*fk2 p f0 f1 f2 f3*Am f0 f1 f2:=by
 unfold fr0 fr1 fr2;rw[Vt];unfold fs0 fs1 fs2;rw[NY]
theorem RM{x:Ad}(h:x%p≠0):x%p%p≠0:=by rw[BD _ (CA p)];exact h
theorem Xj(hp:P4 p)(h:J4 p f0 f1 f2 f3):Am (fr0 p f0 f1 f2 f3) (fr1 p f0 f1 f2 f3) (fr2 p f0 f1 f2 f3)%p≠0:=by
 rw[fy];obtain⟨h1,h2,h3,h4⟩:=h;have k0:Am f3 f1 f2%p≠0:=by rw[show Am f3 f1 f2=Am f1 f2 f3 by unfold Am det;grind];exact h4
 have k1:Am f0 f3 f2%p≠0:=by rw[show Am f0 f3 f2=-1*Am f0 f2 f3 by unfold Am det;grind];exact B6 hp hp.m1 h3
 exact B6 hp (nz3 hp (RM k0) (RM k1) (RM h2)) h1
end
section
variable{Z:Gam}{ns:Ac Ad}
end
section
variable{Z:Gam}{ns:Ac Ad}{many s5 s6 s7 s8 s9 s0 s1 s2:Sl}{p:Ad}{a b c:R3}
end
noncomputable def Pu:E:=(.call 1 (.cons (.var 0) (.cons (.var 3) .nil)))
noncomputable def Qk:Df:=⟨4,Ae,(.cons (.asg 2 Ae (.comp Pu 3 (.e (.var 1)) CM)) (.cons (.ife (.no (.bi .any (.cons (.var 2) .nil))) (.cons (.rais 5 (.cons (.str (By "all six numbers have the rest 0")) .nil)) .nil) .nil) (.cons (.ret (.call 17 (.cons (.var 0) (.cons (.var 2) .nil)))) .nil)))⟩
noncomputable def M5:Df:=⟨1,Ae,(.cons (.ret (.call 122 (.cons (.var 0) (.cons (.tup (.cons (.int 0) (.cons (.int 1) (.cons (.int 0) (.cons (.int 0) (.cons (.un .USub (.int 1)) (.cons (.int 0) .nil))))))) .nil)))) .nil)⟩
theorem UL:∀ xs:Ac Ad,Ga (ds xs)=.ok (xs.any λx=>x != 0)
 |[]=>rfl
 |x::xs=>by
  show (EO (.int x)).bind (λb=>(Ga (ds xs)).bind λc=>.ok (b||c))=_
  rw[UL xs];rfl
theorem U_7{p:Ad}(hp:0<p):∀ xs:Ac Ad,((xs.map λx=>x%p).any λx=>x != 0)=(AW p xs).isSome
 |[]=>rfl
 |x::xs=>by
  unfold AW;rw[Bm,Go];by_cases h:x%p=0
  .rw[AF h,h,U_7 hp xs];rfl
  .rw[AN h];simp[h]
theorem Xq(xs:Ac Ad):(xs.map λx=>x%p).map (λx=>x%p)=xs.map λx=>x%p:=by
 rw[Ea];refine EI λx _=>?_
 show x%p%p=x%p;rw[BD _ (CA p)]
def InL(p:Ad)(xs:Ac Ad):Prop:=∀ x∈xs,0<=x/\x<p
theorem InL.set(h:InL p xs)(k:Ag)(h0:0<=v)(h1:v<p):InL p (xs.set k v):=λx hx=>by
 rcases List.mem_or_eq_of_mem_set hx with z|rfl
 .exact h x z
 .exact⟨h0,h1⟩
section
variable{Z:Gam}{ns:Ac Ad}{p at_:Ad}
end
section
variable{Z:Gam}{ns:Ac Ad}{p t:Ad}
end
structure C6 where
 c0:Ad
 c1:Ad
 c2:Ad
 c3:Ad
 c4:Ad
 c5:Ad
variable{C:C6}
noncomputable def C6.l(C:C6):Ac Ad:=[C.c0,C.c1,C.c2,C.c3,C.c4,C.c5]
noncomputable def Ck(C:C6):D:=.tup (ds C.l)
noncomputable def vI(C:C6)(x:R3):Ad:=C.c0*x.1*x.1+C.c1*x.2.1*x.2.1+C.c2*x.2.2*x.2.2+(C.c3*x.1*x.2.1+C.c4*x.1*x.2.2+C.c5*x.2.1*x.2.2)
noncomputable def tw0(C:C6):R3:=(2*C.c0,C.c3,C.c4)
noncomputable def tw1(C:C6):R3:=(C.c3,2*C.c1,C.c5)
noncomputable def tw2(C:C6):R3:=(C.c4,C.c5,2*C.c2)
noncomputable def bI(C:C6)(x y:R3):Ad:=AC (ap (tw0 C) (tw1 C) (tw2 C) x) y
noncomputable def scC(k:Ad)(C:C6):C6:=⟨k*C.c0,k*C.c1,k*C.c2,k*C.c3,k*C.c4,k*C.c5⟩
def CgC(p:Ad)(C D:C6):Prop:=Cg p C.c0 D.c0/\Cg p C.c1 D.c1/\Cg p C.c2 D.c2/\Cg p C.c3 D.c3/\Cg p C.c4 D.c4/\Cg p C.c5 D.c5
noncomputable def pb(C:C6)(a b c:R3):C6:=⟨vI C (BG a b c),vI C (BF a b c),vI C (BE a b c),bI C (BG a b c) (BF a b c),bI C (BG a b c) (BE a b c),bI C (BF a b c) (BE a b c)⟩
section
variable{p:Ad}{C D E:C6}{a b c a' b' c' x y x' y':R3}{k k':Ad}
theorem C6.ext'(h0:C.c0=D.c0)(h1:C.c1=D.c1)(h2:C.c2=D.c2)(h3:C.c3=D.c3)(h4:C.c4=D.c4)(h5:C.c5=D.c5):C=D:=by
 cases C;cases D;simp_all
theorem CgC.rfl:CgC p C C:=⟨Cg.rfl,Cg.rfl,Cg.rfl,Cg.rfl,Cg.rfl,Cg.rfl⟩
theorem CgC.of(h:C=D):CgC p C D:=by rw[h];exact CgC.rfl
theorem CgC.symm(h:CgC p C D):CgC p D C:=⟨h.1.symm,h.2.1.symm,h.2.2.1.symm,h.2.2.2.1.symm,h.2.2.2.2.1.symm,h.2.2.2.2.2.symm⟩
theorem CgC.trans(h:CgC p C D)(g:CgC p D E):CgC p C E:=⟨h.1.trans g.1,h.2.1.trans g.2.1,h.2.2.1.trans g.2.2.1,h.2.2.2.1.trans g.2.2.2.1,h.2.2.2.2.1.trans g.2.2.2.2.1,h.2.2.2.2.2.trans g.2.2.2.2.2⟩
theorem CgC.sc(hk:Cg p k k')(h:CgC p C D):CgC p (scC k C) (scC k' D):=⟨hk.mul h.1,hk.mul h.2.1,hk.mul h.2.2.1,hk.mul h.2.2.2.1,hk.mul h.2.2.2.2.1,hk.mul h.2.2.2.2.2⟩
theorem Jk(h:CgC p C D)(hx:CgR p x x'):Cg p (vI C x) (vI D x'):=
 (((((h.1.mul hx.1).mul hx.1).add ((h.2.1.mul hx.2.1).mul hx.2.1)).add ((h.2.2.1.mul hx.2.2).mul hx.2.2))).add ((((h.2.2.2.1.mul hx.1).mul hx.2.1).add ((h.2.2.2.2.1.mul hx.1).mul hx.2.2)).add ((h.2.2.2.2.2.mul hx.2.1).mul hx.2.2))
theorem W6(h:CgC p C D):CgR p (tw0 C) (tw0 D)/\CgR p (tw1 C) (tw1 D)/\CgR p (tw2 C) (tw2 D):=
 ⟨⟨Cg.rfl.mul h.1,h.2.2.2.1,h.2.2.2.2.1⟩,⟨h.2.2.2.1,Cg.rfl.mul h.2.1,h.2.2.2.2.2⟩,⟨h.2.2.2.2.1,h.2.2.2.2.2,Cg.rfl.mul h.2.2.1⟩⟩
theorem j8(ha:CgR p a a')(hb:CgR p b b')(hc:CgR p c c')(hx:CgR p x x'):CgR p (ap a b c x) (ap a' b' c' x'):=⟨GU ha hx,GU hb hx,GU hc hx⟩
theorem Oo(h:CgC p C D)(hx:CgR p x x')(hy:CgR p y y'):Cg p (bI C x y) (bI D x' y'):=
 let ⟨t0,t1,t2⟩:=W6 h
 GU (j8 t0 t1 t2 hx) hy
theorem MQ(h:CgC p C D)(ha:CgR p a a')(hb:CgR p b b')(hc:CgR p c c'):CgC p (pb C a b c) (pb D a' b' c'):=
 let ⟨s0,s1,s2⟩:=jf ha hb hc
 ⟨Jk h s0,Jk h s1,Jk h s2,Oo h s0 s1,Oo h s0 s2,Oo h s1 s2⟩
theorem Kz(k l:Ad)(C:C6):scC k (scC l C)=scC (k*l) C:=by
 unfold scC;simp only[Gn]
theorem JS(C:C6):scC 1 C=C:=by unfold scC;simp only[Dz]
theorem Xb(k:Ad)(C:C6)(a b c:R3):pb (scC k C) a b c=scC k (pb C a b c):=by
 unfold pb scC vI bI ap tw0 tw1 tw2 AC;refine C6.ext' ?_ ?_ ?_ ?_ ?_ ?_<;>(simp only;grind)
theorem bh(k:Ad)(C:C6)(a b c:R3):pb C (Bs k a) (Bs k b) (Bs k c)=scC (k*k) (pb C a b c):=by
 unfold pb scC vI bI ap tw0 tw1 tw2 AC BG BF BE Bs;refine C6.ext' ?_ ?_ ?_ ?_ ?_ ?_<;>(simp only;grind)
theorem NW(C:C6)(x y z:R3)(k l m:Ad):vI C (k*x.1+l*y.1+m*z.1,k*x.2.1+l*y.2.1+m*z.2.1,k*x.2.2+l*y.2.2+m*z.2.2)=k*k*vI C x+l*l*vI C y+m*m*vI C z+(k*l*bI C x y+k*m*bI C x z+l*m*bI C y z):=by
 unfold vI bI ap tw0 tw1 tw2 AC;simp only;grind
theorem WP(C:C6)(x y z w:R3)(k l m:Ad):bI C (k*x.1+l*y.1+m*z.1,k*x.2.1+l*y.2.1+m*z.2.1,k*x.2.2+l*y.2.2+m*z.2.2) w=k*bI C x w+l*bI C y w+m*bI C z w:=by
 unfold bI ap tw0 tw1 tw2 AC;simp only;grind
theorem Ky(C:C6)(x y:R3):bI C x y=bI C y x:=by
 unfold bI ap tw0 tw1 tw2 AC;simp only;grind
theorem Lq(C:C6)(x:R3):bI C x x=2*vI C x:=by
 unfold vI bI ap tw0 tw1 tw2 AC;simp only;grind
theorem aR(v0 v1 v2 b0 b1 b2:Ad)(u:R3):vI ⟨v0,v1,v2,b0,b1,b2⟩ u=u.1*u.1*v0+u.2.1*u.2.1*v1+u.2.2*u.2.2*v2+(u.1*u.2.1*b0+u.1*u.2.2*b1+u.2.1*u.2.2*b2):=by
 unfold vI;simp only;grind
theorem aS(v0 v1 v2 b0 b1 b2:Ad)(u w:R3):bI ⟨v0,v1,v2,b0,b1,b2⟩ u w=u.1*(w.1*(2*v0)+w.2.1*b0+w.2.2*b1)+u.2.1*(w.1*b0+w.2.1*(2*v1)+w.2.2*b2)+u.2.2*(w.1*b1+w.2.1*b2+w.2.2*(2*v2)):=by
 unfold bI ap tw0 tw1 tw2 AC;simp only;grind
theorem fO(C:C6)(s0 s1 s2 u:R3):vI C (u.1*s0.1+u.2.1*s1.1+u.2.2*s2.1,u.1*s0.2.1+u.2.1*s1.2.1+u.2.2*s2.2.1,u.1*s0.2.2+u.2.1*s1.2.2+u.2.2*s2.2.2)=vI ⟨vI C s0,vI C s1,vI C s2,bI C s0 s1,bI C s0 s2,bI C s1 s2⟩ u:=by
 exact(NW C s0 s1 s2 u.1 u.2.1 u.2.2).trans (aR _ _ _ _ _ _ u).symm
theorem SU(C:C6)(s0 s1 s2 u w:R3):bI C (u.1*s0.1+u.2.1*s1.1+u.2.2*s2.1,u.1*s0.2.1+u.2.1*s1.2.1+u.2.2*s2.2.1,u.1*s0.2.2+u.2.1*s1.2.2+u.2.2*s2.2.2) (w.1*s0.1+w.2.1*s1.1+w.2.2*s2.1,w.1*s0.2.1+w.2.1*s1.2.1+w.2.2*s2.2.1,w.1*s0.2.2+w.2.1*s1.2.2+w.2.2*s2.2.2)=bI ⟨vI C s0,vI C s1,vI C s2,bI C s0 s1,bI C s0 s2,bI C s1 s2⟩ u w:=by
 have e:∀ s:R3,bI C s (w.1*s0.1+w.2.1*s1.1+w.2.2*s2.1,w.1*s0.2.1+w.2.1*s1.2.1+w.2.2*s2.2.1,w.1*s0.2.2+w.2.1*s1.2.2+w.2.2*s2.2.2)=w.1*bI C s0 s+w.2.1*bI C s1 s+w.2.2*bI C s2 s:=λs=>(Ky C _ _).trans (WP C s0 s1 s2 s w.1 w.2.1 w.2.2)
 refine IV ?_ (aS _ _ _ _ _ _ u w).symm;rw[WP,e,e,e,Lq C s0,Lq C s1,Lq C s2,Ky C s1 s0,Ky C s2 s0,Ky C s2 s1]
theorem Xc(C:C6)(a b c x y z:R3):pb (pb C a b c) x y z=pb C (rm a x y z) (rm b x y z) (rm c x y z):=by
 have v:=λu=>(fO C (BG a b c) (BF a b c) (BE a b c) u).symm
 have w:=λu u'=>(SU C (BG a b c) (BF a b c) (BE a b c) u u').symm
 exact C6.ext' (v (BG x y z)) (v (BF x y z)) (v (BE x y z)) (w (BG x y z) (BF x y z)) (w (BG x y z) (BE x y z)) (w (BF x y z) (BE x y z))
theorem Xd(C:C6)(k:Ad):pb C (k,0,0) (0,k,0) (0,0,k)=scC (k*k) C:=by
 unfold pb scC vI bI ap tw0 tw1 tw2 AC BG BF BE;refine C6.ext' ?_ ?_ ?_ ?_ ?_ ?_<;>(simp only;grind)
theorem Wt(a b c:R3):rm a (bk0 a b c) (bk1 a b c) (bk2 a b c)=(Am a b c,0,0)/\rm b (bk0 a b c) (bk1 a b c) (bk2 a b c)=(0,Am a b c,0)/\rm c (bk0 a b c) (bk1 a b c) (bk2 a b c)=(0,0,Am a b c):=by
 unfold rm AC bk0 bk1 bk2 BG BF BE crs Am det;refine⟨?_,?_,?_⟩<;>refine BO ?_ (BO ?_ ?_)<;>(simp only;grind)
theorem de(C:C6)(a b c:R3):Am (tw0 (pb C a b c)) (tw1 (pb C a b c)) (tw2 (pb C a b c))=Am a b c*Am a b c*Am (tw0 C) (tw1 C) (tw2 C):=by
 have row:∀ s:R3,(bI C s (BG a b c),bI C s (BF a b c),bI C s (BE a b c))=ap (BG a b c) (BF a b c) (BE a b c) (ap (tw0 C) (tw1 C) (tw2 C) s):=λs=>by
  unfold bI;rw[Kv,Kv _ (BF a b c),Kv _ (BE a b c)];rfl
 have e0:tw0 (pb C a b c)=(bI C (BG a b c) (BG a b c),bI C (BG a b c) (BF a b c),bI C (BG a b c) (BE a b c)):=by rw[Lq];rfl
 have e1:tw1 (pb C a b c)=(bI C (BF a b c) (BG a b c),bI C (BF a b c) (BF a b c),bI C (BF a b c) (BE a b c)):=by rw[Lq,Ky C (BF a b c) (BG a b c)];rfl
 have e2:tw2 (pb C a b c)=(bI C (BE a b c) (BG a b c),bI C (BE a b c) (BF a b c),bI C (BE a b c) (BE a b c)):=by rw[Lq,Ky C (BE a b c) (BG a b c),Ky C (BE a b c) (BF a b c)];rfl
 rw[e0,e1,e2,row,row,row,WL,WL,Vt];grind
theorem uF(k:Ad)(C:C6):Am (tw0 (scC k C)) (tw1 (scC k C)) (tw2 (scC k C))=k*k*k*Am (tw0 C) (tw1 C) (tw2 C):=by
 rw[<-NY];unfold tw0 tw1 tw2 scC Bs;simp only[<-Gn,BS 2 k]
def PrC(p:Ad)(C D:C6):Prop:=∃ d,d%p≠0/\CgC p C (scC d D)
theorem PrC.rfl(hp:P4 p):PrC p C C:=⟨1,hp.o1,CgC.of (JS C).symm⟩
theorem PrC.trans(hp:P4 p)(i:PrC p C D)(j:PrC p D E):PrC p C E:=by
 obtain⟨d,dz,e⟩:=i;obtain⟨d',dz',e'⟩:=j;exact⟨d*d',B6 hp dz dz',e.trans ((CgC.sc Cg.rfl e').trans (CgC.of (Kz _ _ _)))⟩
theorem N8(hp:P4 p)(dz:k%p≠0):∃ u,u%p≠0/\Cg p (u*k) 1:=by
 obtain⟨u,u1,u2,u3⟩:=Ia hp dz;refine⟨u,by rw[AK (by omega) u2];omega,?_⟩
 show u*k%p=1%p;rw[BS,u3,AK (by decide) (by have:=hp.lo;omega)]
theorem PrC.symm(hp:P4 p)(i:PrC p C D):PrC p D C:=by
 obtain⟨d,dz,e⟩:=i;obtain⟨u,uz,o⟩:=N8 hp dz;refine⟨u,uz,?_⟩;have q:=CgC.sc (k:=u) (k':=u) Cg.rfl e;rw[Kz]at q;exact(q.trans ((CgC.sc o CgC.rfl).trans (CgC.of (JS D)))).symm
theorem PrC.pb(i:PrC p C D):PrC p (OvC.pb C a b c) (OvC.pb D a b c):=by
 obtain⟨d,dz,e⟩:=i;exact⟨d,dz,(MQ e CgR.rfl CgR.rfl CgR.rfl).trans (CgC.of (Xb d D a b c))⟩
theorem PrC.tab(hp:P4 p)(kz:k%p≠0)(ha:CgR p a (Bs k a'))(hb:CgR p b (Bs k b'))(hc:CgR p c (Bs k c')):PrC p (OvC.pb C a b c) (OvC.pb C a' b' c'):=
 ⟨k*k,B6 hp kz kz,(MQ CgC.rfl ha hb hc).trans (CgC.of (bh k C a' b' c'))⟩
def InC(p:Ad)(C:C6):Prop:=∀ x∈C.l,0<=x/\x<p
theorem jO(hp:P4 p)(iC:InC p C)(iD:InC p D)(lC:AW p C.l=Ab 1)(lD:AW p D.l=Ab 1)(h:PrC p C D):C=D:=by
 obtain⟨d,dz,e⟩:=h;have p1:1<p:=by have:=hp.lo;omega
 have rs:C.l.map (λx=>x%p)=(D.l.map λx=>d*x).map (λx=>x%p):=by
  obtain⟨h0,h1,h2,h3,h4,h5⟩:=e;simp only[C6.l,Bm,HP];rw[show C.c0%p=d*D.c0%p from h0,show C.c1%p=d*D.c1%p from h1,show C.c2%p=d*D.c2%p from h2,show C.c3%p=d*D.c3%p from h3,show C.c4%p=d*D.c4%p from h4,show C.c5%p=d*D.c5%p from h5]
 have el:=Ln hp dz (f:=λx=>d*x) (λ_=>rfl) D.l
 rw[lD,<-Mn rs,lC,EY,Ce,EA]at el;have o:Cg p d 1:=by
  show d%p=1%p;rw[<-el,AK (by decide) p1]
 obtain⟨h0,h1,h2,h3,h4,h5⟩:=e.trans ((CgC.sc o CgC.rfl).trans (CgC.of (JS D)));have same:∀{u v:Ad},u∈C.l->v∈D.l->Cg p u v->u=v:=λhu hv huv=>by
  have:=show _%p=_%p from huv
  rwa [AK (iC _ hu).1 (iC _ hu).2,AK (iD _ hv).1 (iD _ hv).2]at this
 exact C6.ext' (same (by simp[C6.l]) (by simp[C6.l]) h0) (same (by simp[C6.l]) (by simp[C6.l]) h1) (same (by simp[C6.l]) (by simp[C6.l]) h2) (same (by simp[C6.l]) (by simp[C6.l]) h3) (same (by simp[C6.l]) (by simp[C6.l]) h4) (same (by simp[C6.l]) (by simp[C6.l]) h5)
theorem sX(hp:P4 p){l:Ad}(lC:AW p C.l=Ab l)(z:Am a b c%p≠0)(h:CgC p E (OvC.pb C a b c)):∃ l,AW p E.l=Ab l:=by
 cases el:AW p E.l with
 |some l=>exact⟨l,_root_.rfl⟩
 |none=>
  have hz:=Jg.mp el;have e0:CgC p E (scC 0 E):=by
   have k:∀ x∈E.l,Cg p x (0*x):=λx hx=>by show x%p=0*x%p;rw[hz x hx,DA,Be]
   exact⟨k _ (by simp[C6.l]),k _ (by simp[C6.l]),k _ (by simp[C6.l]),k _ (by simp[C6.l]),k _ (by simp[C6.l]),k _ (by simp[C6.l])⟩
  have q:CgC p (OvC.pb E (bk0 a b c) (bk1 a b c) (bk2 a b c)) (scC (Am a b c*Am a b c) C):=by
   refine(MQ h CgR.rfl CgR.rfl CgR.rfl).trans (CgC.of ?_);obtain⟨r0,r1,r2⟩:=Wt a b c;rw[Xc,r0,r1,r2,Xd]
  have q0:CgC p (OvC.pb E (bk0 a b c) (bk1 a b c) (bk2 a b c)) (scC 0 (OvC.pb E (bk0 a b c) (bk1 a b c) (bk2 a b c))):=by
   have:=MQ e0 (CgR.rfl (a:=bk0 a b c)) (CgR.rfl (a:=bk1 a b c)) (CgR.rfl (a:=bk2 a b c))
   rwa [Xb]at this
  obtain⟨u,uz,o⟩:=N8 hp (B6 hp z z);have t:CgC p C (scC 0 (OvC.pb E (bk0 a b c) (bk1 a b c) (bk2 a b c))):=by
   have w:=CgC.sc (k:=u) (k':=u) Cg.rfl (q.symm.trans q0);rw[Kz,Kz,CB]at w;exact((CgC.of (JS C).symm).trans (CgC.sc o.symm CgC.rfl)).trans w
  have z0:AW p C.l=Af:=by
   refine Jg.mpr λx hx=>?_
   obtain⟨h0,h1,h2,h3,h4,h5⟩:=t;have k:∀{x y:Ad},Cg p x (0*y)->x%p=0:=λ{x y} h=>by rw[show x%p=_ from h,DA,Be]
   simp only[C6.l,Au,AO,BM]at hx;rcases hx with rfl|rfl|rfl|rfl|rfl|rfl
   .exact k h0
   .exact k h1
   .exact k h2
   .exact k h3
   .exact k h4
   .exact k h5
  rw[z0]at lC;cases lC
end
noncomputable def Mv:Df:=⟨5,Ae,(.cons (.asg 3 Ae (.bin .Add (.bin .Add (.bin .Mult (.bin .Mult (.idx (.var 1) (.int 0)) (.idx (.var 2) (.int 0))) (.idx (.var 2) (.int 0))) (.bin .Mult (.bin .Mult (.idx (.var 1) (.int 1)) (.idx (.var 2) (.int 1))) (.idx (.var 2) (.int 1)))) (.bin .Mult (.bin .Mult (.idx (.var 1) (.int 2)) (.idx (.var 2) (.int 2))) (.idx (.var 2) (.int 2))))) (.cons (.asg 4 Ae (.bin .Add (.bin .Add (.bin .Mult (.bin .Mult (.idx (.var 1) (.int 3)) (.idx (.var 2) (.int 0))) (.idx (.var 2) (.int 1))) (.bin .Mult (.bin .Mult (.idx (.var 1) (.int 4)) (.idx (.var 2) (.int 0))) (.idx (.var 2) (.int 2)))) (.bin .Mult (.bin .Mult (.idx (.var 1) (.int 5)) (.idx (.var 2) (.int 1))) (.idx (.var 2) (.int 2))))) (.cons (.ret (.call 1 (.cons (.var 0) (.cons (.bin .Add (.var 3) (.var 4)) .nil)))) .nil)))⟩
noncomputable def Pk:Df:=⟨2,Ae,(.cons (.ret (.tup (.cons (.tup (.cons (.call 1 (.cons (.var 0) (.cons (.bin .Mult (.int 2) (.idx (.var 1) (.int 0))) .nil))) (.cons (.idx (.var 1) (.int 3)) (.cons (.idx (.var 1) (.int 4)) .nil)))) (.cons (.tup (.cons (.idx (.var 1) (.int 3)) (.cons (.call 1 (.cons (.var 0) (.cons (.bin .Mult (.int 2) (.idx (.var 1) (.int 1))) .nil))) (.cons (.idx (.var 1) (.int 5)) .nil)))) (.cons (.tup (.cons (.idx (.var 1) (.int 4)) (.cons (.idx (.var 1) (.int 5)) (.cons (.call 1 (.cons (.var 0) (.cons (.bin .Mult (.int 2) (.idx (.var 1) (.int 2))) .nil))) .nil)))) .nil))))) .nil)⟩
noncomputable def QP:Df:=⟨5,Ae,(.cons (.asg 4 Ae (.call 91 (.cons (.var 0) (.cons (.call 131 (.cons (.var 0) (.cons (.var 1) .nil))) (.cons (.var 2) .nil))))) (.cons (.ret (.bin .Add (.bin .Add (.bin .Mult (.idx (.var 4) (.int 0)) (.idx (.var 3) (.int 0))) (.bin .Mult (.idx (.var 4) (.int 1)) (.idx (.var 3) (.int 1)))) (.bin .Mult (.idx (.var 4) (.int 2)) (.idx (.var 3) (.int 2))))) .nil))⟩
noncomputable def Nt:E:=(.call 126 (.cons (.var 0) (.cons (.var 1) (.cons (.var 6) .nil))))
noncomputable def NP:Df:=⟨7,Ae,(.cons (.asg 3 Ae (.call 104 (.cons (.call 106 (.cons (.var 0) (.cons (.var 2) .nil))) .nil))) (.cons (.asg 4 Ae (.comp Nt 6 (.e (.var 3)) CM)) (.cons (.asg 5 Ae (.lst (.cons (.call 132 (.cons (.var 0) (.cons (.var 1) (.cons (.idx (.var 3) (.int 0)) (.cons (.idx (.var 3) (.int 1)) .nil))))) (.cons (.call 132 (.cons (.var 0) (.cons (.var 1) (.cons (.idx (.var 3) (.int 0)) (.cons (.idx (.var 3) (.int 2)) .nil))))) (.cons (.call 132 (.cons (.var 0) (.cons (.var 1) (.cons (.idx (.var 3) (.int 1)) (.cons (.idx (.var 3) (.int 2)) .nil))))) .nil))))) (.cons (.ret (.call 122 (.cons (.var 0) (.cons (.bin .Add (.var 4) (.var 5)) .nil)))) .nil))))⟩
theorem ix6(C:C6):Cr (Ck C) (.int 0)=.ok (.int C.c0)/\Cr (Ck C) (.int 1)=.ok (.int C.c1)/\Cr (Ck C) (.int 2)=.ok (.int C.c2)/\Cr (Ck C) (.int 3)=.ok (.int C.c3)/\Cr (Ck C) (.int 4)=.ok (.int C.c4)/\Cr (Ck C) (.int 5)=.ok (.int C.c5):=⟨rfl,rfl,rfl,rfl,rfl,rfl⟩
structure BC (C:C6):Prop where
 b0:Bd 10 C.c0
 b1:Bd 10 C.c1
 b2:Bd 10 C.c2
 b3:Bd 10 C.c3
 b4:Bd 10 C.c4
 b5:Bd 10 C.c5
theorem InC.b(hp:P4 p)(h:InC p C):BC C:=by
 have k:∀ x∈C.l,Bd 10 x:=λx hx=>JU hp (h x hx).1 (h x hx).2
 exact⟨k _ (by simp[C6.l]),k _ (by simp[C6.l]),k _ (by simp[C6.l]),k _ (by simp[C6.l]),k _ (by simp[C6.l]),k _ (by simp[C6.l])⟩
def QT(Z:Gam):Prop:=∀(p:Ad)(C:C6)(x:R3),P4 p->InC p C->In3 p x->Z.F 126 [.int p,Ck C,Aj Aa x]=.ok (.int (vI C x%p))
theorem qD(hr:Ib Z)(p:Ad)(C:C6)(x:R3)(hp:P4 p)(iC:InC p C)(ix:In3 p x):Mv.run Z [.int p,Ck C,Aj Aa x]=.ok (.int (vI C x%p)):=by
 obtain⟨i0,i1,i2,i3,i4,i5⟩:=ix6 C;obtain⟨x0,x1,x2⟩:=Fs Aa x;have bC:=iC.b hp;have bx:=Cy hp ix;have k:∀ {u v},Bd 10 u->Bd 10 v->Fh u v=Aa:=λhu hv=>GV hu hv (by decide) (by decide)
 have k2:∀ {u v w},Bd 10 u->Bd 10 v->Bd 10 w->Fh (u*v) w=Aa:=λhu hv hw=>GV (hu.mul hv) hw (by decide) (by decide)
 simp[Mv,Df.run,Bv,i0,i1,i2,i3,i4,i5,x0,x1,x2,k bC.b0 bx.1,k bC.b1 bx.2.1,k bC.b2 bx.2.2,k bC.b3 bx.1,k bC.b4 bx.1,k bC.b5 bx.2.1,k2 bC.b0 bx.1 bx.1,k2 bC.b1 bx.2.1 bx.2.1,k2 bC.b2 bx.2.2 bx.2.2,k2 bC.b3 bx.1 bx.2.1,k2 bC.b4 bx.1 bx.2.2,k2 bC.b5 bx.2.1 bx.2.2,hr p _ hp.pos];rfl
noncomputable def t0(p:Ad)(C:C6):R3:=(2*C.c0%p,C.c3,C.c4)
noncomputable def t1(p:Ad)(C:C6):R3:=(C.c3,2*C.c1%p,C.c5)
noncomputable def t2(p:Ad)(C:C6):R3:=(C.c4,C.c5,2*C.c2%p)
theorem dH(hp:P4 p)(h:InC p C):In3 p (t0 p C)/\In3 p (t1 p C)/\In3 p (t2 p C):=by
 have p0:=hp.pos;have k:∀ x∈C.l,0<=x/\x<p:=h;have m:∀ x:Ad,0<=x%p/\x%p<p:=λx=>⟨AS _ (by omega),AQ _ p0⟩
 exact⟨⟨m _,k _ (by simp[C6.l,t0]),k _ (by simp[C6.l,t0])⟩,⟨k _ (by simp[C6.l,t1]),m _,k _ (by simp[C6.l,t1])⟩,⟨k _ (by simp[C6.l,t2]),k _ (by simp[C6.l,t2]),m _⟩⟩
theorem dI(p:Ad)(C:C6):CgR p (t0 p C) (tw0 C)/\CgR p (t1 p C) (tw1 C)/\CgR p (t2 p C) (tw2 C):=⟨⟨Cg.md rfl,Cg.rfl,Cg.rfl⟩,⟨Cg.rfl,Cg.md rfl,Cg.rfl⟩,⟨Cg.rfl,Cg.rfl,Cg.md rfl⟩⟩
def VP(Z:Gam):Prop:=∀(p:Ad)(C:C6),P4 p->Z.F 131 [.int p,Ck C]=.ok (Cj (t0 p C) (t1 p C) (t2 p C))
theorem qE(hr:Ib Z)(p:Ad)(C:C6)(hp:P4 p):Pk.run Z [.int p,Ck C]=.ok (Cj (t0 p C) (t1 p C) (t2 p C)):=by
 obtain⟨i0,i1,i2,i3,i4,i5⟩:=ix6 C;have m22:∀ y,DZ 2 y=Aa:=λy=>HZ (by decide) (by decide)
 simp[Pk,Df.run,Bv,i0,i1,i2,i3,i4,i5,m22,hr p _ hp.pos];rfl
noncomputable def mxI(p:Ad)(C:C6)(x y:R3):Ad:=AC (AC (t0 p C) x%p,AC (t1 p C) x%p,AC (t2 p C) x%p) y
theorem RI(p:Ad)(C:C6)(x y:R3):Cg p (mxI p C x y) (bI C x y):=by
 obtain⟨h0,h1,h2⟩:=dI p C;exact GU ⟨(Cg.md rfl).trans (GU h0 CgR.rfl),(Cg.md rfl).trans (GU h1 CgR.rfl),(Cg.md rfl).trans (GU h2 CgR.rfl)⟩ CgR.rfl
def WV(Z:Gam):Prop:=∀(p:Ad)(C:C6)(x y:R3),P4 p->InC p C->In3 p x->In3 p y->Z.F 132 [.int p,Ck C,Aj Aa x,Aj Aa y]=.ok (.int (mxI p C x y))
theorem cn(ht:VP Z)(hs:Ri Z)(p:Ad)(C:C6)(x y:R3)(hp:P4 p)(iC:InC p C)(ix:In3 p x)(iy:In3 p y):QP.run Z [.int p,Ck C,Aj Aa x,Aj Aa y]=.ok (.int (mxI p C x y)):=by
 have p0:=hp.pos;obtain⟨h0,h1,h2⟩:=dH hp iC;have e1:=ht p C hp;have e2:Z.F 91 [.int p,Cj (t0 p C) (t1 p C) (t2 p C),Aj Aa x]=_:=hs p Aa Aa Aa (t0 p C) (t1 p C) (t2 p C) x p0 ((Cy hp h0).b3 (by decide)) ((Cy hp h1).b3 (by decide)) ((Cy hp h2).b3 (by decide)) ((Cy hp ix).b3 (by decide))
 have iw:In3 p (AC (t0 p C) x%p,AC (t1 p C) x%p,AC (t2 p C) x%p):=⟨⟨AS _ (by omega),AQ _ p0⟩,⟨AS _ (by omega),AQ _ p0⟩,⟨AS _ (by omega),AQ _ p0⟩⟩
 unfold mxI;generalize (AC (t0 p C) x%p,AC (t1 p C) x%p,AC (t2 p C) x%p)=w at *;obtain⟨x0,x1,x2⟩:=Fs Aa w;obtain⟨y0,y1,y2⟩:=Fs Aa y;have bw:=Cy hp iw;have by_:=Cy hp iy;have k:∀ {u v},Bd 10 u->Bd 10 v->Fh u v=Aa:=λhu hv=>GV hu hv (by decide) (by decide)
 simp[QP,Df.run,Bv,e1,e2,x0,x1,x2,y0,y1,y2,k bw.1 by_.1,k bw.2.1 by_.2.1,k bw.2.2 by_.2.2];rfl
def NX(Z:Gam):Prop:=∀(p:Ad)(b:Al)(xs:Ac Ad)(l t:Ad),P4 p->AW p xs=Ab l->E5 p l t->Z.F 122 [.int p,Dt b xs]=.ok (.tup (ds (fmI p t xs)))
theorem cz(hr:Ib Z)(hf:NI Z){b:Al}{l t:Ad}(hp:P4 p)(e:AW p xs=Ab l)(it:E5 p l t):Qk.run Z [.int p,Dt b xs]=.ok (.tup (ds (fmI p t xs))):=by
 have p0:=hp.pos;have cp:BR (cG Z [si p,sh (Dt b xs),Af,Af] 3 CM) (cF Z [si p,sh (Dt b xs),Af,Af] 3 Pu) (ds xs)=.ok (ds (xs.map λx=>x%p)):=by
  refine Kl xs λx _=>⟨rfl,?_⟩
  simp[cF,Pu,hr p x p0]
 have an:=UL (xs.map λx=>x%p)
 rw[U_7 p0,e]at an;have le:AW p (xs.map λx=>x%p)=Ab l:=by rw[Mn (Xq xs)];exact e
 have f:=hf p Ae (xs.map λx=>x%p) l t hp le it
 rw[Vc (Xq xs)]at f;have f':Z.F 17 [.int p,.lst (ds (xs.map λx=>x%p))]=.ok (.tup (ds (fmI p t xs))):=f
 simp[Qk,Df.run,Bv,Ql,cp,an,f']
theorem RX{E:C6}{l:Ad}(hp:P4 p)(el:AW p E.l=Ab l):∃(t:Ad)(D:C6),E5 p l t/\fmI p t E.l=D.l/\InC p D/\AW p D.l=Ab 1/\PrC p D E:=by
 have p0:=hp.pos;obtain⟨lz,_,_⟩:=Ir p0 el;obtain⟨t,t1,t2,t3⟩:=Ia hp lz;have tz:t%p≠0:=by rw[AK (by omega) t2];omega
 have ff:∀ x,(t*(x%p)%p)%p=t*x%p:=λx=>by rw[BD _ (CA p),BX t (x%p) p,BD _ (CA p),<-BX]
 have lv:=Ln hp tz (f:=λx=>t*(x%p)%p) ff E.l
 rw[el,EY,BS,t3]at lv;have key:∀ x:Ad,Cg p (t*(x%p)%p) (t*x):=λx=>(Cg.md rfl).trans (Cg.rfl.mul (Cg.md rfl))
 refine⟨t,⟨t*(E.c0%p)%p,t*(E.c1%p)%p,t*(E.c2%p)%p,t*(E.c3%p)%p,t*(E.c4%p)%p,t*(E.c5%p)%p⟩,⟨t1,t2,t3⟩,rfl,λx hx=>?_,lv,t,tz,key _,key _,key _,key _,key _,key _⟩
 obtain⟨y,_,rfl⟩:=Bo.mp (show x∈E.l.map λx=>t*(x%p)%p from hx)
 exact⟨AS _ (by omega),AQ _ p0⟩
theorem qN(hb:Rk Z)(hc:ML Z)(hv:QT Z)(hm:WV Z)(hf:NX Z)(p:Ad)(C:C6)(a b c:R3)(iC:InC p C)(lC:AW p C.l=Ab 1)(T:GoodR p a b c):∃ D:C6,InC p D/\AW p D.l=Ab 1/\PrC p D (pb C (bk0 a b c) (bk1 a b c) (bk2 a b c))/\NP.run Z [.int p,Ck C,Cj a b c]=.ok (Ck D):=by
 have hp:=T.p4;have p0:=hp.pos;have zB:Am (bk0 a b c) (bk1 a b c) (bk2 a b c)%p≠0:=by rw[N2];exact B6 hp T.nz T.nz
 obtain⟨l,el⟩:=Mm zB;obtain⟨u,u1,u2,u3⟩:=Ia hp (Ir p0 el).1;have uz:u%p≠0:=by rw[AK (by omega) u2];omega
 have e1:=hb p a b c hp T.ia T.ib T.ic T.nz l u el ⟨u1,u2,u3⟩;have r0:=KI p u (bk0 a b c);have r1:=KI p u (bk1 a b c);have r2:=KI p u (bk2 a b c);have i0:=F9 p0 u (bk0 a b c);have i1:=F9 p0 u (bk1 a b c);have i2:=F9 p0 u (bk2 a b c);have zR:Am (fmR p u (bk0 a b c)) (fmR p u (bk1 a b c)) (fmR p u (bk2 a b c))%p≠0:=RY ((Mu r0 r1 r2).trans (Cg.of (NY u u u _ _ _))) (B6 hp (nz3 hp uz uz uz) zB);have pr:PrC p (pb C (fmR p u (bk0 a b c)) (fmR p u (bk1 a b c)) (fmR p u (bk2 a b c))) (pb C (bk0 a b c) (bk1 a b c) (bk2 a b c)):=PrC.tab hp uz r0 r1 r2;generalize fmR p u (bk0 a b c)=x at *;generalize fmR p u (bk1 a b c)=y at *;generalize fmR p u (bk2 a b c)=z at *;have e2:Z.F 104 [Cj x y z]=.ok (Cj (BG x y z) (BF x y z) (BE x y z)):=hc Aa Aa x y z;have j0:In3 p (BG x y z):=⟨i0.1,i1.1,i2.1⟩;have j1:In3 p (BF x y z):=⟨i0.2.1,i1.2.1,i2.2.1⟩;have j2:In3 p (BE x y z):=⟨i0.2.2,i1.2.2,i2.2.2⟩;have m01:=hm p C _ _ hp iC j0 j1;have m02:=hm p C _ _ hp iC j0 j2;have m12:=hm p C _ _ hp iC j1 j2;have v0:=hv p C _ hp iC j0;have v1:=hv p C _ hp iC j1;have v2:=hv p C _ hp iC j2;have cg:CgC p ⟨vI C (BG x y z)%p,vI C (BF x y z)%p,vI C (BE x y z)%p,mxI p C (BG x y z) (BF x y z),mxI p C (BG x y z) (BE x y z),mxI p C (BF x y z) (BE x y z)⟩ (pb C x y z):=⟨Cg.md rfl,Cg.md rfl,Cg.md rfl,RI p C _ _,RI p C _ _,RI p C _ _⟩;obtain⟨l',el'⟩:=sX hp lC zR cg;obtain⟨t,D,it,eD,iD,lD,pD⟩:=RX hp el';have e3:=hf p Ae _ l' t hp el' it;rw[eD]at e3;refine⟨D,iD,lD,(pD.trans hp ⟨1,hp.o1,cg.trans (CgC.of (JS _).symm)⟩).trans hp pr,?_⟩;generalize hX:(mxI p C (BG x y z) (BF x y z))=M01 at *;generalize hY:(mxI p C (BG x y z) (BE x y z))=M02 at *;generalize hZ:(mxI p C (BF x y z) (BE x y z))=M12 at *;generalize vI C (BG x y z)%p=V0 at *;generalize vI C (BF x y z)%p=V1 at *;generalize vI C (BE x y z)%p=V2 at *;have e3':Z.F 122 [.int p,.lst [.int V0,.int V1,.int V2,.int M01,.int M02,.int M12]]=.ok (Ck D):=e3;have key:∀(r:R3)(v:Ad),Z.F 126 [.int p,Ck C,Aj Aa r]=.ok (.int v)->cF Z [si p,sh (Ck C),sh (Cj a b c),sh (Cj (BG x y z) (BF x y z) (BE x y z)),Af,Af,Af] 6 Nt (Aj Aa r)=.ok (.int v):=λr v h=>by
  simp[cF,Nt,h]
 have gg:∀ r,cG Z [si p,sh (Ck C),sh (Cj a b c),sh (Cj (BG x y z) (BF x y z) (BE x y z)),Af,Af,Af] 6 CM r=.ok Aa:=λ_=>rfl
 have cp:BR (cG Z [si p,sh (Ck C),sh (Cj a b c),sh (Cj (BG x y z) (BF x y z) (BE x y z)),Af,Af,Af] 6 CM) (cF Z [si p,sh (Ck C),sh (Cj a b c),sh (Cj (BG x y z) (BF x y z) (BE x y z)),Af,Af,Af] 6 Nt) [Aj Aa (BG x y z),Aj Aa (BF x y z),Aj Aa (BE x y z)]=.ok [.int V0,.int V1,.int V2]:=by
  simp[BR,gg,key _ _ v0,key _ _ v1,key _ _ v2]
 have sq:Ch (Cj (BG x y z) (BF x y z) (BE x y z))=.ok [Aj Aa (BG x y z),Aj Aa (BF x y z),Aj Aa (BE x y z)]:=rfl;have k0:Cr (Cj (BG x y z) (BF x y z) (BE x y z)) (.int 0)=.ok (Aj Aa (BG x y z)):=rfl;have k1:Cr (Cj (BG x y z) (BF x y z) (BE x y z)) (.int 1)=.ok (Aj Aa (BF x y z)):=rfl;have k2:Cr (Cj (BG x y z) (BF x y z) (BE x y z)) (.int 2)=.ok (Aj Aa (BE x y z)):=rfl;have ad:Dg .Add (.lst [.int V0,.int V1,.int V2]) (.lst [.int M01,.int M02,.int M12])=.ok (.lst [.int V0,.int V1,.int V2,.int M01,.int M02,.int M12]):=rfl;simp[NP,Df.run,Bv,e1,e2,cp,sq,k0,k1,k2,m01,m02,m12,ad,e3']
section
variable{Z:Gam}{ns:Ac Ad}{p at_:Ad}{φ:Ad->Ad}
end
noncomputable def e0R:R3:=(1,0,0)
noncomputable def e1R:R3:=(0,1,0)
noncomputable def e2R:R3:=(0,0,1)
noncomputable def e3R:R3:=(1,1,1)
theorem fJ(hp:P4 p):In3 p e0R/\In3 p e1R/\In3 p e2R/\In3 p e3R:=by
 have z:0<=(0:Ad)/\(0:Ad)<p:=⟨by decide,hp.pos⟩
 have o:0<=(1:Ad)/\(1:Ad)<p:=⟨by decide,by have:=hp.lo;omega⟩
 exact⟨⟨o,z,z⟩,⟨z,o,z⟩,⟨z,z,o⟩,⟨o,o,o⟩⟩
theorem cI(hp:P4 p):J4 p e0R e1R e2R e3R:=by
 rcases hp with rfl|rfl|rfl|rfl<;>exact⟨by decide,by decide,by decide,by decide⟩
structure Frm (p:Ad) (f0 f1 f2 f3:R3):Prop where
 i0:In3 p f0
 i1:In3 p f1
 i2:In3 p f2
 i3:In3 p f3
 gen:J4 p f0 f1 f2 f3
def Pr(p:Ad)(x y:R3):Prop:=∃ d,d%p≠0/\CgR p x (Bs d y)
section
variable{p:Ad}{a b c x y z f g h:R3}{k:Ad}
theorem MJ(x:R3):Bs 1 x=x:=by unfold Bs;simp only[Dz]
theorem Pr.rfl(hp:P4 p):Pr p x x:=⟨1,hp.o1,CgR.of (MJ x).symm⟩
theorem Pr.trans(hp:P4 p)(i:Pr p x y)(j:Pr p y z):Pr p x z:=by
 obtain⟨d,dz,e⟩:=i;obtain⟨d',dz',e'⟩:=j;exact⟨d*d',B6 hp dz dz',e.trans ((CgR.sc Cg.rfl e').trans (CgR.of (Rz _ _ _)))⟩
theorem Pr.symm(hp:P4 p)(i:Pr p x y):Pr p y x:=by
 obtain⟨d,dz,e⟩:=i;obtain⟨u,u1,u2,u3⟩:=Ia hp dz;have uz:u%p≠0:=by rw[AK (by omega) u2];omega
 have o:Cg p (u*d) 1:=by
  show u*d%p=1%p;rw[BS,u3,AK (by decide) (by have:=hp.lo;omega)]
 refine⟨u,uz,?_⟩;have q:=CgR.sc (k:=u) (k':=u) Cg.rfl e;rw[Rz]at q;exact(q.trans ((CgR.sc o CgR.rfl).trans (CgR.of (MJ y)))).symm
theorem Pr.cg(hp:P4 p)(e:CgR p x y):Pr p x y:=⟨1,hp.o1,e.trans (CgR.of (MJ y).symm)⟩
theorem Os{a' b' c':R3}(ha:CgR p a a')(hb:CgR p b b')(hc:CgR p c c')(hx:CgR p x x'):CgR p (ap a b c x) (ap a' b' c' x'):=⟨GU ha hx,GU hb hx,GU hc hx⟩
theorem Pr.ap(i:Pr p x y):Pr p (OvC.ap a b c x) (OvC.ap a b c y):=by
 obtain⟨d,dz,e⟩:=i;exact⟨d,dz,(Os CgR.rfl CgR.rfl CgR.rfl e).trans (CgR.of (cU a b c y d))⟩
theorem j7(k:Ad)(a b c x:R3):ap (Bs k a) (Bs k b) (Bs k c) x=Bs k (ap a b c x):=by
 unfold ap Bs AC;refine BO ?_ (BO ?_ ?_)<;>(simp only;grind)
theorem Pr.tab{a' b' c':R3}(kz:k%p≠0)(ha:CgR p a (Bs k a'))(hb:CgR p b (Bs k b'))(hc:CgR p c (Bs k c')):Pr p (OvC.ap a b c x) (OvC.ap a' b' c' x):=
 ⟨k,kz,(Os ha hb hc CgR.rfl).trans (CgR.of (j7 k a' b' c' x))⟩
theorem XB(a b c v:R3):ap (bk0 a b c) (bk1 a b c) (bk2 a b c) (ap a b c v)=Bs (Am a b c) v:=by
 unfold ap Bs AC bk0 bk1 bk2 BG BF BE crs Am det;refine BO ?_ (BO ?_ ?_)<;>(simp only;grind)
theorem d9(a b c x y z:R3):Am (rm a x y z) (rm b x y z) (rm c x y z)=Am a b c*Am x y z:=by
 unfold Am det rm AC BG BF BE;grind
end
noncomputable def tri(g:R3):Ac Ad:=[g.1,g.2.1,g.2.2]
theorem QW(hp:P4 p)(ix:In3 p x)(iy:In3 p y)(lx:AW p (tri x)=Ab 1)(ly:AW p (tri y)=Ab 1)(h:Pr p x y):x=y:=by
 obtain⟨d,dz,e⟩:=h;have p1:1<p:=by have:=hp.lo;omega
 have rs:(tri x).map (λx=>x%p)=((tri y).map λx=>d*x).map (λx=>x%p):=by
  simp only[tri,Bm,HP];rw[show x.1%p=d*y.1%p from e.1,show x.2.1%p=d*y.2.1%p from e.2.1,show x.2.2%p=d*y.2.2%p from e.2.2]
 have el:=Ln hp dz (f:=λx=>d*x) (λ_=>rfl) (tri y)
 rw[ly,<-Mn rs,lx,EY,Ce,EA]at el;have o:Cg p d 1:=by
  show d%p=1%p;rw[<-el,AK (by decide) p1]
 have q:=e.trans ((CgR.sc o CgR.rfl).trans (CgR.of (MJ y)));have same:∀{u v:Ad},(0<=u/\u<p)->(0<=v/\v<p)->Cg p u v->u=v:=λhu hv huv=>by
  have:=show _%p=_%p from huv
  rwa [AK hu.1 hu.2,AK hv.1 hv.2]at this
 exact BO (same ix.1 iy.1 q.1) (BO (same ix.2.1 iy.2.1 q.2.1) (same ix.2.2 iy.2.2 q.2.2))
structure Led (p:Ad) (a b c f0 f1 f2 f3 g0 g1 g2 g3:R3):Prop where
 h0:Pr p g0 (ap a b c f0)
 h1:Pr p g1 (ap a b c f1)
 h2:Pr p g2 (ap a b c f2)
 h3:Pr p g3 (ap a b c f3)
section
variable{p:Ad}{a b c a' b' c' f0 f1 f2 f3 g0 g1 g2 g3 h0 h1 h2 h3:R3}
end
section
variable{Z:Gam}{ns:Ac Ad}{p:Ad}
theorem uY(hp:P4 p):GoodR p e0R e1R e2R/\AW p (nine e0R e1R e2R)=Ab 1:=by
 obtain⟨i0,i1,i2,i3⟩:=fJ hp;refine⟨⟨hp,i0,i1,i2,(cI hp).1⟩,?_⟩;rcases hp with rfl|rfl|rfl|rfl<;>decide
end
noncomputable def L3(a b c:R3):Ac D:=[Ee a,Ee b,Ee c]
def Ij(i j:Ad):Prop:=(i=0/\j=1)\/(i=0/\j=2)\/(i=1/\j=0)\/(i=1/\j=2)\/(i=2/\j=0)\/(i=2/\j=1)
theorem aY{m:Ad}{j:Ad}(hi:m%3=i)(hj:(i+1+m/3%2)%3=j):Ij i j:=by
 have i3:i=0\/i=1\/i=2:=by omega
 have e2:m/3%2=0\/m/3%2=1:=by omega
 rcases i3 with z|z|z<;>rcases e2 with e|e<;>rw[z,e]at hj
 .exact .inl ⟨z,hj.symm⟩
 .exact .inr (.inl ⟨z,hj.symm⟩)
 .exact .inr (.inr (.inr (.inl ⟨z,hj.symm⟩)))
 .exact .inr (.inr (.inl ⟨z,hj.symm⟩))
 .exact .inr (.inr (.inr (.inr (.inl ⟨z,hj.symm⟩))))
 .exact .inr (.inr (.inr (.inr (.inr ⟨z,hj.symm⟩))))
def KH(Z:Gam)(mid:Ag)(ns:Ac Ad):Prop:=∀ k:Ad,0<=k->∃ m,0<=m/\Z.F mid [scr ns,.int k]=.ok (.int m)
section
variable{Z:Gam}{ns:Ac Ad}{mid:Ag}{p:Ad}{a b c:R3}{s2 s4 s5 s6 s7 s8:Sl}
end
theorem Ko{lo hi:Ad}(h1:-1000<=lo)(h2:lo<=1000)(h3:-1000<=hi)(h4:hi<=1000):CF lo hi=.ok (CJ lo (hi-lo).toNat):=by
 unfold CF;rw[AF (by refine⟨⟨by omega,by omega⟩,⟨by omega,by omega⟩,?_⟩;omega)]
theorem We(h:1<p):AW p [0,0,1]=Ab 1:=by
 simp[AW,AK (by decide:(0:Ad)<=1) h]
theorem aT(h:1<p)(z:Ad):AW p [0,1,z]=Ab 1:=by
 simp[AW,AK (by decide:(0:Ad)<=1) h]
theorem Sr(h:1<p)(y z:Ad):AW p [1,y,z]=Ab 1:=by
 simp[AW,AK (by decide:(0:Ad)<=1) h]
noncomputable def prd(a b:R3):C6:=⟨a.1*b.1,a.2.1*b.2.1,a.2.2*b.2.2,a.1*b.2.1+a.2.1*b.1,a.1*b.2.2+a.2.2*b.1,a.2.1*b.2.2+a.2.2*b.2.1⟩
theorem Qq{p l:Ad}(hp:P4 p)(el:AW p (tri r)=Ab l):∃ u,E5 p l u/\In3 p (fmR p u r)/\AW p (tri (fmR p u r))=Ab 1/\Pr p (fmR p u r) r/\fmI p u (tri r)=tri (fmR p u r):=by
 have p0:=hp.pos;obtain⟨lz,_,_⟩:=Ir p0 el;obtain⟨t,t1,t2,t3⟩:=Ia hp lz;have tz:t%p≠0:=by rw[AK (by omega) t2];omega
 have ff:∀ x,(t*(x%p)%p)%p=t*x%p:=λx=>by rw[BD _ (CA p),BX t (x%p) p,BD _ (CA p),<-BX]
 have lv:=Ln hp tz (f:=λx=>t*(x%p)%p) ff (tri r)
 rw[el,EY,BS,t3]at lv;exact⟨t,⟨t1,t2,t3⟩,F9 p0 t r,lv,⟨t,tz,KI p t r⟩,rfl⟩
theorem Qo(h:AW p (tri g)=Af):CgR p g (0,0,0):=by
 have hz:=Jg.mp h;have k:∀ x∈tri g,Cg p x 0:=λx hx=>by show x%p=0%p;rw[hz x hx,Be]
 exact⟨k _ (by simp[tri]),k _ (by simp[tri]),k _ (by simp[tri])⟩
theorem Uc(h:CgR p g (0,0,0)):AW p (tri g)=Af:=by
 refine Jg.mpr λx hx=>?_
 have k:∀{x:Ad},Cg p x 0->x%p=0:=λ{x} h=>by rw[show x%p=_ from h,Be]
 simp only[tri,Au,AO,BM]at hx;rcases hx with rfl|rfl|rfl
 .exact k h.1
 .exact k h.2.1
 .exact k h.2.2
theorem Ls{p l:Ad}{a b c f g:R3}(hp:P4 p)(z:Am a b c%p≠0)(lf:AW p (tri f)=Ab l)(h:CgR p g (ap a b c f)):∃ l,AW p (tri g)=Ab l:=by
 cases el:AW p (tri g) with
 |some l=>exact⟨l,rfl⟩
 |none=>
  have q0:CgR p (ap a b c f) (0,0,0):=h.symm.trans (Qo el);have q1:CgR p (Bs (Am a b c) f) (0,0,0):=by
   have:=Os (CgR.rfl (a:=bk0 a b c)) (CgR.rfl (a:=bk1 a b c)) (CgR.rfl (a:=bk2 a b c)) q0;rw[XB]at this;refine this.trans (CgR.of ?_);unfold ap AC;simp
  obtain⟨u,uz,o⟩:=N8 hp z;have q2:CgR p f (0,0,0):=by
   have w:=CgR.sc (k:=u) (k':=u) Cg.rfl q1;rw[Rz]at w;refine((CgR.of (MJ f).symm).trans (CgR.sc o.symm CgR.rfl)).trans (w.trans (CgR.of ?_));unfold Bs;simp
  rw[Uc q2]at lf;cases lf
theorem Oa(x:R3):flD 5 (Aj Aa x)=Aa/\eqD (Aj Aa x) (Aj Aa x)=Aa:=by
 refine⟨rfl,?_⟩;show eqDs (ds [x.1,x.2.1,x.2.2]) (ds [x.1,x.2.1,x.2.2])=Aa;rw[WK]
section
variable{Z:Gam}{ns:Ac Ad}{p:Ad}{C:C6}{s3 s4 s5 s6 s7 s8:Sl}
end
noncomputable def Me:Ss:=(.cons (.asg 2 Ae (.bin .FloorDiv (.var 2) (.int 1000033))) .nil)
noncomputable def Md:Df:=⟨4,Ae,(.cons (.asg 2 Ae (.int 0)) (.cons (.ife (.cmp .Gt (.bi .len (.cons (.var 0) .nil)) (.int 0)) (.cons (.asg 2 Ae (.idx (.var 0) (.bin .Mod (.var 1) (.bi .len (.cons (.var 0) .nil))))) .nil) .nil) (.cons (.ife (.cmp .Eq (.bin .Mod (.bi .len (.cons (.var 0) .nil)) (.int 2)) (.int 0)) (.cons (.fors 3 (.rng (.bi .min (.cons (.int 60) (.cons (.bin .FloorDiv (.var 1) (.bi .max (.cons (.int 1) (.cons (.bi .len (.cons (.var 0) .nil)) .nil)))) .nil)))) Me) (.cons (.ret (.bin .Mod (.var 2) (.int 1000033))) .nil)) .nil) (.cons (.ret (.bin .Mod (.bin .Mult (.bin .Mod (.bin .Mult (.bin .Add (.bin .Add (.bin .Mod (.var 2) (.int 1000003)) (.bin .Mult (.int 7919) (.var 1))) (.int 11)) (.int 48271)) (.int 1000033)) (.int 69621)) (.int 1000033))) .nil))))⟩
section
variable{Z:Gam}{ns:Ac Ad}
theorem lU(k x:Ad)(n:Ag):∃ y s3,B5 (AY Z 3 Me) (CJ 0 n) [sh (scr ns),si k,si x,Af]=.next [sh (scr ns),si k,si y,s3]:=by
 obtain⟨Y',e,y,s3,rfl⟩:=QD (body:=AY Z 3 Me) (λY=>∃ y s3,Y=[sh (scr ns),si k,si y,s3]) (CJ 0 n) [sh (scr ns),si k,si x,Af] ⟨x,Af,rfl⟩ (by
  rintro z hz Y ⟨y,s3,rfl⟩;obtain⟨j,_,rfl⟩:=U_3 hz;exact⟨[sh (scr ns),si k,si (y/1000033),si (0+(j:Ad))],by simp[AY,Me],_,_,rfl⟩)
 exact⟨y,s3,e⟩
theorem cq(Z:Gam)(ns:Ac Ad)(hl:ns.length<=63)(k:Ad)(k0:0<=k):∃ m,0<=m/\Md.run Z [scr ns,.int k]=.ok (.int m):=by
 have m1:DZ 7919 k=Aa:=HZ (by decide) (by decide)
 have m2:∀ x,DZ x 48271=Aa:=λx=>NL (by decide) (by decide)
 have m3:∀ x,DZ x 69621=Aa:=λx=>NL (by decide) (by decide)
 generalize hn:(ns.length:Ad)=n;have n0:0<=n:=by omega
 have n1:n<=63:=by omega
 have len:biD .len [scr ns]=.ok (.int n):=by rw[<-hn];show R.ok (D.int ((ns.map D.int).length:Ag))=_;rw[AV]
 have fin:∀ x hi:Ad,0<=hi->hi<=60->∃ y s3,OJ Z 3 Me [sh (scr ns),si k,si x,Af] (CF 0 hi)=.next [sh (scr ns),si k,si y,s3]:=λx hi h0 h1=>by
  rw[jH h0 (by omega)]
  exact lU (Z:=Z) (ns:=ns) k x hi.toNat
 have mx:0<(if 1<n then n else 1)/\(if 1<n then n else 1)<1073741824:=by split<;>omega
 generalize hM:(if 1<n then n else 1)=M at mx
 have hi:∀ q:Ad,0<=q->0<=(if q<60 then q else 60)/\(if q<60 then q else 60)<=60:=λq h=>by split<;>omega
 have q0:0<=k/M:=X0 k0 (by omega)
 obtain⟨u1,u2⟩:=hi _ q0;by_cases hp:0<n
 .have r0:0<=k%n:=AS _ (by omega)
  have r1:k%n<ns.length:=by rw[hn];exact AQ _ hp
  have g:=vE r0 r1;generalize ns.getD (k%n).toNat 0=x at g;by_cases h2:n%2=0
  .obtain⟨y,s3,e⟩:=fin x _ u1 u2;refine⟨y%1000033,AS _ (by decide),?_⟩
   have gx:Cr (scr ns) (.int (k%n))=.ok (.int x):=g;simp[Md,Df.run,Bv,len,hp,gx,h2,hM,mx.1,mx.2,e]
  .refine⟨((x%1000003+7919*k+11)*48271%1000033)*69621%1000033,AS _ (by decide),?_⟩
   have gx:Cr (scr ns) (.int (k%n))=.ok (.int x):=g;simp[Md,Df.run,Bv,len,hp,gx,h2,m1,m2,m3]
 .have z:n=0:=by omega
  subst z;obtain⟨y,s3,e⟩:=fin 0 _ u1 u2;refine⟨y%1000033,AS _ (by decide),?_⟩
  have hM':M=1:=by rw[<-hM];rfl
  subst hM';simp at e;simp[Md,Df.run,Bv,len,e]
end
noncomputable def Rn:Df:=⟨3,Ae,(.cons (.ret (.call 17 (.cons (.var 0) (.cons (.call 23 (.cons (.var 1) (.cons (.var 2) .nil))) .nil)))) .nil)⟩
theorem Nx{a b:R3}(hp:P4 p)(h:CgR p (crs a b) (0,0,0))(la:AW p (tri a)=Ab 1)(lb:AW p (tri b)=Ab 1):Pr p b a:=by
 obtain⟨h0,h1,h2⟩:=h;have p1:1<p:=by have:=hp.lo;omega
 have sw:∀{x y:Ad},Cg p (x-y) 0->Cg p x y:=λ{x y} h=>by
  have:=h.add (Cg.rfl (a:=y))
  rwa [X5,Db]at this
 have e0:Cg p (a.2.1*b.2.2) (a.2.2*b.2.1):=sw h0;have e1:Cg p (a.2.2*b.1) (a.1*b.2.2):=sw h1;have e2:Cg p (a.1*b.2.1) (a.2.1*b.1):=sw h2;have one:∀{x:Ad},x%p=1->Cg p x 1:=λ{x} h=>by show x%p=1%p;rw[h,AK (by decide) p1]
 have fin:∀ k,CgR p b (Bs k a)->Pr p b a:=λk hk=>by
  refine⟨k,λz=>?_,hk⟩
  have:CgR p b (0,0,0):=by
   have kz:Cg p k 0:=by show k%p=0%p;rw[z,Be]
   refine hk.trans ((CgR.sc kz CgR.rfl).trans (CgR.of ?_));unfold Bs;simp
  rw[Uc this]at lb;cases lb
 unfold tri AW at la;by_cases z0:a.1%p=0
 .rw[AF z0]at la;have c0:Cg p a.1 0:=by show a.1%p=0%p;rw[z0,Be]
  unfold AW at la;by_cases z1:a.2.1%p=0
  .rw[AF z1]at la;have c1:Cg p a.2.1 0:=by show a.2.1%p=0%p;rw[z1,Be]
   unfold AW at la;by_cases z2:a.2.2%p=0
   .rw[AF z2]at la;cases la
   .rw[AN z2,Ce]at la;have c2:=one la;refine fin b.2.2 ⟨?_,?_,?_⟩
    .have:=(c2.symm.mul (Cg.rfl (a:=b.1))).trans e1;rw[Dz]at this;exact this.trans (Cg.of (BS _ _))
    .have:=(c2.symm.mul (Cg.rfl (a:=b.2.1))).trans e0.symm;rw[Dz]at this;exact this.trans (Cg.of (BS _ _))
    .have:=(Cg.rfl (a:=b.2.2)).mul c2;rw[EA]at this;exact this.symm
  .rw[AN z1,Ce]at la;have c1:=one la;refine fin b.2.1 ⟨?_,?_,?_⟩
   .have:=(c1.symm.mul (Cg.rfl (a:=b.1))).trans e2.symm;rw[Dz]at this;exact this.trans (Cg.of (BS _ _))
   .have:=(Cg.rfl (a:=b.2.1)).mul c1;rw[EA]at this;exact this.symm
   .have:=(c1.symm.mul (Cg.rfl (a:=b.2.2))).trans e0;rw[Dz]at this;exact this.trans (Cg.of (BS _ _))
 .rw[AN z0,Ce]at la;have c0:=one la;refine fin b.1 ⟨?_,?_,?_⟩
  .have:=(Cg.rfl (a:=b.1)).mul c0;rw[EA]at this;exact this.symm
  .have:=(c0.symm.mul (Cg.rfl (a:=b.2.1))).trans e2;rw[Dz]at this;exact this.trans (Cg.of (BS _ _))
  .have:=(c0.symm.mul (Cg.rfl (a:=b.2.2))).trans e1.symm;rw[Dz]at this;exact this.trans (Cg.of (BS _ _))
def N5(Z:Gam):Prop:=∀(p:Ad)(a b:R3),P4 p->In3 p a->In3 p b->AW p (tri a)=Ab 1->AW p (tri b)=Ab 1->a≠b->∃ y,In3 p y/\AW p (tri y)=Ab 1/\Pr p y (crs a b)/\Z.F 57 [.int p,Aj Aa a,Aj Aa b]=.ok (Aj Aa y)
theorem cw(hc:VY Z)(hf:NI Z)(p:Ad)(a b:R3)(hp:P4 p)(ia:In3 p a)(ib:In3 p b)(la:AW p (tri a)=Ab 1)(lb:AW p (tri b)=Ab 1)(ne:a≠b):∃ y,In3 p y/\AW p (tri y)=Ab 1/\Pr p y (crs a b)/\Rn.run Z [.int p,Aj Aa a,Aj Aa b]=.ok (Aj Aa y):=by
 have e1:=hc a b ((Cy hp ia).b3 (by decide)) ((Cy hp ib).b3 (by decide)) ne
 cases el:AW p (tri (crs a b)) with
 |none=>exact absurd (QW hp ib ia lb la (Nx hp (Qo el) la lb)).symm ne
 |some l=>
  obtain⟨u,iu,j,l1,pr,ef⟩:=Qq hp el;have e2:=hf p Aa _ l u hp el iu;rw[ef]at e2;have e2':Z.F 17 [.int p,Aj Aa (crs a b)]=.ok (Aj Aa (fmR p u (crs a b))):=e2;refine⟨_,j,l1,pr,?_⟩;generalize Aj Aa (fmR p u (crs a b))=Y_ at *;simp[Rn,Df.run,Bv,e1,e2']
theorem QO(a b:R3):AC (crs a b) a=0/\AC (crs a b) b=0:=by
 unfold AC crs;constructor<;>grind
theorem Fq{x:Ad}(hp:P4 p)(kz:k%p≠0):k*x%p=0↔x%p=0:=by
 constructor
 .intro z;exact BL λn=>B6 hp kz n z
 .intro z;rw[BX,z,CB,Be]
theorem bP(hp:P4 p)(hx:Pr p x x')(hy:Pr p y y'):(AC x y%p=0)↔(AC x' y'%p=0):=by
 obtain⟨d,dz,e⟩:=hx;obtain⟨d',dz',e'⟩:=hy;have q:Cg p (AC x y) (d*d'*AC x' y'):=(GU e e').trans (Cg.of (by unfold AC Bs;simp only;grind))
 rw[show AC x y%p=_ from q]
 exact Fq hp (B6 hp dz dz')
section
variable{Z:Gam}{ns:Ac Ad}{p:Ad}{C:C6}{s3 s4 s5 s6 s7 s8:Sl}
end
def NF(p:Ad)(x:R3):Prop:=In3 p x/\AW p (tri x)=Ab 1
noncomputable def ptI(p n:Ad):R3:=if n=0 then (0,0,1) else if n<=p then (0,1,n-1) else (1,(n-p-1)/p,(n-p-1)%p)
noncomputable def Cf(p:Ad):Ac R3:=(AZ (p*p+p+1).toNat).map fun(n:Ag)=>ptI p n
theorem mh{n:Ad}(hp:P4 p)(h0:0<=n)(h1:n<p*p+p+1):NF p (ptI p n):=by
 have p1:1<p:=by have:=hp.lo;omega
 have p0:=hp.pos;unfold ptI;by_cases z:n=0
 .rw[AF z];exact⟨⟨⟨by decide,p0⟩,⟨by decide,p0⟩,⟨by decide,p1⟩⟩,We p1⟩
 .rw[AN z];by_cases z1:n<=p
  .rw[AF z1];exact⟨⟨⟨Hj 0,p0⟩,⟨(by decide:(0:Ad)<=1),p1⟩,⟨by show 0<=n-1;omega,by show n-1<p;omega⟩⟩,aT p1 _⟩
  .rw[AN z1];have d0:0<=(n-p-1)/p:=X0 (by omega) (by omega)
   have d1:(n-p-1)/p<p:=by rw[Int.ediv_lt_iff_lt_mul p0];omega
   exact⟨⟨⟨(by decide:(0:Ad)<=1),p1⟩,⟨d0,d1⟩,⟨AS _ (by omega),AQ _ p0⟩⟩,Sr p1 _ _⟩
theorem bS(hp:P4 p)(h:NF p x):∃ n:Ad,0<=n/\n<p*p+p+1/\x=ptI p n:=by
 obtain⟨⟨i0,i1,i2⟩,l⟩:=h;have p1:1<p:=by have:=hp.lo;omega
 have p0:=hp.pos;have pp:=Ka p0 p0;obtain⟨x0,x1,x2⟩:=x;simp only at i0 i1 i2;unfold tri AW at l;simp only at l;rw[AK i0.1 i0.2]at l;by_cases z0:x0=0
 .rw[AF z0]at l;unfold AW at l;rw[AK i1.1 i1.2]at l;by_cases z1:x1=0
  .rw[AF z1]at l;unfold AW at l;rw[AK i2.1 i2.2]at l;by_cases z2:x2=0
   .rw[AF z2]at l;cases l
   .rw[AN z2,Ce]at l;exact⟨0,Hj 0,by omega,by rw[z0,z1,l];rfl⟩
  .rw[AN z1,Ce]at l;refine⟨x2+1,by omega,by omega,?_⟩
   unfold ptI;rw[AN (by omega),AF (by omega),z0,l,Int.add_sub_cancel]
 .rw[AN z0,Ce]at l;have m1:p*x1<=p*(p-1):=Int.mul_le_mul_of_nonneg_left (by omega) (by omega)
  have m0:0<=p*x1:=IJ (by omega) i1.1
  rw[X3,EA]at m1;refine⟨p+1+p*x1+x2,by omega,by omega,?_⟩
  unfold ptI;have e:p+1+p*x1+x2-p-1=x2+p*x1:=by omega
  rw[AN (by omega),AN (by omega),e,Int.add_mul_ediv_left _ _ (by omega),Int.ediv_eq_zero_of_lt i2.1 i2.2,Int.add_mul_emod_self_left,AK i2.1 i2.2,Db,l]
theorem Ha(hp:P4 p):x∈Cf p↔NF p x:=by
 have p0:=hp.pos;have pp:=Ka p0 p0;constructor
 .intro h;obtain⟨n,hn,rfl⟩:=Bo.mp h;have:=A5.mp hn;exact mh hp (by omega) (by omega)
 .intro h;obtain⟨n,n0,n1,rfl⟩:=bS hp h;refine Bo.mpr ⟨n.toNat,A5.mpr (by omega),?_⟩
  rw[X7 n0]
theorem iU(hp:P4 p):(Cf p).Nodup:=by
 rcases hp with rfl|rfl|rfl|rfl<;>decide+kernel
theorem Q0{α:Type}[DecidableEq α]:∀{l1 l2:Ac α},l1.Nodup->(∀ x∈l1,x∈l2)->l1.length<=l2.length
 |[],_,_,_=>Gh _
 |x::l1,l2,nd,h=>by
  obtain⟨n1,n2⟩:=BJ.mp nd;have hx:=h x Aw;have:=Q0 (l1:=l1) (l2:=l2.erase x) n2 λy hy=>by
   have hy2:=h y (Av _ hy);have ne:y≠x:=λe=>n1 (e ▸ hy)
   exact(List.mem_erase_of_ne ne).mpr hy2
  rw[FS hx]at this;have l0:0<l2.length:=Yr hx;rw[Bl];omega
theorem T6{α β:Type}{f:α->β}:∀{l:Ac α},l.Nodup->(∀ x∈l,∀ y∈l,f x=f y->x=y)->(l.map f).Nodup
 |[],_,_=>DM
 |x::l,nd,h=>by
  obtain⟨n1,n2⟩:=BJ.mp nd;rw[Bm,BJ];refine⟨λm=>?_,T6 n2 λy hy z hz=>h y (Av _ hy) z (Av _ hz)⟩
  obtain⟨y,hy,e⟩:=Bo.mp m;have:=h y (Av _ hy) x Aw e;exact n1 (this ▸ hy)
noncomputable def nrm(p:Ad)(r:R3):R3:=open Classical in if h:∃ y,NF p y/\Pr p y r then XU h else r
theorem Ku{p l:Ad}(hp:P4 p)(el:AW p (tri r)=Ab l):NF p (nrm p r)/\Pr p (nrm p r) r:=by
 have h:∃ y,NF p y/\Pr p y r:=by
  obtain⟨u,iu,j,l1,pr,_⟩:=Qq hp el;exact⟨_,⟨j,l1⟩,pr⟩
 unfold nrm;rw[dif_pos h];exact Ef h
theorem U_5{a b c x:R3}(hp:P4 p)(z:Am a b c%p≠0)(hx:NF p x):NF p (nrm p (ap a b c x))/\Pr p (nrm p (ap a b c x)) (ap a b c x):=by
 obtain⟨l,el⟩:=Ls hp z hx.2 CgR.rfl;exact Ku hp el
theorem Ly(hp:P4 p)(hx:NF p x)(hy:NF p y)(h:Pr p x y):x=y:=QW hp hx.1 hy.1 hx.2 hy.2 h
theorem T9{a b c x:R3}(hp:P4 p)(z:Am a b c%p≠0)(hx:NF p x):nrm p (ap (bk0 a b c) (bk1 a b c) (bk2 a b c) (nrm p (ap a b c x)))=x:=by
 obtain⟨h1,h2⟩:=U_5 hp z hx;have zB:Am (bk0 a b c) (bk1 a b c) (bk2 a b c)%p≠0:=by rw[N2];exact B6 hp z z
 obtain⟨h3,h4⟩:=U_5 hp zB h1;refine Ly hp h3 hx (h4.trans hp ((Pr.ap h2).trans hp ?_));rw[XB];exact⟨_,z,CgR.rfl⟩
noncomputable def q4(w:Ag)(k:Ad)(y:R3):Ad:=match w with
  |0=>y.1*y.2.2-y.2.1*y.2.1
  |1=>y.1*y.1
  |2=>y.1*y.2.1
  |_=>y.1*y.1-k*(y.2.1*y.2.1)
theorem Q5(u v x:R3):vI (prd u v) x=AC u x*AC v x:=by
 unfold vI prd AC;simp only;grind
theorem Q4(k:Ad)(A:C6)(x:R3):vI (scC k A) x=k*vI A x:=by
 unfold vI scC;simp only;grind
noncomputable def Ow(p:Ad)(C:C6):Ac R3:=(Cf p).filter λx=>decide (vI C x%p=0)
noncomputable def At(pts:Ac R3):D:=.lst (pts.map (Aj Aa))
theorem PY{g:D->R Al}{f:D->R D}{q:R3->Al}:∀(xs:Ac R3),(∀ x∈xs,g (Aj Aa x)=.ok (q x)/\f (Aj Aa x)=.ok (Aj Aa x))->BR g f (xs.map (Aj Aa))=.ok ((xs.filter q).map (Aj Aa))
 |[],_=>rfl
 |x::xs,h=>by
  obtain⟨h1,h2⟩:=h x (Aw ..);have ih:=PY xs λy hy=>h y (Av _ hy)
  show (g (Aj Aa x)).bind _=_;rw[h1,R.bind_ok,DK];cases hq:q x with
  |true=>
   rw[AF rfl,AF rfl,h2,R.bind_ok,show BR g f (Kc (Aj Aa) xs)=_ from ih]
   rfl
  |false=>
   rw[AN (by decide),AN (by decide)]
   exact ih
noncomputable def gE:Ss:=(.cons (.app 1 (.tup (.cons (.int 0) (.cons (.int 1) (.cons (.var 2) .nil))))) .nil)
noncomputable def gG:E:=(.tup (.cons (.int 1) (.cons (.var 3) (.cons (.var 4) .nil))))
noncomputable def fZ:Ss:=(.cons (.ext 1 (.comp gG 4 (.rng (.var 0)) CM)) .nil)
noncomputable def Up:Df:=⟨5,Aa,(.cons (.asg 1 Aa (.lst (.cons (.tup (.cons (.int 0) (.cons (.int 0) (.cons (.int 1) .nil)))) .nil))) (.cons (.fors 2 (.rng (.var 0)) gE) (.cons (.fors 3 (.rng (.var 0)) fZ) (.cons (.ret (.var 1)) .nil))))⟩
def cE(Z:Gam):Prop:=∀ p:Ad,P4 p->Z.F 69 [.int p]=.ok (At (Cf p))
theorem oi(Z:Gam)(p:Ad)(hp:P4 p):Up.run Z [.int p]=.ok (At (Cf p)):=by
 rcases hp with rfl|rfl|rfl|rfl<;>kernel_rfl!
noncomputable def Pv:E:=(.cmp .Eq (.call 126 (.cons (.var 0) (.cons (.var 1) (.cons (.var 2) .nil)))) (.int 0))
noncomputable def Pw:E:=(.var 2)
noncomputable def Nd:Df:=⟨3,Aa,(.cons (.ret (.comp Pw 2 (.e (.call 69 (.cons (.var 0) .nil))) Pv)) .nil)⟩
theorem qJ(ht:cE Z)(hv:QT Z)(p:Ad)(C:C6)(hp:P4 p)(iC:InC p C):Nd.run Z [.int p,Ck C]=.ok (At (Ow p C)):=by
 have e1:=ht p hp;have cp:BR (cG Z [si p,sh (Ck C),Af] 2 Pv) (cF Z [si p,sh (Ck C),Af] 2 Pw) ((Cf p).map (Aj Aa))=.ok ((Ow p C).map (Aj Aa)):=by
  refine PY (Cf p) λx hx=>⟨?_,?_⟩
  .have e:=hv p C x hp iC ((Ha hp).mp hx).1;generalize vI C x%p=v at *;simp[cG,Pv,e];rw[CS];simp
  .simp[cF,Pw]
 have sq:Ch (At (Cf p))=.ok ((Cf p).map (Aj Aa)):=rfl;generalize Cf p=A at *;generalize At A=AA at *;simp[Nd,Df.run,Bv,e1,sq,cp];rfl
theorem uJ(a b c:R3):AC (crs a b) c=Am a b c:=by
 unfold AC crs Am det;grind
section
variable{Z:Gam}{p i j k d N:Ad}{PP x y u:D}{RL:Ac D}{s t s' t' v:Sl}
end
section
variable{Z:Gam}{p:Ad}{pts:Ac R3}
end
theorem oS(h:tri x=tri y):x=y:=by
 obtain⟨x0,x1,x2⟩:=x;obtain⟨y0,y1,y2⟩:=y;unfold tri at h;simp at h;obtain⟨rfl,rfl,rfl⟩:=h;rfl
theorem dn(k l:Ad)(a b:R3):crs (Bs k a) (Bs l b)=Bs (k*l) (crs a b):=by
 unfold crs Bs;simp only;refine BO ?_ (BO ?_ ?_)<;>(simp only;grind)
theorem Pr.crs{a b a' b':R3}(hp:P4 p)(h:Pr p a a')(g:Pr p b b'):Pr p (OvC.crs a b) (OvC.crs a' b'):=by
 obtain⟨d,dz,e⟩:=h;obtain⟨d',dz',e'⟩:=g;exact⟨d*d',B6 hp dz dz',(jc e e').trans (CgR.of (dn ..))⟩
noncomputable def Rm:Df:=⟨3,Ae,(.cons (.ret (.cmp .Eq (.call 1 (.cons (.var 0) (.cons (.bin .Add (.bin .Add (.bin .Mult (.idx (.var 1) (.int 0)) (.idx (.var 2) (.int 0))) (.bin .Mult (.idx (.var 1) (.int 1)) (.idx (.var 2) (.int 1)))) (.bin .Mult (.idx (.var 1) (.int 2)) (.idx (.var 2) (.int 2)))) .nil))) (.int 0))) .nil)⟩
def WX(Z:Gam):Prop:=∀(p:Ad)(x y:R3),P4 p->In3 p x->In3 p y->Z.F 24 [.int p,Aj Aa x,Aj Aa y]=.ok (.bl (decide (AC x y%p=0)))
theorem cv(hr:Ib Z)(p:Ad)(x y:R3)(hp:P4 p)(ix:In3 p x)(iy:In3 p y):Rm.run Z [.int p,Aj Aa x,Aj Aa y]=.ok (.bl (decide (AC x y%p=0))):=by
 have p0:=hp.pos;have bx:=Cy hp ix;have by_:=Cy hp iy;have k:∀ {u v},Bd 10 u->Bd 10 v->Fh u v=Aa:=λhu hv=>GV hu hv (by decide) (by decide)
 have k0:=k bx.1 by_.1;have k1:=k bx.2.1 by_.2.1;have k2:=k bx.2.2 by_.2.2;obtain⟨x0,x1,x2⟩:=Fs Aa x;obtain⟨y0,y1,y2⟩:=Fs Aa y;have e:=hr p (AC x y) p0;unfold AC at *;generalize x.1=a0 at *;generalize x.2.1=a1 at *;generalize x.2.2=a2 at *;generalize y.1=b0 at *;generalize y.2.1=b1 at *;generalize y.2.2=b2 at *;generalize Aj Aa x=xx at *;generalize Aj Aa y=yy at *;generalize hs:(a0*b0+a1*b1+a2*b2)%p=s at *;simp[Rm,Df.run,Bv,x0,x1,x2,y0,y1,y2,k0,k1,k2,e];rw[CS];simp
noncomputable def OZ:Df:=⟨3,Ae,(.cons (.ret (.call 24 (.cons (.var 0) (.cons (.var 1) (.cons (.var 2) .nil))))) .nil)⟩
def Rj(Z:Gam):Prop:=∀(p:Ad)(x y:R3),P4 p->In3 p x->In3 p y->Z.F 56 [.int p,Aj Aa x,Aj Aa y]=.ok (.bl (decide (AC x y%p=0)))
theorem ck(h:WX Z)(p:Ad)(x y:R3)(hp:P4 p)(ix:In3 p x)(iy:In3 p y):OZ.run Z [.int p,Aj Aa x,Aj Aa y]=.ok (.bl (decide (AC x y%p=0))):=by
 have e:=h p x y hp ix iy;generalize Aj Aa x=xx at *;generalize Aj Aa y=yy at *;simp[OZ,Df.run,Bv,e]
theorem NO(a b:R3):Am a b a=0/\Am a b b=0:=by
 unfold Am det;constructor<;>grind
noncomputable abbrev Whl(p:Ad)(C:C6):Prop:=Am (tw0 C) (tw1 C) (tw2 C)%p≠0
noncomputable def b4(u v:R3):Ad:=u.1*v.2.2+u.2.2*v.1-2*(u.2.1*v.2.1)
section
variable{p:Ad}{a b c:R3}{C:C6}
end
noncomputable def sides:D:=.tup [.str (By "inner"),.str (By "on"),.str (By "outer")]
noncomputable def M7:Df:=⟨2,Ae,(.cons (.asg 1 Ae (.bin .Mod (.var 1) (.bin .Add (.bin .Add (.bin .Mult (.var 0) (.var 0)) (.var 0)) (.int 1)))) (.cons (.ife (.cmp .Eq (.var 1) (.int 0)) (.cons (.ret (.tup (.cons (.int 0) (.cons (.int 0) (.cons (.int 1) .nil))))) .nil) .nil) (.cons (.ife (.cmp .LtE (.var 1) (.var 0)) (.cons (.ret (.tup (.cons (.int 0) (.cons (.int 1) (.cons (.bin .Sub (.var 1) (.int 1)) .nil))))) .nil) .nil) (.cons (.ret (.tup (.cons (.int 1) (.cons (.bin .FloorDiv (.bin .Sub (.bin .Sub (.var 1) (.var 0)) (.int 1)) (.var 0)) (.cons (.bin .Mod (.bin .Sub (.bin .Sub (.var 1) (.var 0)) (.int 1)) (.var 0)) .nil))))) .nil))))⟩
theorem pN{n:Ad}(hp:P4 p):0<p*p+p+1/\0<=n%(p*p+p+1)/\n%(p*p+p+1)<p*p+p+1:=by
 have p0:=hp.pos;have N0:0<p*p+p+1:=by have:=Ka p0 p0;omega
 exact⟨N0,AS n (X4 N0),AQ n N0⟩
theorem ce(Z:Gam)(p n:Ad)(hp:P4 p):M7.run Z [.int p,.int n]=.ok (Aj Aa (ptI p (n%(p*p+p+1)))):=by
 have pp:DZ p p=Aa:=HZ (by have:=hp.lo;omega) (by have:=hp.hi;omega)
 have p0:=hp.pos;have ph:=hp.hi;obtain⟨N0,h0,h1⟩:=pN (n:=n) hp;have pb:p<1073741824:=by omega
 generalize hr:n%(p*p+p+1)=r at *;unfold ptI;by_cases z0:r=0
 .rw[AF z0];simp[M7,Df.run,Bv,pp,N0,hr,z0];rfl
 .rw[AN z0];by_cases z1:r<=p
  .rw[AF z1];simp[M7,Df.run,Bv,pp,N0,hr,z0,z1];rfl
  .rw[AN z1];simp[M7,Df.run,Bv,pp,N0,hr,z0,z1,p0,pb];rfl
theorem Rw(C:C6)(a b c x:R3):vI (pb C a b c) x=vI C (ap a b c x):=by
 have e:ap a b c x=(x.1*(BG a b c).1+x.2.1*(BF a b c).1+x.2.2*(BE a b c).1,x.1*(BG a b c).2.1+x.2.1*(BF a b c).2.1+x.2.2*(BE a b c).2.1,x.1*(BG a b c).2.2+x.2.1*(BF a b c).2.2+x.2.2*(BE a b c).2.2):=by
  unfold ap AC BG BF BE;simp only;refine BO ?_ (BO ?_ ?_)<;>(simp only;grind)
 rw[e,NW];have e2:∀(u0 u1 u2 u3 u4 u5:Ad),vI ⟨u0,u1,u2,u3,u4,u5⟩ x=x.1*x.1*u0+x.2.1*x.2.1*u1+x.2.2*x.2.2*u2+(x.1*x.2.1*u3+x.1*x.2.2*u4+x.2.1*x.2.2*u5):=λu0 u1 u2 u3 u4 u5=>by
  unfold vI;simp only;grind
 exact e2 ..
theorem Wj(C:C6)(k:Ad)(x:R3):vI C (Bs k x)=k*k*vI C x:=by
 unfold vI Bs;simp only;grind
theorem Rv(hp:P4 p)(h:Pr p x y):vI C x%p=0↔vI C y%p=0:=by
 obtain⟨d,dz,e⟩:=h;have q:=(Jk (D:=C) ⟨Cg.rfl,Cg.rfl,Cg.rfl,Cg.rfl,Cg.rfl,Cg.rfl⟩ e).trans (Cg.of (Wj C d y));rw[show vI C x%p=_ from q]
 exact Fq hp (B6 hp dz dz)
section
variable{p:Ad}{a b c:R3}{C:C6}
end
theorem U_4(l:Ac R3):biD .len [At l]=.ok (.int (l.length:Ad)):=by
 show R.ok (D.int ((l.map (Aj Aa)).length:Ag))=_;rw[AV]
noncomputable def dA(p:Ad)(C:C6)(l:R3):R3:=nrm p (ap (bk0 (tw0 C) (tw1 C) (tw2 C)) (bk1 (tw0 C) (tw1 C) (tw2 C)) (bk2 (tw0 C) (tw1 C) (tw2 C)) l)
structure FOn (p:Ad) (C:C6) (A B P U_:R3):Prop where
 vA:vI C A%p=0
 vB:vI C B%p=0
 vU:vI C U_%p=0
 bA:bI C A P%p=0
 bB:bI C B P%p=0
theorem jd(A B P x:R3):Bs (Am A B P) x=(Am x B P*A.1+Am A x P*B.1+Am A B x*P.1,Am x B P*A.2.1+Am A x P*B.2.1+Am A B x*P.2.1,Am x B P*A.2.2+Am A x P*B.2.2+Am A B x*P.2.2):=by
 unfold Bs Am det;refine BO ?_ (BO ?_ ?_)<;>(simp only;grind)
section
variable{p:Ad}{C R:C6}{A B P U_ x:R3}
theorem cg0{k x:Ad}(h:x%p=0):Cg p (k*x) 0:=by
 show k*x%p=0%p;rw[BX,h,CB]
theorem Vk(h:FOn p C A B P U_)(x:R3):Cg p (Am A B P*Am A B P*vI C x) (Am A B x*Am A B x*vI C P+Am x B P*Am A x P*bI C A B):=by
 have e:=NW C A B P (Am x B P) (Am A x P) (Am A B x);rw[<-jd,Wj]at e;rw[e];generalize Am x B P=α;generalize Am A x P=β;generalize Am A B x=γ;have k1:Cg p (α*α*vI C A) 0:=cg0 h.vA;have k2:Cg p (β*β*vI C B) 0:=cg0 h.vB;have k3:Cg p (α*γ*bI C A P) 0:=cg0 h.bA;have k4:Cg p (β*γ*bI C B P) 0:=cg0 h.bB;refine(((k1.add k2).add Cg.rfl).add ((Cg.rfl.add k3).add k4)).trans (Cg.of ?_);grind
theorem Ru(h:FOn p C A B P U_)(x:R3):Cg p (Am A B U_*Am A B U_*(Am A B P*Am A B P*vI C x)) (bI C A B*(Am A B U_*Am A B U_*(Am x B P*Am A x P)-Am A B x*Am A B x*(Am U_ B P*Am A U_ P))):=by
 have e1:=Vk h x;have e2:=Vk h U_;have e0:Cg p (Am A B P*Am A B P*vI C U_) 0:=cg0 h.vU;have e3:Cg p (Am A B U_*Am A B U_*vI C P+Am U_ B P*Am A U_ P*bI C A B) 0:=e2.symm.trans e0;generalize Am A B P=D at *;generalize Am x B P=α at *;generalize Am A x P=β at *;generalize Am A B x=γ at *;generalize Am U_ B P=α0 at *;generalize Am A U_ P=β0 at *;generalize Am A B U_=γ0 at *;generalize bI C A B=b at *;generalize vI C P=v at *;generalize vI C x=vx at *;have e4:Cg p (γ0*γ0*(D*D*vx)) (γ0*γ0*(γ*γ*v+α*β*b)):=Cg.rfl.mul e1;have e5:Cg p (γ*γ*(γ0*γ0*v+α0*β0*b)) (γ*γ*0):=Cg.rfl.mul e3;refine e4.trans ?_;have e6:γ0*γ0*(γ*γ*v+α*β*b)=γ*γ*(γ0*γ0*v+α0*β0*b)+b*(γ0*γ0*(α*β)-γ*γ*(α0*β0)):=by grind
 rw[e6];refine(e5.add Cg.rfl).trans (Cg.of ?_);grind
theorem WN{k x y:Ad}(hp:P4 p)(kz:k%p≠0)(h:Cg p (k*x) (k*y)):Cg p x y:=by
 have e:k*(x-y)%p=0:=by
  have q:=h.sub (Cg.rfl (p:=p) (a:=k*y));have q2:(k*x-k*y)%p=(k*y-k*y)%p:=q;rw[Int.sub_self,Be,<-X3]at q2;exact q2
 have z:=(Fq hp kz).mp e;have q3:=Cg.add (p:=p) (a:=x-y) (b:=0) (c:=y) (d:=y) (by show (x-y)%p=0%p;rw[z,Be]) Cg.rfl
 have q4:Cg p (x-y+y) (0+y):=q3;rw[X5,Db]at q4;exact q4
theorem yN(hp:P4 p)(d1:Am A B P%p≠0)(d2:Am A B U_%p≠0)(hC:FOn p C A B P U_)(hR:FOn p R A B P U_)(x:R3):Cg p (bI C A B*vI R x) (bI R A B*vI C x):=by
 have e1:=Ru hC x;have e2:=Ru hR x;generalize (Am A B U_*Am A B U_*(Am x B P*Am A x P)-Am A B x*Am A B x*(Am U_ B P*Am A U_ P))=F at *;refine WN hp (k:=Am A B U_*Am A B U_*(Am A B P*Am A B P)) (B6 hp (B6 hp d2 d2) (B6 hp d1 d1)) ?_;generalize Am A B U_=γ at *;generalize Am A B P=D at *;generalize bI C A B=b at *;generalize bI R A B=r at *;have f1:Cg p (b*(γ*γ*(D*D*vI R x))) (b*(r*F)):=Cg.rfl.mul e2;have f2:Cg p (r*(γ*γ*(D*D*vI C x))) (r*(b*F)):=Cg.rfl.mul e1;refine(Cg.of (by grind)).trans (f1.trans ((Cg.of (by grind:b*(r*F)=r*(b*F))).trans (f2.symm.trans (Cg.of (by grind)))))
theorem WO{k l:Ad}(h:∀ x,Cg p (k*vI R x) (l*vI C x)):CgC p (scC k R) (scC l C):=by
 have a0:=h (1,0,0);have a1:=h (0,1,0);have a2:=h (0,0,1);have b0:=h (1,1,0);have b1:=h (1,0,1);have b2:=h (0,1,1);have v0:∀ E:C6,vI E (1,0,0)=E.c0:=λE=>by unfold vI;simp
 have v1:∀ E:C6,vI E (0,1,0)=E.c1:=λE=>by unfold vI;simp
 have v2:∀ E:C6,vI E (0,0,1)=E.c2:=λE=>by unfold vI;simp
 have w0:∀ E:C6,vI E (1,1,0)=E.c0+E.c1+E.c3:=λE=>by unfold vI;simp
 have w1:∀ E:C6,vI E (1,0,1)=E.c0+E.c2+E.c4:=λE=>by unfold vI;simp
 have w2:∀ E:C6,vI E (0,1,1)=E.c1+E.c2+E.c5:=λE=>by unfold vI;simp
 rw[v0,v0]at a0;rw[v1,v1]at a1;rw[v2,v2]at a2;rw[w0,w0]at b0;rw[w1,w1]at b1;rw[w2,w2]at b2;refine⟨a0,a1,a2,?_,?_,?_⟩
 .have:=(b0.sub a0).sub a1;refine(Cg.of ?_).trans (this.trans (Cg.of ?_))<;>(unfold scC;simp only;grind)
 .have:=(b1.sub a0).sub a2;refine(Cg.of ?_).trans (this.trans (Cg.of ?_))<;>(unfold scC;simp only;grind)
 .have:=(b2.sub a1).sub a2;refine(Cg.of ?_).trans (this.trans (Cg.of ?_))<;>(unfold scC;simp only;grind)
theorem SR(hp:P4 p)(w:Whl p C)(d1:Am A B P%p≠0)(d2:Am A B U_%p≠0)(hC:FOn p C A B P U_):bI C A B%p≠0:=λz=>by
 refine w ?_;have v0:∀ x,Cg p (1*vI C x) (0*vI C x):=λx=>by
  rw[Dz,DA];refine WN hp (k:=Am A B U_*Am A B U_*(Am A B P*Am A B P)) (B6 hp (B6 hp d2 d2) (B6 hp d1 d1)) ?_;have e1:=Ru hC x;refine(Cg.of (by grind)).trans (e1.trans ?_)
  rw[CB];show _%p=0%p;rw[BX,z,DA]
 have c:=WO v0;rw[JS]at c;obtain⟨t0,t1,t2⟩:=W6 c;have e:=Mu t0 t1 t2;rw[uF]at e;show Am (tw0 C) (tw1 C) (tw2 C)%p=0;rw[show Am (tw0 C) (tw1 C) (tw2 C)%p=_ from e]
 simp
theorem mR(hp:P4 p)(wC:Whl p C)(wR:Whl p R)(d1:Am A B P%p≠0)(d2:Am A B U_%p≠0)(hC:FOn p C A B P U_)(hR:FOn p R A B P U_):PrC p R C:=by
 have b1:=SR hp wC d1 d2 hC;have b2:=SR hp wR d1 d2 hR;obtain⟨u,uz,ue⟩:=N8 hp b1;refine⟨u*bI R A B,B6 hp uz b2,?_⟩;have c:=WO (yN hp d1 d2 hC hR);have e1:CgC p (scC u (scC (bI C A B) R)) (scC u (scC (bI R A B) C)):=CgC.sc Cg.rfl c;rw[Kz,Kz]at e1;have e2:CgC p (scC (u*bI C A B) R) (scC 1 R):=CgC.sc ue CgC.rfl;rw[JS]at e2;exact e2.symm.trans e1
end
section
variable{p:Ad}{C E:C6}{a b c A B P U_ A' B' P' U_' x y:R3}
theorem Xz(C:C6)(a b c x y:R3):bI (pb C a b c) x y=bI C (ap a b c x) (ap a b c y):=by
 have e:∀ u:R3,ap a b c u=(u.1*(BG a b c).1+u.2.1*(BF a b c).1+u.2.2*(BE a b c).1,u.1*(BG a b c).2.1+u.2.1*(BF a b c).2.1+u.2.2*(BE a b c).2.1,u.1*(BG a b c).2.2+u.2.1*(BF a b c).2.2+u.2.2*(BE a b c).2.2):=λu=>by
  unfold ap AC BG BF BE;simp only;refine BO ?_ (BO ?_ ?_)<;>(simp only;grind)
 rw[e x,e y,SU];rfl
theorem j6(C:C6)(k l:Ad)(x y:R3):bI C (Bs k x) (Bs l y)=k*l*bI C x y:=by
 unfold bI ap AC Bs;simp only;grind
theorem Xy(hp:P4 p)(h:Pr p x x')(g:Pr p y y'):bI C x y%p=0↔bI C x' y'%p=0:=by
 obtain⟨d,dz,e⟩:=h;obtain⟨d',dz',e'⟩:=g;have q:=(Oo (CgC.rfl (C:=C)) e e').trans (Cg.of (j6 C d d' x' y'));rw[show bI C x y%p=_ from q]
 exact Fq hp (B6 hp dz dz')
theorem gb(hp:P4 p)(h:FOn p E A' B' P' U_')(hA:Pr p A' (ap a b c A))(hB:Pr p B' (ap a b c B))(hP:Pr p P' (ap a b c P))(hU:Pr p U_' (ap a b c U_)):FOn p (pb E a b c) A B P U_:=
 ⟨by rw[Rw];exact(Rv hp hA).mp h.vA,by rw[Rw];exact(Rv hp hB).mp h.vB,by rw[Rw];exact(Rv hp hU).mp h.vU,by rw[Xz];exact(Xy hp hA hP).mp h.bA,by rw[Xz];exact(Xy hp hB hP).mp h.bB⟩
theorem wD(hp:P4 p)(z:Am a b c%p≠0)(w:Whl p E):Whl p (pb E a b c):=by
 show Am _ _ _%p≠0;rw[de];exact B6 hp (B6 hp z z) w
theorem jB(hp:P4 p)(z:Am a b c%p≠0)(wC:Whl p C)(wE:Whl p E)(d1:Am A B P%p≠0)(d2:Am A B U_%p≠0)(hC:FOn p C A B P U_)(hE:FOn p E A' B' P' U_')(hA:Pr p A' (ap a b c A))(hB:Pr p B' (ap a b c B))(hP:Pr p P' (ap a b c P))(hU:Pr p U_' (ap a b c U_)):PrC p (pb E a b c) C:=
 mR hp wC (wD hp z wE) d1 d2 hC (gb hp hE hA hB hP hU)
end
noncomputable def PB:Df:=⟨1,Ae,(.cons (.ret (.idx (.lst (.cons (.int 3) (.cons (.int 5) (.cons (.int 7) (.cons (.int 5) (.cons (.int 7) (.cons (.int 11) .nil))))))) (.bin .Mod (.call 228 (.cons (.var 0) (.cons (.int 0) .nil))) (.int 6)))) .nil)⟩
theorem qK(h:KH Z 228 ns):∃ p,P4 p/\PB.run Z [scr ns]=.ok (.int p):=by
 obtain⟨m,m0,e⟩:=h 0 (by decide)
 have q:m%6=0\/m%6=1\/m%6=2\/m%6=3\/m%6=4\/m%6=5:=by omega
 have g:∃ p,P4 p/\DH [.int 3,.int 5,.int 7,.int 5,.int 7,.int 11] (m%6)=.ok (.int p):=by
  rcases q with z|z|z|z|z|z<;>rw[z]
  .exact⟨3,.inl rfl,rfl⟩
  .exact⟨5,.inr (.inl rfl),rfl⟩
  .exact⟨7,.inr (.inr (.inl rfl)),rfl⟩
  .exact⟨5,.inr (.inl rfl),rfl⟩
  .exact⟨7,.inr (.inr (.inl rfl)),rfl⟩
  .exact⟨11,.inr (.inr (.inr rfl)),rfl⟩
 obtain⟨p,hp,g⟩:=g;refine⟨p,hp,?_⟩;simp[PB,Df.run,Bv,e,g]
def VT(Z:Gam):Prop:=∀(p:Ad)(b:Al)(xs:Ac Ad)(l t:Ad),P4 p->AW p xs=Ab l->E5 p l t->Z.F 288 [.int p,Dt b xs]=.ok (.tup (ds (fmI p t xs)))
noncomputable def PD:Df:=⟨6,Ae,(.cons (.asg 3 Ae (.bin .Sub (.bin .Mult (.idx (.var 1) (.int 1)) (.idx (.var 2) (.int 2))) (.bin .Mult (.idx (.var 1) (.int 2)) (.idx (.var 2) (.int 1))))) (.cons (.asg 4 Ae (.bin .Sub (.bin .Mult (.idx (.var 1) (.int 2)) (.idx (.var 2) (.int 0))) (.bin .Mult (.idx (.var 1) (.int 0)) (.idx (.var 2) (.int 2))))) (.cons (.asg 5 Ae (.bin .Sub (.bin .Mult (.idx (.var 1) (.int 0)) (.idx (.var 2) (.int 1))) (.bin .Mult (.idx (.var 1) (.int 1)) (.idx (.var 2) (.int 0))))) (.cons (.ret (.tup (.cons (.bin .Mod (.var 3) (.var 0)) (.cons (.bin .Mod (.var 4) (.var 0)) (.cons (.bin .Mod (.var 5) (.var 0)) .nil))))) .nil))))⟩
def Ix(Z:Gam):Prop:=∀(p:Ad)(q q':Al)(a x:R3),0<p->B3 a->B3 x->Z.F 232 [.int p,Aj q a,Aj q' x]=.ok (Aj Aa (mdR p (crs a x)))
theorem mK(Z:Gam)(p:Ad)(q q':Al)(a x:R3)(p0:0<p)(ha:B3 a)(hx:B3 x):PD.run Z [.int p,Aj q a,Aj q' x]=.ok (Aj Aa (mdR p (crs a x))):=by
 obtain⟨x0,x1,x2⟩:=Fs q a;obtain⟨y0,y1,y2⟩:=Fs q' x;have k:∀ {u v},Bd 300 u->Bd 300 v->Fh u v=Aa:=λhu hv=>GV hu hv (by decide) (by decide)
 simp[PD,Df.run,Bv,x0,x1,x2,y0,y1,y2,k ha.1 hx.1,k ha.1 hx.2.1,k ha.1 hx.2.2,k ha.2.1 hx.1,k ha.2.1 hx.2.1,k ha.2.1 hx.2.2,k ha.2.2 hx.1,k ha.2.2 hx.2.1,k ha.2.2 hx.2.2,p0];rfl
noncomputable def Qr:Df:=⟨3,Ae,(.cons (.ret (.bin .Mod (.bin .Add (.bin .Add (.bin .Mult (.idx (.var 1) (.int 0)) (.idx (.var 2) (.int 0))) (.bin .Mult (.idx (.var 1) (.int 1)) (.idx (.var 2) (.int 1)))) (.bin .Mult (.idx (.var 1) (.int 2)) (.idx (.var 2) (.int 2)))) (.var 0))) .nil)⟩
def H9(Z:Gam):Prop:=∀(p:Ad)(q q':Al)(a x:R3),0<p->B3 a->B3 x->Z.F 233 [.int p,Aj q a,Aj q' x]=.ok (.int (AC a x%p))
theorem mD(Z:Gam)(p:Ad)(q q':Al)(a x:R3)(p0:0<p)(ha:B3 a)(hx:B3 x):Qr.run Z [.int p,Aj q a,Aj q' x]=.ok (.int (AC a x%p)):=by
 obtain⟨x0,x1,x2⟩:=Fs q a;obtain⟨y0,y1,y2⟩:=Fs q' x;have k:∀ {u v},Bd 300 u->Bd 300 v->Fh u v=Aa:=λhu hv=>GV hu hv (by decide) (by decide)
 simp[Qr,Df.run,Bv,x0,x1,x2,y0,y1,y2,k ha.1 hx.1,k ha.2.1 hx.2.1,k ha.2.2 hx.2.2,p0];rfl
noncomputable def M8:E:=(.call 233 (.cons (.var 0) (.cons (.var 3) (.cons (.var 2) .nil))))
noncomputable def PU:Df:=⟨4,Ae,(.cons (.ret (.call 288 (.cons (.var 0) (.cons (.comp M8 3 (.e (.var 1)) CM) .nil)))) .nil)⟩
def UR(Z:Gam):Prop:=∀(p:Ad)(t q q':Al)(a b c x:R3),GoodR p a b c->B3 x->(∃ l,AW p (tri x)=Ab l)->Z.F 289 [.int p,Da t q a b c,Aj q' x]=.ok (Aj Aa (nrm p (ap a b c x)))
theorem mH(hs:H9 Z)(hf:VT Z)(p:Ad)(t q q':Al)(a b c x:R3)(G:GoodR p a b c)(hx:B3 x)(lx:∃ l,AW p (tri x)=Ab l):PU.run Z [.int p,Da t q a b c,Aj q' x]=.ok (Aj Aa (nrm p (ap a b c x))):=by
 have hp:=G.p4;have p0:=hp.pos;obtain⟨l0,lx⟩:=lx;obtain⟨l,el⟩:=Ls hp G.nz lx CgR.rfl;obtain⟨u,iu,j,l1,pr,ef⟩:=Qq hp el;obtain⟨n1,n2⟩:=Ku hp el;have e0:fmR p u (ap a b c x)=nrm p (ap a b c x):=Ly hp ⟨j,l1⟩ n1 (pr.trans hp (n2.symm hp));have md:(tri (mdR p (ap a b c x))).map (λx=>x%p)=(tri (ap a b c x)).map (λx=>x%p):=by
  show [_%p%p,_%p%p,_%p%p]=[_%p,_%p,_%p];simp only[BD _ (CA p)]
 have e:=hf p Ae (tri (mdR p (ap a b c x))) l u hp (by rw[Mn md];exact el) iu
 rw[Vc md,ef,e0]at e;have e':Z.F 288 [.int p,.lst [.int (AC a x%p),.int (AC b x%p),.int (AC c x%p)]]=.ok (Aj Aa (nrm p (ap a b c x))):=e;have b3:∀ {r},In3 p r->B3 r:=λh=>(Cy hp h).b3 (by decide)
 have k:∀ r,In3 p r->cF Z [si p,sh (Da t q a b c),sh (Aj q' x),Af] 3 M8 (Aj q r)=.ok (.int (AC r x%p)):=λr hr=>by
  have e1:=hs p q q' r x p0 (b3 hr) hx;generalize Aj q r=rr at *;generalize Aj q' x=xx at *;simp[cF,M8,e1]
 have g:∀ d,cG Z [si p,sh (Da t q a b c),sh (Aj q' x),Af] 3 CM d=.ok Aa:=λ_=>rfl
 have cp:BR (cG Z [si p,sh (Da t q a b c),sh (Aj q' x),Af] 3 CM) (cF Z [si p,sh (Da t q a b c),sh (Aj q' x),Af] 3 M8) [Aj q a,Aj q b,Aj q c]=.ok [.int (AC a x%p),.int (AC b x%p),.int (AC c x%p)]:=by
  simp[BR,g,k a G.ia,k b G.ib,k c G.ic]
 have sq:=SK t q a b c;generalize Aj Aa (nrm p (ap a b c x))=Y_ at *;generalize Aj q' x=xx at *;generalize Da t q a b c=TT at *;generalize [Aj q a,Aj q b,Aj q c]=LL at *;simp[PU,Df.run,Bv,sq,cp,e']
noncomputable def Mf:Ss:=(.cons (.app 2 (.call 289 (.cons (.var 0) (.cons (.var 1) (.cons (.tup (.cons (.int 1) (.cons (.var 3) (.cons (.bin .Mult (.var 3) (.var 3)) .nil)))) .nil))))) .nil)
noncomputable def M6:Df:=⟨4,Ae,(.cons (.asg 2 Aa (.lst (.cons (.call 289 (.cons (.var 0) (.cons (.var 1) (.cons (.tup (.cons (.int 0) (.cons (.int 0) (.cons (.int 1) .nil)))) .nil)))) .nil))) (.cons (.fors 3 (.rng (.var 0)) Mf) (.cons (.ret (.var 2)) .nil)))⟩
noncomputable def EM(p:Ad):Ac R3:=(0,0,1)::(AZ p.toNat).map fun(t:Ag)=>((1:Ad),(t:Ad),(t:Ad)*(t:Ad))
theorem Mz(hp:P4 p)(hx:x∈EM p):B3 x/\∃ l,AW p (tri x)=Ab l:=by
 have p1:1<p:=by have:=hp.lo;omega
 have ph:=hp.hi;rcases Au.mp hx with rfl|hx
 .exact⟨(Cy hp (a:=(0,0,1)) ⟨⟨Hj 0,hp.pos⟩,⟨Hj 0,hp.pos⟩,⟨(by decide:(0:Ad)<=1),p1⟩⟩).b3 (by decide),1,We p1⟩
 .obtain⟨t,ht,rfl⟩:=Bo.mp hx;have ht:=A5.mp ht;have t0:(t:Ad)<11:=by omega
  have tt:(t:Ad)*(t:Ad)<=11*11:=X2 (by omega) (by omega) (by omega) (by decide)
  have t2:0<=(t:Ad)*(t:Ad):=IJ (by omega) (by omega)
  have pw:(2:Ag) ^ 10<=2 ^ 300:=Fn (by decide) (by decide)
  refine⟨⟨?_,?_,?_⟩,1,Sr p1 _ _⟩
  .exact AI (by decide:(1:Ad).natAbs<2 ^ 10) pw
  .exact AI (by show ((t:Ad)).natAbs<2 ^ 10;omega) pw
  .exact AI (by show ((t:Ad)*(t:Ad)).natAbs<2 ^ 10;omega) pw
theorem tD{m:Ad}{RR Y_:D}{acc:Ac D}(mm:DZ m m=Aa)(en:Z.F 289 [.int p,RR,.tup [.int 1,.int m,.int (m*m)]]=.ok Y_)(sz:CN (acc.length+1)=Aa):AY Z 3 Mf (.int m) [si p,sh RR,Ab (.lst acc,Aa),s3]=.next [si p,sh RR,Ab (.lst (acc++[Y_]),Aa),si m]:=by
 simp[AY,Mf,mm,en,C3,sz]
def ja(Z:Gam):Prop:=∀(p:Ad)(a b c:R3),GoodR p a b c->Z.F 290 [.int p,Hd a b c]=.ok (At ((EM p).map λx=>nrm p (ap a b c x)))
theorem ci(hl:UR Z)(p:Ad)(a b c:R3)(G:GoodR p a b c):M6.run Z [.int p,Hd a b c]=.ok (At ((EM p).map λx=>nrm p (ap a b c x))):=by
 have hp:=G.p4;have ph:=hp.hi;have pl:=hp.lo;have L:∀ x∈EM p,Z.F 289 [.int p,Hd a b c,Aj Aa x]=.ok (Aj Aa (nrm p (ap a b c x))):=λx hx=>hl p Ae Ae Aa a b c x G (Mz hp hx).1 (Mz hp hx).2
 have e0:Z.F 289 [.int p,Hd a b c,.tup [.int 0,.int 0,.int 1]]=.ok (Aj Aa (nrm p (ap a b c (0,0,1)))):=L (0,0,1) (Aw ..);have rg:CF 0 p=.ok (CJ 0 (p-0).toNat):=Ko (by decide) (by decide) (by omega) (by omega)
 rw[E7]at rg;have lp:=PM (body:=AY Z 3 Mf) (λn Y=>∃ s3,Y=[si p,sh (Hd a b c),Ab (.lst (((0,0,1)::(AZ n).map fun(t:Ag)=>((1:Ad),(t:Ad),(t:Ad)*(t:Ad))).map λx=>Aj Aa (nrm p (ap a b c x))),Aa),s3]) (CJ 0 p.toNat) 0 [si p,sh (Hd a b c),Ab (.lst [Aj Aa (nrm p (ap a b c (0,0,1)))],Aa),Af] ⟨Af,rfl⟩ (by
  rintro n x hx Y ⟨s3,rfl⟩;obtain⟨hn,rfl⟩:=QB hx;rw[Db,FT];have hm:((1:Ad),(n:Ad),(n:Ad)*(n:Ad))∈EM p:=Av _ (Bo.mpr ⟨n,A5.mpr (by omega),rfl⟩)
  have en:Z.F 289 [.int p,Hd a b c,.tup [.int 1,.int (n:Ad),.int ((n:Ad)*(n:Ad))]]=.ok (Aj Aa (nrm p (ap a b c (1,(n:Ad),(n:Ad)*(n:Ad))))):=L _ hm;have lr:(AZ (n+1)).map (fun(t:Ag)=>((1:Ad),(t:Ad),(t:Ad)*(t:Ad)))=(AZ n).map (fun(t:Ag)=>((1:Ad),(t:Ad),(t:Ad)*(t:Ad)))++[((1:Ad),(n:Ad),(n:Ad)*(n:Ad))]:=by
   rw[List.range_succ,EX];rfl
  rw[lr,<-List.cons_append,EX];have len:((((0:Ad),(0:Ad),(1:Ad))::(AZ n).map fun(t:Ag)=>((1:Ad),(t:Ad),(t:Ad)*(t:Ad))).map λx=>Aj Aa (nrm p (ap a b c x))).length=n+1:=by simp
  generalize ((((0:Ad),(0:Ad),(1:Ad))::(AZ n).map fun(t:Ag)=>((1:Ad),(t:Ad),(t:Ad)*(t:Ad))).map λx=>Aj Aa (nrm p (ap a b c x)))=acc at *
  have sz:CN (acc.length+1)=Aa:=CQ (by omega)
  have mm:DZ (n:Ad) (n:Ad)=Aa:=HZ (by omega) (by omega)
  refine⟨_,?_,si (n:Ad),rfl⟩;show AY Z 3 Mf (.int (n:Ad)) [si p,sh (Hd a b c),Ab (.lst acc,Aa),s3]=.next [si p,sh (Hd a b c),Ab (.lst (acc++[Aj Aa (nrm p (ap a b c (1,(n:Ad),(n:Ad)*(n:Ad))))]),Aa),si (n:Ad)];exact tD mm en sz)
 obtain⟨Y',e,s3,rfl⟩:=lp;rw[FT,Mj]at e;have fin:D.lst (((0,0,1)::(AZ p.toNat).map fun(t:Ag)=>((1:Ad),(t:Ad),(t:Ad)*(t:Ad))).map λx=>Aj Aa (nrm p (ap a b c x)))=At ((EM p).map λx=>nrm p (ap a b c x)):=by
  unfold At EM;rw[Ea];rfl
 rw[<-fin]
 clear fin L
 generalize (((0,0,1)::(AZ p.toNat).map fun(t:Ag)=>((1:Ad),(t:Ad),(t:Ad)*(t:Ad))).map λx=>Aj Aa (nrm p (ap a b c x)))=OUT at *
 generalize CJ 0 p.toNat=RL at *;generalize Aj Aa (nrm p (ap a b c (0,0,1)))=Y_ at *;generalize Hd a b c=RR at *;simp[M6,Df.run,Bv,e0,Do,rg,e]
noncomputable def O8:E:=(.and (.cons (.isi (.var 3) [.int]) (.cons (.no (.isi (.var 3) [.bool])) (.cons (.cmp2 .LtE .Lt (.int 0) (.var 3) (.var 0)) .nil))))
noncomputable def Pz:Df:=⟨4,Ae,(.cons (.ife (.or (.cons (.no (.isi (.var 1) [.tuple])) (.cons (.cmp .NotEq (.bi .len (.cons (.var 1) .nil)) (.var 2)) .nil))) (.cons (.ret (.bl Ae)) .nil) .nil) (.cons (.ret (.bi .all (.cons (.comp O8 3 (.e (.var 1)) CM) .nil))) .nil))⟩
def VQ(Z:Gam):Prop:=∀(p:Ad)(xs:Ac Ad),(∀ x∈xs,0<=x/\x<p)->Z.F 236 [.int p,.tup (ds xs),.int xs.length]=.ok (.bl Aa)
theorem qI(Z:Gam)(p:Ad)(xs:Ac Ad)(hx:∀ x∈xs,0<=x/\x<p):Pz.run Z [.int p,.tup (ds xs),.int xs.length]=.ok (.bl Aa):=by
 have c1:BR (cG Z [si p,sh (.tup (ds xs)),si xs.length,Af] 3 CM) (cF Z [si p,sh (.tup (ds xs)),si xs.length,Af] 3 O8) (ds xs)=.ok (xs.map λ_=>D.bl Aa):=by
  refine V4 xs λx hm=>⟨rfl,?_⟩
  obtain⟨h0,h1⟩:=hx x hm;simp[cF,O8,kiD,FK,h0,h1]
 have dl:(ds xs).length=xs.length:=AV ..;simp[Pz,Df.run,Bv,kiD,FK,dl,c1,UM]
noncomputable def O5:E:=(.cmp .Gt (.var 3) (.int 0))
noncomputable def O6:E:=(.var 3)
noncomputable def PV:Df:=⟨4,Ae,(.cons (.ife (.or (.cons (.no (.call 236 (.cons (.var 0) (.cons (.var 1) (.cons (.var 2) .nil))))) (.cons (.cmp .Eq (.bi .sum (.cons (.var 1) .nil)) (.int 0)) .nil))) (.cons (.ret (.bl Ae)) .nil) .nil) (.cons (.ret (.cmp .Eq (.idx (.comp O6 3 (.e (.var 1)) O5) (.int 0)) (.int 1))) .nil))⟩
theorem U_6{p:Ad}:∀ xs:Ac Ad,(∀ v∈xs,0<=v/\v<p)->AW p xs=(xs.filter λv=>decide (0<v)).head?
 |[],_=>rfl
 |v::xs,h=>by
  have hv:=h v (Aw ..);have em:=AK hv.1 hv.2;have ih:=U_6 xs λw hw=>h w (Av _ hw)
  unfold AW;rw[em,DK,ih];by_cases z:v=0
  .rw[AF z,z];rfl
  .rw[AN z,AF (by simp;omega)]
   rfl
theorem Wn:∀(xs:Ac Ad)(a:Ad),HA a (ds xs)=.ok (a+xs.sum)
 |[],a=>by show R.ok a=_;simp
 |x::xs,a=>by
  show HA (a+x) (ds xs)=_;rw[Wn xs (a+x)];simp[Int.add_assoc]
theorem Vn{p:Ad}:∀ xs:Ac Ad,(∀ v∈xs,0<=v/\v<p)->0<=xs.sum/\∀ v∈xs,v<=xs.sum
 |[],_=>⟨by simp,λv h=>nomatch h⟩
 |x::xs,h=>by
  obtain⟨h1,h2⟩:=Vn xs λw hw=>h w (Av _ hw)
  have hx:=h x (Aw ..);rw[List.sum_cons];refine⟨by omega,λv hv=>?_⟩
  rcases Au.mp hv with rfl|hv
  .omega
  .have:=h2 v hv;omega
theorem qV(hr:VQ Z)(p:Ad)(xs:Ac Ad)(p0:0<p)(hx:∀ x∈xs,0<=x/\x<p)(l1:AW p xs=Ab 1):PV.run Z [.int p,.tup (ds xs),.int xs.length]=.ok (.bl Aa):=by
 have e1:=hr p xs hx;have hd:(xs.filter λv=>decide (0<v)).head?=Ab 1:=by rw[<-U_6 xs hx];exact l1
 have m1:(1:Ad)∈xs:=by
  have:(1:Ad)∈xs.filter λv=>decide (0<v):=List.mem_of_mem_head? hd
  exact(CC.mp this).1
 obtain⟨s0,s1⟩:=Vn xs hx;have sz:¬ xs.sum=0:=by have:=s1 1 m1;omega
 have sm:biD .sum [.tup (ds xs)]=.ok (.int xs.sum):=by
  show (HA 0 (ds xs)).bind (λi=>R.ok (D.int i))=_
  rw[Wn,Db];rfl
 have sq:Ch (.tup (ds xs))=.ok (ds xs):=rfl;have c1:∀ n:Ad,BR (cG Z [si p,sh (.tup (ds xs)),si n,Af] 3 O5) (cF Z [si p,sh (.tup (ds xs)),si n,Af] 3 O6) (ds xs)=.ok (ds (xs.filter λv=>decide (0<v))):=λn=>by
  refine Nc xs λv _=>⟨?_,?_⟩
  .simp[cG,O5]
  .simp[cF,O6]
 have g:=Qd hd;generalize (xs.length:Ad)=N at *;generalize xs.sum=SS at *;generalize ds (xs.filter λv=>decide (0<v))=FL at *
 generalize D.tup (ds xs)=TT at *;generalize ds xs=XL at *;simp[PV,Df.run,Bv,e1,sm,sz,sq,c1,g]
noncomputable def C0p:C6:=⟨0,1,0,0,-1,0⟩
noncomputable def Pi:E:=(.bin .Mod (.bin .Add (.var 9) (.bin .Mult (.var 8) (.var 10))) (.var 0))
noncomputable def HU:Ss:=(.cons (.asg 5 Ae (.call 228 (.cons (.var 1) (.cons (.bin .Add (.var 2) (.var 4)) .nil)))) (.cons (.asg 6 Ae (.bin .Mod (.var 5) (.int 3))) (.cons (.asg 7 Ae (.bin .Mod (.bin .Add (.bin .Add (.var 6) (.int 1)) (.bin .Mod (.bin .FloorDiv (.var 5) (.int 3)) (.int 2))) (.int 3))) (.cons (.asg 8 Ae (.bin .Mod (.bin .FloorDiv (.var 5) (.int 6)) (.var 0))) (.cons (.put 3 (.var 6) (.compT Pi [9,10] (.zip (.idx (.var 3) (.var 6)) (.idx (.var 3) (.var 7))) CM)) (.cons (.ife (.cmp .Eq (.bin .Mod (.bin .FloorDiv (.var 5) (.int 100)) (.int 3)) (.int 1)) (.cons (.asg 3 Aa (.lst (.cons (.idx (.var 3) (.var 7)) (.cons (.idx (.var 3) (.var 6)) (.cons (.idx (.var 3) (.bin .Sub (.bin .Sub (.int 3) (.var 6)) (.var 7))) .nil))))) .nil) .nil) .nil))))))
noncomputable def Ph:E:=(.bin .Mod (.bin .Mult (.var 8) (.var 11)) (.var 0))
theorem rZ{a b c:R3}{j:Ad}(h:GoodR p a b c)(ij:Ij i j):∃(i':Ag)(x y a' b' c':R3),DH (L3 a b c) i=.ok (Ee x)/\DH (L3 a b c) j=.ok (Ee y)/\plD 3 i=Ab i'/\GoodR p a' b' c'/\(L3 a b c).set i' (Ee (adR p t x y))=L3 a' b' c':=by
 have p0:=h.p4.pos;rcases ij with ⟨rfl,rfl⟩|⟨rfl,rfl⟩|⟨rfl,rfl⟩|⟨rfl,rfl⟩|⟨rfl,rfl⟩|⟨rfl,rfl⟩
 .exact⟨0,a,b,_,_,_,rfl,rfl,rfl,h.of (k:=1) h.p4.o1 (cQ p t a b c) ⟨LQ p0 _ _ _,h.ib,h.ic⟩,rfl⟩
 .exact⟨0,a,c,_,_,_,rfl,rfl,rfl,h.of (k:=1) h.p4.o1 (cP p t a b c) ⟨LQ p0 _ _ _,h.ib,h.ic⟩,rfl⟩
 .exact⟨1,b,a,_,_,_,rfl,rfl,rfl,h.of (k:=1) h.p4.o1 (cO p t a b c) ⟨h.ia,LQ p0 _ _ _,h.ic⟩,rfl⟩
 .exact⟨1,b,c,_,_,_,rfl,rfl,rfl,h.of (k:=1) h.p4.o1 (cN p t a b c) ⟨h.ia,LQ p0 _ _ _,h.ic⟩,rfl⟩
 .exact⟨2,c,a,_,_,_,rfl,rfl,rfl,h.of (k:=1) h.p4.o1 (cK p t a b c) ⟨h.ia,h.ib,LQ p0 _ _ _⟩,rfl⟩
 .exact⟨2,c,b,_,_,_,rfl,rfl,rfl,h.of (k:=1) h.p4.o1 (cJ p t a b c) ⟨h.ia,h.ib,LQ p0 _ _ _⟩,rfl⟩
theorem rY{a b c:R3}{j:Ad}(h:GoodR p a b c)(ij:Ij i j):∃(x y z:R3),DH (L3 a b c) j=.ok (Ee x)/\DH (L3 a b c) i=.ok (Ee y)/\DH (L3 a b c) (3-i-j)=.ok (Ee z)/\GoodR p x y z:=by
 rcases ij with ⟨rfl,rfl⟩|⟨rfl,rfl⟩|⟨rfl,rfl⟩|⟨rfl,rfl⟩|⟨rfl,rfl⟩|⟨rfl,rfl⟩
 .exact⟨b,a,c,rfl,rfl,rfl,h.of (k:=-1) h.p4.m1 (Cg.of (by unfold Am det;grind)) ⟨h.ib,h.ia,h.ic⟩⟩
 .exact⟨c,a,b,rfl,rfl,rfl,h.of (k:=1) h.p4.o1 (Cg.of (by unfold Am det;grind)) ⟨h.ic,h.ia,h.ib⟩⟩
 .exact⟨a,b,c,rfl,rfl,rfl,h⟩
 .exact⟨c,b,a,rfl,rfl,rfl,h.of (k:=-1) h.p4.m1 (Cg.of (by unfold Am det;grind)) ⟨h.ic,h.ib,h.ia⟩⟩
 .exact⟨a,c,b,rfl,rfl,rfl,h.of (k:=-1) h.p4.m1 (Cg.of (by unfold Am det;grind)) ⟨h.ia,h.ic,h.ib⟩⟩
 .exact⟨b,c,a,rfl,rfl,rfl,h.of (k:=1) h.p4.o1 (Cg.of (by unfold Am det;grind)) ⟨h.ib,h.ic,h.ia⟩⟩
section
variable{Z:Gam}{ns:Ac Ad}{p:Ad}{a b c:R3}{s2 s4 s5 s6 s7 s8:Sl}
theorem oR(hm:KH Z 228 ns)(h:GoodR p a b c)(ha:0<=at_)(hk:0<=k):∃ a' b' c' v5 v6 v7 v8,GoodR p a' b' c'/\AY Z 4 HU (.int k) [si p,sh (scr ns),si at_,Ab (.lst (L3 a b c),Aa),s4,s5,s6,s7,s8,Af,Af,Af]=.next [si p,sh (scr ns),si at_,Ab (.lst (L3 a' b' c'),Aa),si k,v5,v6,v7,v8,Af,Af,Af]:=by
 have p0:=h.p4.pos;have ph:=h.p4.hi;obtain⟨m,m0,e0⟩:=hm (at_+k) (by omega)
 generalize hi:m%3=i;generalize hj:(i+1+m/3%2)%3=j;have ij:=aY hi hj;have t0:=AS (m/6) (b:=p) (by omega)
 have t1:=AQ (m/6) p0;generalize ht:m/6%p=t at t0 t1;have mt:∀ x,DZ t x=Aa:=λx=>HZ (by omega) (by omega)
 obtain⟨i',x,y,a',b',c',gi,gj,pi,g',es⟩:=rZ (t:=t) h ij;obtain⟨x2,y2,z2,f1,f2,f3,g2⟩:=rY g' ij;have pi':plD (L3 a b c).length i=Ab i':=pi;have e1:evSs Z [si p,sh (scr ns),si at_,Ab (.lst (L3 a b c),Aa),si k,s5,s6,s7,s8,Af,Af,Af] (HU.take 4)=.next [si p,sh (scr ns),si at_,Ab (.lst (L3 a b c),Aa),si k,si m,si i,si j,si t,Af,Af,Af]:=by
  simp[HU,Ss.take,e0,hi,hj,ht,p0]
 have cp:BR (cGT Z [si p,sh (scr ns),si at_,Ab (.lst (L3 a b c),Aa),si k,si m,si i,si j,si t,Af,Af,Af] [9,10] CM) (cFT Z [si p,sh (scr ns),si at_,Ab (.lst (L3 a b c),Aa),si k,si m,si i,si j,si t,Af,Af,Af] [9,10] Pi) (FJ [.int x.1,.int x.2.1,.int x.2.2] [.int y.1,.int y.2.1,.int y.2.2])=.ok [.int ((x.1+t*y.1)%p),.int ((x.2.1+t*y.2.1)%p),.int ((x.2.2+t*y.2.2)%p)]:=by
  generalize x.1=x0;generalize x.2.1=x1;generalize x.2.2=x2;generalize y.1=y0;generalize y.2.1=y1;generalize y.2.2=y2;simp[BR,cGT,cFT,FJ,Pi,CM,p0,mt]
 have gi':DH (L3 a b c) i=.ok (.lst [.int x.1,.int x.2.1,.int x.2.2]):=gi;have gj':DH (L3 a b c) j=.ok (.lst [.int y.1,.int y.2.1,.int y.2.2]):=gj;have rd:D.lst [.int ((x.1+t*y.1)%p),.int ((x.2.1+t*y.2.1)%p),.int ((x.2.2+t*y.2.2)%p)]=Ee (adR p t x y):=rfl;have fin:∀ {o},evSs Z [si p,sh (scr ns),si at_,Ab (.lst (L3 a b c),Aa),si k,si m,si i,si j,si t,Af,Af,Af] (HU.drop 4)=o->AY Z 4 HU (.int k) [si p,sh (scr ns),si at_,Ab (.lst (L3 a b c),Aa),s4,s5,s6,s7,s8,Af,Af,Af]=o:=λ{o} h=>by
  show evSs Z [si p,sh (scr ns),si at_,Ab (.lst (L3 a b c),Aa),si k,s5,s6,s7,s8,Af,Af,Af] HU=o;rw[UC Z 4,e1];exact h
 have sL:L3 x2 y2 z2=[Ee x2,Ee y2,Ee z2]:=rfl;by_cases q:m/100%3=1
 .refine⟨x2,y2,z2,si m,si i,si j,si t,g2,fin ?_⟩;rw[sL]
  clear e1 fin sL
  generalize L3 a b c=LL at *;generalize L3 a' b' c'=LM at *;generalize Ee x2=rx at *;generalize Ee y2=ry at *;generalize Ee z2=rz at *;generalize scr ns=S at *;simp[HU,Ss.drop,QM,C3,gi',gj',pi',cp,rd,es,q,f1,f2,f3,Do]
 .refine⟨a',b',c',si m,si i,si j,si t,g',fin ?_⟩
  clear e1 fin sL
  generalize L3 a b c=LL at *;generalize L3 a' b' c'=LM at *;generalize scr ns=S at *;simp[HU,Ss.drop,QM,C3,gi',gj',pi',cp,rd,es,q]
end
def wH(Z:Gam)(ns:Ac Ad):Prop:=∀(p at_:Ad),P4 p->0<=at_->∃ a b c,GoodR p a b c/\Z.F 250 [.int p,scr ns,.int at_]=.ok (Hd a b c)
section
variable{p:Ad}{C:C6}{a b c A B P U_ l m:R3}
theorem swp(h:AC U_ m%p=0):AC m U_%p=0:=by rw[Kv];exact h
end
noncomputable def LH(p:Ad):Ac R3:=(EM p).map (mdR p)
theorem kW(hp:P4 p):(LH p).Nodup:=by
 rcases hp with rfl|rfl|rfl|rfl<;>decide+kernel
theorem VI(hp:P4 p):∀ x∈LH p,x∈Cf p/\vI C0p x%p=0:=by
 rcases hp with rfl|rfl|rfl|rfl<;>decide+kernel
theorem tB(hp:P4 p):∀ x∈Cf p,vI C0p x%p=0->x∈LH p:=by
 rcases hp with rfl|rfl|rfl|rfl<;>decide+kernel
theorem TX(hp:P4 p)(x:R3):x∈LH p↔NF p x/\vI C0p x%p=0:=
 ⟨λh=>⟨(Ha hp).mp (VI hp x h).1,(VI hp x h).2⟩,λh=>tB hp x ((Ha hp).mpr h.1) h.2⟩
theorem sI{p l l':Ad}{s:R3}(hp:P4 p)(er:AW p (tri r)=Ab l)(es:AW p (tri s)=Ab l')(h:CgR p r s):nrm p r=nrm p s:=by
 obtain⟨h1,h2⟩:=Ku hp er;obtain⟨h3,h4⟩:=Ku hp es;exact Ly hp h1 h3 ((h2.trans hp (Pr.cg hp h)).trans hp (h4.symm hp))
theorem kT{a b c:R3}(hp:P4 p)(z:Am a b c%p≠0):((EM p).map λx=>nrm p (ap a b c x))=(LH p).map λx=>nrm p (ap a b c x):=by
 unfold LH;rw[Ea];refine EI λx hx=>?_
 obtain⟨l,el⟩:=(Mz hp hx).2;have g:CgR p (mdR p x) x:=CgR.md rfl;have g':CgR p (ap a b c x) (ap a b c (mdR p x)):=Os CgR.rfl CgR.rfl CgR.rfl g.symm;obtain⟨l1,e1⟩:=Ls hp z el (CgR.rfl (a:=ap a b c x));obtain⟨l2,e2⟩:=Ls hp z el g'.symm;exact sI hp e1 e2 g'
theorem nR(x:R3)(l:Ac R3):(l.map (Aj Aa)).any (λy=>eqD y (Aj Aa x))=decide (x∈l):=by
 induction l with
 |nil=>simp
 |cons y l ih=>
  rw[Bm,Go,ih,LA,CS,C7,Bj,Bj,Bj,Au];exact or_congr ⟨MY,MY⟩ Iff.rfl
theorem U_8(x:R3)(l:Ac R3):B7 .In (Aj Aa x) (At l)=.ok (.bl (decide (x∈l))):=by
 have k1:(l.map (Aj Aa)).all (flD 5)=Aa:=by
  rw[Gq];intro y hy;obtain⟨z,_,rfl⟩:=Bo.mp hy;exact(Oa z).1
 show (if (flD 5 (Aj Aa x)&&(l.map (Aj Aa)).all (flD 5))=Aa then R.ok (D.bl ((l.map (Aj Aa)).any λy=>eqD y (Aj Aa x))) else R.bad)=_
 rw[k1,(Oa x).1,AF (show (Aa&&Aa)=Aa from rfl),nR]
structure Fb (p:Ad) (C:C6) (A B P U_:R3):Prop where
 nA:NF p A
 nB:NF p B
 nP:NF p P
 nU:NF p U_
 ne:A≠B
 ne2:A≠U_
 ne3:B≠U_
 on:FOn p C A B P U_
 gen:J4 p A B P U_
 ln:∃ l,NF p l/\Pr p l (crs A B)/\P=dA p C l
noncomputable def K5:Ss:=(.cons (.asg 5 Ae (.bin .Mod (.call 228 (.cons (.var 0) (.cons (.bin .Add (.var 1) (.var 4)) .nil))) (.bin .Add (.bi .len (.cons (.var 3) .nil)) (.int 1)))) (.cons (.asg 3 Ae (.bin .Add (.bin .Add (.sl (.var 3) .non (.var 5)) (.lst (.cons (.idx (.var 2) (.var 4)) .nil))) (.sl (.var 3) (.var 5) .non))) .nil))
noncomputable def Kf:Df:=⟨6,Ae,(.cons (.asg 3 Ae (.lst .nil)) (.cons (.fors 4 (.rng (.bi .len (.cons (.var 2) .nil))) K5) (.cons (.ret (.var 3)) .nil)))⟩
theorem kept{a b c A B P U_ A' B' P' U_':R3}(T:GoodR p a b c)(w:Whl p C)(f:Fb p C A B P U_)(f':Fb p C A' B' P' U_')(L:Led p a b c A B P U_ A' B' P' U_'):PrC p (pb C a b c) C:=jB T.p4 T.nz w w f.gen.1 f.gen.2.1 f.on f'.on L.h0 L.h1 L.h2 L.h3
theorem Ub{d:Ag}(h0:0<=i):GX n d (Ab i)=min i.toNat n:=by
 show (if i<0 then _ else _)=_
 rw[AN (by omega)]
theorem Ob(M:Ac R3)(h0:0<=i):slD (At M) Af (Ab i)=.ok (At (M.take i.toNat)):=by
 show R.ok (D.lst (((M.map (Aj Aa)).drop 0).take (GX (M.map (Aj Aa)).length (M.map (Aj Aa)).length (Ab i)-0)))=_;rw[Ub h0,List.drop_zero,Nat.sub_zero,AV];unfold At;rw[List.map_take]
 congr 2
 by_cases h:i.toNat<=M.length
 .rw[Yz h]
 .rw[Nat.min_eq_right (by omega),Gg (by simp),Gg (by simp;omega)]
theorem Ve(M:Ac R3)(h0:0<=i)(h1:i.toNat<=M.length):slD (At M) (Ab i) Af=.ok (At (M.drop i.toNat)):=by
 show R.ok (D.lst (((M.map (Aj Aa)).drop (GX (M.map (Aj Aa)).length 0 (Ab i))).take ((M.map (Aj Aa)).length-GX (M.map (Aj Aa)).length 0 (Ab i))))=_;rw[Ub h0];unfold At;rw[List.map_drop,AV,Yz h1]
 congr 2
 exact Gg (by simp)
theorem Uy(X Y_:Ac R3)(h:X.length+Y_.length<=1000):Dg .Add (At X) (At Y_)=.ok (At (X++Y_)):=by
 show (if CN ((X.map (Aj Aa)).length+(Y_.map (Aj Aa)).length)=Aa then R.ok (D.lst (X.map (Aj Aa)++Y_.map (Aj Aa))) else R.bad)=_
 have z:CN ((X.map (Aj Aa)).length+(Y_.map (Aj Aa)).length)=Aa:=CQ (by rw[AV,AV];omega)
 rw[AF z,<-EX];rfl
theorem mX(h:L[n]?=Ab x):Cr (At L) (.int (n:Ad))=.ok (Aj Aa x):=by
 show DH (L.map (Aj Aa)) (n:Ad)=_;exact QC (by omega) (by rw[Ep,C0,h];rfl)
def wI(Z:Gam)(ns:Ac Ad):Prop:=∀(at_:Ad)(L:Ac R3),0<=at_->L.length<=60->∃ M:Ac R3,M.Perm L/\Z.F 251 [scr ns,.int at_,At L]=.ok (At M)
theorem tF(hm:KH Z 228 ns){M:Ac R3}(ha:0<=at_)(hx:L[n]?=Ab x)(h5:M.length<=60):∃(M':Ac R3)(v5:Sl),M'.Perm (M++[x])/\AY Z 4 K5 (.int (n:Ad)) [sh (scr ns),si at_,sh (At L),sh (At M),s4,s5]=.next [sh (scr ns),si at_,sh (At L),sh (At M'),si (n:Ad),v5]:=by
 obtain⟨m,m0,e⟩:=hm (at_+(n:Ad)) (by omega)
 have q0:=AS m (b:=(M.length:Ad)+1) (by omega)
 have q1:=AQ m (b:=(M.length:Ad)+1) (by omega)
 have ln:biD .len [At M]=.ok (.int (M.length:Ad)):=U_4 M;have lp:(0:Ad)<(M.length:Ad)+1:=by omega
 generalize hi:m%((M.length:Ad)+1)=i at *;have s1:=Ob M q0;have s2:=Ve M q0 (by omega)
 have g:=mX hx;have a1:=Uy (M.take i.toNat) [x] (by simp;omega)
 have a2:=Uy (M.take i.toNat++[x]) (M.drop i.toNat) (by simp;omega)
 refine⟨(M.take i.toNat++[x])++M.drop i.toNat,si i,?_,?_⟩
 .have p1:((M.take i.toNat++[x])++M.drop i.toNat).Perm (x::(M.take i.toNat++M.drop i.toNat)):=by
   rw[Yc];exact List.perm_middle
  rw[GD]at p1;exact p1.trans (List.perm_append_singleton x M).symm
 .have rx:D.lst [Aj Aa x]=At [x]:=rfl;generalize (M.length:Ad)=N at *;generalize At L=TL at *;generalize At M=TM at *;generalize At (M.take i.toNat)=T1 at *;generalize At (M.drop i.toNat)=T2 at *;generalize At (M.take i.toNat++[x])=T3 at *;generalize At ((M.take i.toNat++[x])++M.drop i.toNat)=T4 at *;rw[<-rx]at a1;generalize Aj Aa x=tx at *;generalize scr ns=S at *;simp[AY,K5,e,ln,lp,hi,s1,s2,g,a1,a2]
theorem tE{S TL TM:D}(ln:biD .len [TL]=.ok (.int N))(rg:CF 0 N=.ok RL)(e:B5 (AY Z 4 K5) RL [sh S,si at_,sh TL,sh (.lst []),Af,Af]=.next [sh S,si at_,sh TL,sh TM,s4,s5]):Kf.run Z [S,.int at_,TL]=.ok TM:=by
 have e1:evSs Z [sh S,si at_,sh TL,Af,Af,Af] Kf.body=Ge Z (.cons (.ret (.var 3)) .nil) (B5 (AY Z 4 K5) RL [sh S,si at_,sh TL,sh (.lst []),Af,Af]):=by
  simp[Kf,ln,rg]
 show O.ans Ae (evSs Z [sh S,si at_,sh TL,Af,Af,Af] Kf.body)=_;rw[e1,e];simp
theorem qM(hm:KH Z 228 ns)(at_:Ad)(L:Ac R3)(ha:0<=at_)(hL:L.length<=60):∃ M:Ac R3,M.Perm L/\Kf.run Z [scr ns,.int at_,At L]=.ok (At M):=by
 have lp:=PM (body:=AY Z 4 K5) (λn Y=>∃(M:Ac R3)(s4 s5:Sl),M.Perm (L.take n)/\Y=[sh (scr ns),si at_,sh (At L),sh (At M),s4,s5]) (CJ 0 L.length) 0 [sh (scr ns),si at_,sh (At L),sh (At []),Af,Af] ⟨[],Af,Af,by simp,rfl⟩ (by
  rintro n y hy Y ⟨M,s4,s5,pm,rfl⟩;obtain⟨hn,rfl⟩:=QB hy;rw[FT]at pm;rw[Db,FT];have hx:L[n]?=Ab L[n]:=Cm hn;obtain⟨M',v5,pm',e⟩:=tF (s4:=s4) (s5:=s5) hm ha hx (M:=M) (by rw[pm.length_eq];simp;omega)
  refine⟨_,e,M',_,_,?_,rfl⟩;rw[List.take_succ,hx];exact pm'.trans (pm.append_right _))
 obtain⟨Y',e,M,s4,s5,pm,rfl⟩:=lp;rw[FT,Mj,List.take_length]at pm;refine⟨M,pm,?_⟩;have ln:biD .len [At L]=.ok (.int (L.length:Ad)):=U_4 L;have rg:CF 0 (L.length:Ad)=.ok (CJ 0 ((L.length:Ad)-0).toNat):=Ko (by decide) (by decide) (by omega) (by omega)
 rw[E7,Ep]at rg;have e0:At []=.lst []:=rfl;rw[e0]at e;generalize (L.length:Ad)=N at *;generalize CJ 0 L.length=RL at *;generalize At L=TL at *;generalize At M=TM at *;generalize scr ns=S at *;exact tE ln rg e
theorem sY{a b c:R3}(hp:P4 p)(z:Am a b c%p≠0):((EM p).map λx=>nrm p (ap a b c x)).Nodup:=by
 rw[kT hp z];refine T6 (kW hp) λx hx y hy e=>?_
 have h1:=T9 hp z ((TX hp x).mp hx).1;have h2:=T9 hp z ((TX hp y).mp hy).1;rw[<-h1,<-h2,e]
theorem kU(hp:P4 p):4<=(EM p).length/\(EM p).length<=60:=by
 rcases hp with rfl|rfl|rfl|rfl<;>decide+kernel
section
variable{Z:Gam}{ns:Ac Ad}{p:Ad}
end
noncomputable def Lc:Ss:=(.cons (.ife (.call 56 (.cons (.var 0) (.cons (.var 1) (.cons (.var 3) .nil)))) (.cons (.ret (.bl Aa)) .nil) .nil) .nil)
noncomputable def Nz:Df:=⟨4,Ae,(.cons (.fors 3 (.e (.var 2)) Lc) (.cons (.ret (.bl Ae)) .nil))⟩
noncomputable def MZ:E:=(.call 57 (.cons (.var 0) (.cons (.var 5) (.cons (.var 2) .nil))))
noncomputable def Pe:E:=(.and (.cons (.cmp .NotEq (.var 6) (.var 2)) (.cons (.no (.call 221 (.cons (.var 0) (.cons (.var 6) (.cons (.var 4) .nil))))) .nil)))
noncomputable def O4:Df:=⟨7,Aa,(.cons (.asg 4 Ae (.comp MZ 5 (.e (.var 1)) CM)) (.cons (.ret (.comp K7 6 (.e (.var 3)) Pe)) .nil))⟩
section
variable{Z:Gam}{p:Ad}
noncomputable def Il(p:Ad)(x:R3)(ls:Ac R3):Al:=ls.any λl=>decide (AC x l%p=0)
theorem UK(h:Rj Z){x:R3}(hp:P4 p)(ix:In3 p x){L:D}:∀(ls:Ac R3)(s3:Sl),(∀ l∈ls,In3 p l)->∃ s3',B5 (AY Z 3 Lc) (ls.map (Aj Aa)) [si p,sh (Aj Aa x),sh L,s3]=if Il p x ls=Aa then .ret (.bl Aa) Ae else .next [si p,sh (Aj Aa x),sh L,s3']
 |[],s3,_=>⟨s3,rfl⟩
 |l::ls,s3,hl=>by
  have e:=h p x l hp ix (hl l Aw);obtain⟨s3',ih⟩:=UK h hp ix (L:=L) ls (sh (Aj Aa l)) λy hy=>hl y (Av _ hy)
  refine⟨s3',?_⟩;show (AY Z 3 Lc (Aj Aa l) _).turn _=_;by_cases z:AC x l%p=0
  .have t:Il p x (l::ls)=Aa:=by unfold Il;simp[z]
   rw[AU z]at e;rw[AF t];generalize Aj Aa x=X at *;generalize Aj Aa l=Y_ at *;simp[AY,Lc,e,Do]
  .have t:Il p x (l::ls)=Il p x ls:=by unfold Il;simp[z]
   rw[Cb z]at e;rw[t,<-ih];generalize Aj Aa x=X at *;generalize Aj Aa l=Y_ at *;have q:AY Z 3 Lc Y_ [si p,sh X,sh L,s3]=.next [si p,sh X,sh L,sh Y_]:=by simp[AY,Lc,e]
   rw[q];rfl
def XE(Z:Gam):Prop:=∀(p:Ad)(x:R3)(ls:Ac R3),P4 p->In3 p x->(∀ l∈ls,In3 p l)->Z.F 221 [.int p,Aj Aa x,At ls]=.ok (.bl (Il p x ls))
theorem om(h:Rj Z)(x:R3)(ls:Ac R3)(hp:P4 p)(ix:In3 p x)(hl:∀ l∈ls,In3 p l):Nz.run Z [.int p,Aj Aa x,At ls]=.ok (.bl (Il p x ls)):=by
 obtain⟨s3,e⟩:=UK h hp ix (L:=At ls) ls Af hl;have sq:Ch (At ls)=.ok (ls.map (Aj Aa)):=rfl;generalize At ls=L at *;generalize ls.map (Aj Aa)=M at *;generalize Aj Aa x=X at *;cases hb:Il p x ls with
 |true=>rw[hb,AF rfl]at e;simp[Nz,Df.run,Bv,sq,e]
 |false=>rw[hb,AN AM]at e;simp[Nz,Df.run,Bv,sq,e]
theorem gp(ny:NF p y)(pr:Pr p y r):NF p (nrm p r)/\Pr p (nrm p r) r:=by
 have ex:∃ y,NF p y/\Pr p y r:=⟨y,ny,pr⟩;unfold nrm;rw[dif_pos ex];exact Ef ex
theorem aV(hp:P4 p){a b:R3}(na:NF p a)(nb:NF p b)(ne:a≠b)(h:N5 Z):NF p (nrm p (crs a b))/\Pr p (nrm p (crs a b)) (crs a b)/\Z.F 57 [.int p,Aj Aa a,Aj Aa b]=.ok (Aj Aa (nrm p (crs a b))):=by
 obtain⟨y,i,l,pr,e⟩:=h p a b hp na.1 nb.1 na.2 nb.2 ne;obtain⟨n1,n2⟩:=gp ⟨i,l⟩ pr;have q:=Ly hp ⟨i,l⟩ n1 (pr.trans hp (n2.symm hp));rw[q]at e;exact⟨n1,n2,e⟩
theorem IE(hp:P4 p){a b q:R3}(pr:Pr p (nrm p (crs a b)) (crs a b)):AC q (nrm p (crs a b))%p=0↔Am a b q%p=0:=by
 rw[bP hp (show Pr p q q from ⟨1,hp.o1,CgR.of (by unfold Bs;simp)⟩) pr,show AC q (crs a b)=Am a b q by unfold AC crs Am det;grind]
noncomputable def stq(p:Ad)(pts:Ac R3)(f q:R3):Al:=!decide (q=f) && !(pts.any λa=>decide (Am a f q%p=0))
def MG(Z:Gam):Prop:=∀(p:Ad)(pts:Ac R3)(f:R3)(left:Ac R3),P4 p->(∀ x∈pts,NF p x)->NF p f->f∉pts->(∀ x∈left,NF p x)->Z.F 222 [.int p,At pts,Aj Aa f,At left]=.ok (At (left.filter (stq p pts f)))
theorem qF(hj:N5 Z)(ha:XE Z)(pts:Ac R3)(f:R3)(left:Ac R3)(hp:P4 p)(np:∀ x∈pts,NF p x)(nf:NF p f)(ni:f∉pts)(nl:∀ x∈left,NF p x):O4.run Z [.int p,At pts,Aj Aa f,At left]=.ok (At (left.filter (stq p pts f))):=by
 have jn:∀ a∈pts,NF p (nrm p (crs a f))/\Pr p (nrm p (crs a f)) (crs a f)/\Z.F 57 [.int p,Aj Aa a,Aj Aa f]=.ok (Aj Aa (nrm p (crs a f))):=λa h=>aV hp (np a h) nf (λz=>ni (z ▸ h)) hj
 have c1:∀ xs:Ac R3,(∀ a∈xs,a∈pts)->BR (cG Z [si p,sh (At pts),sh (Aj Aa f),sh (At left),Af,Af,Af] 5 CM) (cF Z [si p,sh (At pts),sh (Aj Aa f),sh (At left),Af,Af,Af] 5 MZ) (xs.map (Aj Aa))=.ok ((xs.map λa=>nrm p (crs a f)).map (Aj Aa)):=by
  intro xs
  induction xs with
  |nil=>intro _;rfl
  |cons a xs ih=>
   intro h;have e:=(jn a (h a Aw)).2.2;have e1:cF Z [si p,sh (At pts),sh (Aj Aa f),sh (At left),Af,Af,Af] 5 MZ (Aj Aa a)=.ok (Aj Aa (nrm p (crs a f))):=by
    generalize Aj Aa (nrm p (crs a f))=Y_ at *;generalize Aj Aa a=X at *;generalize Aj Aa f=F at *;generalize At pts=T at *;generalize At left=TL at *;simp[cF,MZ,e]
   have ih':=ih λb hb=>h b (Av _ hb)
   show (R.ok Aa).bind _=_;rw[R.bind_ok,AF rfl,e1,R.bind_ok,show BR _ _ (Kc _ xs)=_ from ih']
   rfl
 have c1:=c1 pts λ_ h=>h
 have il:∀ l∈(pts.map λa=>nrm p (crs a f)),In3 p l:=λl hl=>by
  obtain⟨a,h,rfl⟩:=Bo.mp hl;exact(jn a h).1.1
 have c2:=PY (g:=cG Z [si p,sh (At pts),sh (Aj Aa f),sh (At left),sh (At (pts.map λa=>nrm p (crs a f))),Af,Af] 6 Pe) (f:=cF Z [si p,sh (At pts),sh (Aj Aa f),sh (At left),sh (At (pts.map λa=>nrm p (crs a f))),Af,Af] 6 K7) (q:=stq p pts f) left λx hx=>by
  have e:=ha p x _ hp (nl x hx).1 il;have q1:Il p x (pts.map λa=>nrm p (crs a f))=pts.any λa=>decide (Am a f x%p=0):=by
   unfold Il;rw[Yb,CS,Fk,Fk];constructor
   .rintro⟨a,h,z⟩;exact⟨a,h,AU ((IE hp (jn a h).2.1).mp (BA z))⟩
   .rintro⟨a,h,z⟩;exact⟨a,h,AU ((IE hp (jn a h).2.1).mpr (BA z))⟩
  rw[q1]at e;have q2:=LA x f;have f1:=(Oa x).1;have f2:=(Oa f).1;unfold stq;generalize (pts.any λa=>decide (Am a f x%p=0))=B at *
  generalize decide (x=f)=B2 at *;generalize At (pts.map λa=>nrm p (crs a f))=T2 at *
  generalize Aj Aa x=X at *;generalize Aj Aa f=F at *;generalize At pts=T at *;generalize At left=TL at *;constructor
  .cases B2<;>cases B<;>simp[cG,Pe,e,q2,f1,f2]
  .simp[cF,K7]
 have s1:Ch (At pts)=.ok (pts.map (Aj Aa)):=rfl;have s2:Ch (At left)=.ok (left.map (Aj Aa)):=rfl;have e3:At (pts.map λa=>nrm p (crs a f))=.lst ((pts.map λa=>nrm p (crs a f)).map (Aj Aa)):=rfl
 have e4:At (left.filter (stq p pts f))=.lst ((left.filter (stq p pts f)).map (Aj Aa)):=rfl;rw[e3]at c2;rw[e4];generalize (left.filter (stq p pts f)).map (Aj Aa)=RL at *;generalize (pts.map λa=>nrm p (crs a f)).map (Aj Aa)=LL at *
 generalize left.map (Aj Aa)=M2 at *;generalize pts.map (Aj Aa)=M1 at *;generalize Aj Aa f=F at *;generalize At pts=T at *;generalize At left=TL at *;simp[O4,Df.run,Bv,s1,s2,c1,c2,Do]
noncomputable def G0(p:Ad):Ac R3->Ac R3->Ac R3->Ac R3
 |_,[],left=>left
 |seen,f::rest,left=>G0 p (seen++[f]) rest (left.filter (stq p seen f))
theorem Nw{x:R3}:∀{rest seen left:Ac R3},x∈G0 p seen rest left->x∈left
 |[],_,_,h=>h
 |_::_,_,_,h=>(CC.mp (Nw h)).1
noncomputable def CT(p:Ad)(pts:Ac R3):Ac R3:=G0 p [] pts (Cf p)
def XC(Z:Gam):Prop:=∀(p:Ad)(pts:Ac R3),P4 p->(∀ x∈pts,NF p x)->pts.Nodup->pts.length<=1000->Z.F 223 [.int p,At pts]=.ok (At (CT p pts))
end
noncomputable def PQ:Df:=⟨2,Ae,(.cons (.ife (.cmp .Eq (.var 0) (.var 1)) (.cons (.rais 107 (.cons (.var 0) .nil)) .nil) .nil) (.cons (.ret (.tup (.cons (.bin .Sub (.bin .Mult (.idx (.var 0) (.int 1)) (.idx (.var 1) (.int 2))) (.bin .Mult (.idx (.var 0) (.int 2)) (.idx (.var 1) (.int 1)))) (.cons (.bin .Sub (.bin .Mult (.idx (.var 0) (.int 2)) (.idx (.var 1) (.int 0))) (.bin .Mult (.idx (.var 0) (.int 0)) (.idx (.var 1) (.int 2)))) (.cons (.bin .Sub (.bin .Mult (.idx (.var 0) (.int 0)) (.idx (.var 1) (.int 1))) (.bin .Mult (.idx (.var 0) (.int 1)) (.idx (.var 1) (.int 0)))) .nil))))) .nil))⟩
theorem TU(Z:Gam)(a b:R3)(ha:B3 a)(hb:B3 b)(ne:a≠b):PQ.run Z [Aj Aa a,Aj Aa b]=.ok (Aj Aa (crs a b)):=by
 obtain⟨x0,x1,x2⟩:=Fs Aa a;obtain⟨y0,y1,y2⟩:=Fs Aa b;have k:∀ {u v},Bd 300 u->Bd 300 v->Fh u v=Aa:=λhu hv=>GV hu hv (by decide) (by decide)
 have f:∀ r:R3,flD 5 (Aj Aa r)=Aa:=λ_=>rfl
 have e:eqD (Aj Aa a) (Aj Aa b)=Ae:=by rw[LA];exact Cb ne
 simp[PQ,Df.run,Bv,f,e,x0,x1,x2,y0,y1,y2,k ha.2.1 hb.2.2,k ha.2.2 hb.2.1,k ha.2.2 hb.1,k ha.1 hb.2.2,k ha.1 hb.2.1,k ha.2.1 hb.1];rfl
section
variable{Z:Gam}{ns:Ac Ad}
theorem in1(b:Al):biD .int [.bl b]=.ok (.int (if b=Aa then 1 else 0)):=by cases b<;>rfl
end
theorem Ks{body:D->Rho->O}(I:Rho->Prop)(f:Ag->D)(g:Ag->Aq D):∀(L:Ac Ag),(∀ m∈L,∀ Y,I Y->(∃ d,g m=Ab d/\body (f m) Y=.ret d Ae)\/(g m=Af/\∃ Y',body (f m) Y=.next Y'/\I Y'))->∀ Y,I Y->(∃ d,L.findSome? g=Ab d/\B5 body (L.map f) Y=.ret d Ae)\/(L.findSome? g=Af/\∃ Y',B5 body (L.map f) Y=.next Y'/\I Y')
 |[],_,Y,i=>.inr ⟨rfl,Y,rfl,i⟩
 |m::L,h,Y,i=>by
  rcases h m (Aw ..) Y i with ⟨d,e1,e2⟩|⟨e1,Y',e2,i'⟩
  .refine .inl ⟨d,by rw[G5,e1],?_⟩
   show (body (f m) Y).turn _=_;rw[e2];rfl
  .rcases Ks I f g L (λm' h'=>h m' (Av _ h')) Y' i' with ⟨d,a,b⟩|⟨a,r,b,c⟩
   .refine .inl ⟨d,by rw[G5,e1];exact a,?_⟩
    show (body (f m) Y).turn _=_;rw[e2];exact b
   .refine .inr ⟨by rw[G5,e1];exact a,r,?_,c⟩
    show (body (f m) Y).turn _=_;rw[e2];exact b
noncomputable def atZ(pts:Ac R3)(i:Ag):R3:=pts.getD i (0,0,0)
theorem inZ(hg:∀ t∈pts,In3 p t){i:Ag}(h:i<pts.length):In3 p (atZ pts i):=by
 have e:atZ pts i=pts[i]:=by simp[atZ,h]
 rw[e];exact hg _ (Dc h)
theorem bZ(hp:P4 p)(hg:∀ t∈pts,In3 p t){i:Ag}(h:i<pts.length):B3 (atZ pts i):=(Cy hp (inZ hg h)).b3 (by decide)
theorem vF{i:Ag}(h:i<pts.length):DH (pts.map (Aj Aa)) (i:Ad)=.ok (Aj Aa (atZ pts i)):=by
 have h':i<(pts.map (Aj Aa)).length:=by simpa using h
 rw[mY _ i h'];simp[atZ,h]
theorem GW{i:Ag}(h:i<pts.length):Cr (At pts) (.int (i:Ad))=.ok (Aj Aa (atZ pts i)):=vF h
def JX(n:Ag):Prop:=n<20000
theorem bp(hn:JX n)(hj:j<n):CF ((j:Ad)+1) (n:Ad)=.ok ((AZ (n-(j+1))).map λm=>D.int ((j+1+m:Ag):Ad)):=by
 have hn':n<20000:=hn;unfold CF;rw[AF (by omega)]
 unfold CJ;have e:((n:Ad)-((j:Ad)+1)).toNat=n-(j+1):=by omega
 rw[e]
 congr 1
theorem Xg:∀(xs:Ac D)(s:Ag),EH (s:Ad) xs=(AZ xs.length).map λm=>D.tup [.int ((s+m:Ag):Ad),xs.getD m .non]
 |[],s=>rfl
 |x::xs,s=>by
  have ih:=Xg xs (s+1);rw[EH,Bl,EZ,Bm,Ea];have e:((s:Ad)+1)=((s+1:Ag):Ad):=by omega
  rw[e,ih]
  congr 1
  apply EI
  intro m _;show D.tup [.int ((s+1+m:Ag):Ad),xs.getD m .non]=D.tup [.int ((s+(m+1):Ag):Ad),(x::xs).getD (m+1) .non];have e2:s+1+m=s+(m+1):=by omega
  rw[e2];rfl
noncomputable def z3_(p:Ad)(pts:Ac R3)(i j k:Ag):Aq D:=if Am (atZ pts i) (atZ pts j) (atZ pts k)%p=0 then Ab (.tup [Aj Aa (atZ pts i),Aj Aa (atZ pts j),Aj Aa (atZ pts k)]) else Af
noncomputable def z2_(p:Ad)(pts:Ac R3)(i j:Ag):Aq D:=(AZ (pts.length-(j+1))).findSome? λm=>z3_ p pts i j (j+1+m)
noncomputable def z1_(p:Ad)(pts:Ac R3)(i:Ag):Aq D:=(AZ (pts.length-(i+1))).findSome? λm=>z2_ p pts i (i+1+m)
noncomputable def z0_(p:Ad)(pts:Ac R3):Aq D:=(AZ pts.length).findSome? (z1_ p pts)
theorem MD{t:Ag}{it:I}{body:Ss}{xs:Ac D}(h:Gf Z Y it=.ok xs):evSs Z Y (.cons (.fors t it body) .nil)=B5 (AY Z t body) xs Y:=by rw[Le,dw,QF,h,QK]
theorem NE{j a l:Ag}(hn:JX pts.length)(hj:j<pts.length)(h1:EN Y a=.ok (.int (j:Ad)))(h2:EN Y l=.ok (At pts)):Gf Z Y (.rng2 (.bin .Add (.var a) (.int 1)) (.bi .len (.cons (.var l) .nil)))=.ok ((AZ (pts.length-(j+1))).map λm=>D.int ((j+1+m:Ag):Ad)):=by
 have e1:evE Z Y (.bin .Add (.var a) (.int 1))=.ok (.int ((j:Ad)+1)):=by
  show ((EN Y a).bind λx=>R.bind (.ok (.int 1)) λy=>Dg .Add x y)=_
  rw[h1];rfl
 have e2:evE Z Y (.bi .len (.cons (.var l) .nil))=.ok (.int (pts.length:Ad)):=by
  show (((EN Y l).bind λx=>R.bind (.ok []) λxs=>.ok (x::xs)).bind λxs=>biD .len xs)=_
  rw[h2];show R.ok (D.int (((pts.map (Aj Aa)).length:Ag):Ad))=_;rw[AV]
 have e3:∀ x y:E,(∀ r,top Y x r=r)->(∀ r,top Y y r=r)->∀ i j:Ad,evE Z Y x=.ok (.int i)->evE Z Y y=.ok (.int j)->Gf Z Y (.rng2 x y)=CF i j:=λx y tx ty i j hx hy=>by
  rw[iQ,nF,tx,ty,hx,hy];simp only[R.bind_ok,Qu]
 rw[e3 _ _ (λ_=>rfl) (λ_=>rfl) _ _ e1 e2]
 exact bp hn hj
section
variable{Z:Gam}{p:Ad}{pts:Ac R3}
theorem fD(h:Hw Z)(hp:P4 p)(hg:∀ t∈pts,In3 p t){i k:Ag}(hi:i<pts.length)(hj:j<pts.length)(hk:k<pts.length)(Y:Rho)(I:∃ s,Y=[si p,sh (At pts),si i,sh (Aj Aa (atZ pts i)),si j,s]):(∃ d,z3_ p pts i j k=Ab d/\AY Z 5 JR (.int (k:Ad)) Y=.ret d Ae)\/(z3_ p pts i j k=Af/\∃ Y',AY Z 5 JR (.int (k:Ad)) Y=.next Y'/\∃ s,Y'=[si p,sh (At pts),si i,sh (Aj Aa (atZ pts i)),si j,s]):=by
 obtain⟨s,rfl⟩:=I;have e:=h p Aa _ _ _ hp.pos (bZ hp hg hi) (bZ hp hg hj) (bZ hp hg hk);by_cases z:Am (atZ pts i) (atZ pts j) (atZ pts k)%p=0
 .rw[z]at e;exact .inl ⟨_,AF z,by simp[AY,JR,GW hj,GW hk,e,Do]⟩
 .exact .inr ⟨AN z,[si p,sh (At pts),si i,sh (Aj Aa (atZ pts i)),si j,si k],by simp[AY,JR,GW hj,GW hk,e,z],_,rfl⟩
theorem fE(h:Hw Z)(hp:P4 p)(hg:∀ t∈pts,In3 p t)(hn:JX pts.length){i:Ag}(hi:i<pts.length)(hj:j<pts.length)(Y:Rho)(I:∃ s t,Y=[si p,sh (At pts),si i,sh (Aj Aa (atZ pts i)),s,t]):(∃ d,z2_ p pts i j=Ab d/\AY Z 4 Kd (.int (j:Ad)) Y=.ret d Ae)\/(z2_ p pts i j=Af/\∃ Y',AY Z 4 Kd (.int (j:Ad)) Y=.next Y'/\∃ s t,Y'=[si p,sh (At pts),si i,sh (Aj Aa (atZ pts i)),s,t]):=by
 obtain⟨s,t,rfl⟩:=I;have e:AY Z 4 Kd (.int (j:Ad)) [si p,sh (At pts),si i,sh (Aj Aa (atZ pts i)),s,t]=B5 (AY Z 5 JR) ((AZ (pts.length-(j+1))).map λm=>D.int ((j+1+m:Ag):Ad)) [si p,sh (At pts),si i,sh (Aj Aa (atZ pts i)),si j,t]:=by
  exact MD (NE hn hj rfl rfl)
 rw[e];rcases Ks (body:=AY Z 5 JR) (λY=>∃ s,Y=[si p,sh (At pts),si i,sh (Aj Aa (atZ pts i)),si j,s]) (λm=>D.int ((j+1+m:Ag):Ad)) (λm=>z3_ p pts i j (j+1+m)) (AZ (pts.length-(j+1))) (λm hm Y I=>fD h hp hg hi hj (by have:=A5.mp hm;omega) Y I) [si p,sh (At pts),si i,sh (Aj Aa (atZ pts i)),si j,t] ⟨t,rfl⟩ with ⟨d,a,b⟩|⟨a,r,b,u,c⟩
 .exact .inl ⟨d,a,b⟩
 .exact .inr ⟨a,r,b,_,u,c⟩
theorem fF(h:Hw Z)(hp:P4 p)(hg:∀ t∈pts,In3 p t)(hn:JX pts.length){i:Ag}(hi:i<pts.length)(Y:Rho)(I:∃ a b s t,Y=[si p,sh (At pts),a,b,s,t]):(∃ d,z1_ p pts i=Ab d/\En Z [2,3] HV (.tup [.int ((0+i:Ag):Ad),(pts.map (Aj Aa)).getD i .non]) Y=.ret d Ae)\/(z1_ p pts i=Af/\∃ Y',En Z [2,3] HV (.tup [.int ((0+i:Ag):Ad),(pts.map (Aj Aa)).getD i .non]) Y=.next Y'/\∃ a b s t,Y'=[si p,sh (At pts),a,b,s,t]):=by
 obtain⟨a,b,s,t,rfl⟩:=I;have e0:(pts.map (Aj Aa)).getD i .non=Aj Aa (atZ pts i):=by simp[atZ,hi]
 have e:En Z [2,3] HV (.tup [.int ((0+i:Ag):Ad),(pts.map (Aj Aa)).getD i .non]) [si p,sh (At pts),a,b,s,t]=B5 (AY Z 4 Kd) ((AZ (pts.length-(i+1))).map λm=>D.int ((i+1+m:Ag):Ad)) [si p,sh (At pts),si i,sh (Aj Aa (atZ pts i)),s,t]:=by
  have e':∀(x y:D),En Z [2,3] HV (.tup [x,y]) [si p,sh (At pts),a,b,s,t]=evSs Z [si p,sh (At pts),sh x,sh y,s,t] HV:=λ_ _=>rfl
  rw[e0,FT,e'];unfold HV;rw[MD (NE hn hi rfl rfl)]
 rw[e];rcases Ks (body:=AY Z 4 Kd) (λY=>∃ s t,Y=[si p,sh (At pts),si i,sh (Aj Aa (atZ pts i)),s,t]) (λm=>D.int ((i+1+m:Ag):Ad)) (λm=>z2_ p pts i (i+1+m)) (AZ (pts.length-(i+1))) (λm hm Y I=>fE h hp hg hn hi (by have:=A5.mp hm;omega) Y I) [si p,sh (At pts),si i,sh (Aj Aa (atZ pts i)),s,t] ⟨s,t,rfl⟩ with ⟨d,a,b⟩|⟨a,r,b,u,v,c⟩
 .exact .inl ⟨d,a,b⟩
 .exact .inr ⟨a,r,b,_,_,u,v,c⟩
theorem mI(h:Hw Z)(hp:P4 p)(hg:∀ t∈pts,In3 p t)(hn:JX pts.length):K4.run Z [.int p,At pts]=.ok ((z0_ p pts).getD .non):=by
 have en:=Xg (pts.map (Aj Aa)) 0;rw[AV]at en;have en':EH 0 (pts.map (Aj Aa))=(AZ pts.length).map λm=>D.tup [.int ((0+m:Ag):Ad),(pts.map (Aj Aa)).getD m .non]:=en
 have hE:Gf Z [si p,sh (At pts),Af,Af,Af,Af] (.enm (.var 1))=.ok ((AZ pts.length).map λm=>D.tup [.int ((0+m:Ag):Ad),(pts.map (Aj Aa)).getD m .non]):=by
  show R.ok (EH 0 (pts.map (Aj Aa)))=_;rw[en']
 rcases Ks (body:=En Z [2,3] HV) (λY=>∃ a b s t,Y=[si p,sh (At pts),a,b,s,t]) (λm=>D.tup [.int ((0+m:Ag):Ad),(pts.map (Aj Aa)).getD m .non]) (z1_ p pts) (AZ pts.length) (λm hm Y I=>fF h hp hg hn (A5.mp hm) Y I) [si p,sh (At pts),Af,Af,Af,Af] ⟨_,_,_,_,rfl⟩ with ⟨d,a,b⟩|⟨a,r,b,u1,u2,u3,u4,c⟩
 .have e:z0_ p pts=Ab d:=a;show (evSs Z [si p,sh (At pts),Af,Af,Af,Af] (.cons (.forT [2,3] (.enm (.var 1)) HV) (.cons (.ret .non) .nil))).ans Ae=_;rw[Le,UD,hE,Vb,b,e];rfl
 .have e:z0_ p pts=Af:=a;subst c;show (evSs Z [si p,sh (At pts),Af,Af,Af,Af] (.cons (.forT [2,3] (.enm (.var 1)) HV) (.cons (.ret .non) .nil))).ans Ae=_;rw[Le,UD,hE,Vb,b,e];rfl
noncomputable def Kk:Ss:=(.cons (.ife (.cmp .Eq (.call 233 (.cons (.var 0) (.cons (.var 4) (.cons (.idx (.var 1) (.var 5)) .nil)))) (.int 0)) (.cons (.ret (.tup (.cons (.idx (.var 1) (.var 2)) (.cons (.idx (.var 1) (.var 3)) (.cons (.idx (.var 1) (.var 5)) .nil))))) .nil) .nil) .nil)
noncomputable def JQ:Ss:=(.cons (.asg 4 Ae (.call 232 (.cons (.var 0) (.cons (.idx (.var 1) (.var 2)) (.cons (.idx (.var 1) (.var 3)) .nil))))) (.cons (.fors 5 (.rng2 (.bin .Add (.var 3) (.int 1)) (.bi .len (.cons (.var 1) .nil))) Kk) .nil))
noncomputable def Kj:Ss:=(.cons (.fors 3 (.rng2 (.bin .Add (.var 2) (.int 1)) (.bi .len (.cons (.var 1) .nil))) JQ) .nil)
noncomputable def Px:Df:=⟨6,Ae,(.cons (.fors 2 (.rng (.bi .len (.cons (.var 1) .nil))) Kj) (.cons (.ret .non) .nil))⟩
theorem sS(hc:Ix Z)(hs:H9 Z)(hp:P4 p)(hg:∀ t∈pts,In3 p t){i k:Ag}(hi:i<pts.length)(hj:j<pts.length)(hk:k<pts.length):Z.F 233 [.int p,Aj Aa (mdR p (crs (atZ pts i) (atZ pts j))),Aj Aa (atZ pts k)]=.ok (.int (Am (atZ pts i) (atZ pts j) (atZ pts k)%p)):=by
 have e:=hs p Aa Aa (mdR p (crs (atZ pts i) (atZ pts j))) (atZ pts k) hp.pos ((Cy hp (Oc hp.pos _)).b3 (by decide)) (bZ hp hg hk)
 have q:AC (mdR p (crs (atZ pts i) (atZ pts j))) (atZ pts k)%p=Am (atZ pts i) (atZ pts j) (atZ pts k)%p:=by
  have c:=GU (CgR.md (p:=p) (a:=mdR p (crs (atZ pts i) (atZ pts j))) _root_.rfl) (CgR.rfl (a:=atZ pts k));have d:AC (crs (atZ pts i) (atZ pts j)) (atZ pts k)=Am (atZ pts i) (atZ pts j) (atZ pts k):=by unfold AC crs Am det;grind
  rw[d]at c;exact c
 rw[q]at e;exact e
theorem dE(hc:Ix Z)(hs:H9 Z)(hp:P4 p)(hg:∀ t∈pts,In3 p t){i k:Ag}(hi:i<pts.length)(hj:j<pts.length)(hk:k<pts.length)(Y:Rho)(I:∃ s,Y=[si p,sh (At pts),si i,si j,sh (Aj Aa (mdR p (crs (atZ pts i) (atZ pts j)))),s]):(∃ d,z3_ p pts i j k=Ab d/\AY Z 5 Kk (.int (k:Ad)) Y=.ret d Ae)\/(z3_ p pts i j k=Af/\∃ Y',AY Z 5 Kk (.int (k:Ad)) Y=.next Y'/\∃ s,Y'=[si p,sh (At pts),si i,si j,sh (Aj Aa (mdR p (crs (atZ pts i) (atZ pts j)))),s]):=by
 obtain⟨s,rfl⟩:=I;have e:=sS hc hs hp hg hi hj hk;by_cases z:Am (atZ pts i) (atZ pts j) (atZ pts k)%p=0
 .rw[z]at e;exact .inl ⟨_,AF z,by
   generalize Aj Aa (mdR p (crs (atZ pts i) (atZ pts j)))=LN at *;simp[AY,Kk,GW hi,GW hj,GW hk,e,Do]⟩
 .exact .inr ⟨AN z,[si p,sh (At pts),si i,si j,sh (Aj Aa (mdR p (crs (atZ pts i) (atZ pts j)))),si k],by
   generalize Aj Aa (mdR p (crs (atZ pts i) (atZ pts j)))=LN at *;simp[AY,Kk,GW hi,GW hj,GW hk,e,z],_,rfl⟩
theorem dF(hc:Ix Z)(hs:H9 Z)(hp:P4 p)(hg:∀ t∈pts,In3 p t)(hn:JX pts.length){i:Ag}(hi:i<pts.length)(hj:j<pts.length)(Y:Rho)(I:∃ s t u,Y=[si p,sh (At pts),si i,s,t,u]):(∃ d,z2_ p pts i j=Ab d/\AY Z 3 JQ (.int (j:Ad)) Y=.ret d Ae)\/(z2_ p pts i j=Af/\∃ Y',AY Z 3 JQ (.int (j:Ad)) Y=.next Y'/\∃ s t u,Y'=[si p,sh (At pts),si i,s,t,u]):=by
 obtain⟨s,t,u,rfl⟩:=I;have e1:=hc p Aa Aa (atZ pts i) (atZ pts j) hp.pos (bZ hp hg hi) (bZ hp hg hj);have e:AY Z 3 JQ (.int (j:Ad)) [si p,sh (At pts),si i,s,t,u]=B5 (AY Z 5 Kk) ((AZ (pts.length-(j+1))).map λm=>D.int ((j+1+m:Ag):Ad)) [si p,sh (At pts),si i,si j,sh (Aj Aa (mdR p (crs (atZ pts i) (atZ pts j)))),u]:=by
  have a1:evS Z [si p,sh (At pts),si i,si j,t,u] (.asg 4 Ae (.call 232 (.cons (.var 0) (.cons (.idx (.var 1) (.var 2)) (.cons (.idx (.var 1) (.var 3)) .nil)))))=.next [si p,sh (At pts),si i,si j,sh (Aj Aa (mdR p (crs (atZ pts i) (atZ pts j)))),u]:=by
   generalize Aj Aa (mdR p (crs (atZ pts i) (atZ pts j)))=LN at *;simp[GW hi,GW hj,e1]
  show evSs Z [si p,sh (At pts),si i,si j,t,u] JQ=_;unfold JQ;rw[Le,a1,vC];generalize Aj Aa (mdR p (crs (atZ pts i) (atZ pts j)))=LN;exact MD (NE hn hj rfl rfl)
 rw[e];rcases Ks (body:=AY Z 5 Kk) (λY=>∃ s,Y=[si p,sh (At pts),si i,si j,sh (Aj Aa (mdR p (crs (atZ pts i) (atZ pts j)))),s]) (λm=>D.int ((j+1+m:Ag):Ad)) (λm=>z3_ p pts i j (j+1+m)) (AZ (pts.length-(j+1))) (λm hm Y I=>dE hc hs hp hg hi hj (by have:=A5.mp hm;omega) Y I) [si p,sh (At pts),si i,si j,sh (Aj Aa (mdR p (crs (atZ pts i) (atZ pts j)))),u] ⟨_,rfl⟩ with ⟨d,a,b⟩|⟨a,r,b,w,c⟩
 .exact .inl ⟨d,a,b⟩
 .exact .inr ⟨a,r,b,_,_,w,c⟩
theorem dG(hc:Ix Z)(hs:H9 Z)(hp:P4 p)(hg:∀ t∈pts,In3 p t)(hn:JX pts.length){i:Ag}(hi:i<pts.length)(Y:Rho)(I:∃ r s t u,Y=[si p,sh (At pts),r,s,t,u]):(∃ d,z1_ p pts i=Ab d/\AY Z 2 Kj (.int (0+(i:Ad))) Y=.ret d Ae)\/(z1_ p pts i=Af/\∃ Y',AY Z 2 Kj (.int (0+(i:Ad))) Y=.next Y'/\∃ r s t u,Y'=[si p,sh (At pts),r,s,t,u]):=by
 obtain⟨r,s,t,u,rfl⟩:=I;rw[Db];have e:AY Z 2 Kj (.int (i:Ad)) [si p,sh (At pts),r,s,t,u]=B5 (AY Z 3 JQ) ((AZ (pts.length-(i+1))).map λm=>D.int ((i+1+m:Ag):Ad)) [si p,sh (At pts),si i,s,t,u]:=by
  exact MD (NE hn hi rfl rfl)
 rw[e];rcases Ks (body:=AY Z 3 JQ) (λY=>∃ s t u,Y=[si p,sh (At pts),si i,s,t,u]) (λm=>D.int ((i+1+m:Ag):Ad)) (λm=>z2_ p pts i (i+1+m)) (AZ (pts.length-(i+1))) (λm hm Y I=>dF hc hs hp hg hn hi (by have:=A5.mp hm;omega) Y I) [si p,sh (At pts),si i,s,t,u] ⟨_,_,_,rfl⟩ with ⟨d,a,b⟩|⟨a,r,b,w,x,y,c⟩
 .exact .inl ⟨d,a,b⟩
 .exact .inr ⟨a,r,b,_,w,x,y,c⟩
theorem oh(hN:N=n)(l:biD .len [T]=.ok (.int N))(h:N<=1000)(h0:0<=N):Gf Z [si p,sh T,Af,Af,Af,Af] (.rng (.bi .len (.cons (.var 1) .nil)))=.ok (CJ 0 n):=by
 have rg:CF 0 N=.ok (CJ 0 (N-0).toNat):=Ko (by decide) (by decide) (by omega) (by omega)
 have q:(N-0).toNat=n:=by omega
 rw[q]at rg;generalize CJ 0 n=RR at *;have e:evE Z [si p,sh T,Af,Af,Af,Af] (.bi .len (.cons (.var 1) .nil))=.ok (.int N):=by simp[l]
 rw[nE,vV];simp only[yS,e,R.bind_ok,Qu];exact rg
theorem Ml(pts:Ac R3):biD .len [At pts]=.ok (.int pts.length):=by unfold At;simp
theorem pZ(hz:pts.length<=1000):Gf Z [si p,sh (At pts),Af,Af,Af,Af] (.rng (.bi .len (.cons (.var 1) .nil)))=.ok (CJ 0 pts.length):=oh rfl (Ml pts) (by omega) (by omega)
theorem mB(hc:Ix Z)(hs:H9 Z)(hp:P4 p)(hg:∀ t∈pts,In3 p t)(hz:pts.length<=1000):Px.run Z [.int p,At pts]=.ok ((z0_ p pts).getD .non):=by
 have hn:JX pts.length:=by show pts.length<20000;omega
 have r6:=pZ (Z:=Z) (p:=p) hz;rw[show CJ 0 pts.length=(AZ pts.length).map fun(i:Ag)=>D.int (0+(i:Ad)) by unfold CJ;rfl]at r6
 rcases Ks (body:=AY Z 2 Kj) (λY=>∃ r s t u,Y=[si p,sh (At pts),r,s,t,u]) (fun(m:Ag)=>D.int (0+(m:Ad))) (z1_ p pts) (AZ pts.length) (λm hm Y I=>dG hc hs hp hg hn (A5.mp hm) Y I) [si p,sh (At pts),Af,Af,Af,Af] ⟨_,_,_,_,rfl⟩ with ⟨d,a,b⟩|⟨a,r,b,r1,r2,r3,r4,c⟩
 .have e:z0_ p pts=Ab d:=a;show (evSs Z [si p,sh (At pts),Af,Af,Af,Af] (.cons (.fors 2 (.rng (.bi .len (.cons (.var 1) .nil))) Kj) (.cons (.ret .non) .nil))).ans Ae=_;rw[Le,QF,r6,QK,b,e];rfl
 .have e:z0_ p pts=Af:=a;subst c;show (evSs Z [si p,sh (At pts),Af,Af,Af,Af] (.cons (.fors 2 (.rng (.bi .len (.cons (.var 1) .nil))) Kj) (.cons (.ret .non) .nil))).ans Ae=_;rw[Le,QF,r6,QK,b,e];rfl
end
noncomputable def Lb:Ss:=(.cons (.ife (.cmp .In (.var 2) (.sl (.var 0) .non (.var 1))) (.cons (.rais 107 (.cons (.var 2) .nil)) .nil) .nil) .nil)
noncomputable def Mt:Df:=⟨3,Ae,(.cons (.forT [1,2] (.enm (.var 0)) Lb) .nil)⟩
noncomputable def Np:Df:=⟨2,Ae,(.cons (.expr (.call 194 (.cons (.var 1) .nil))) (.cons (.expr (.call 109 (.cons (.var 0) (.cons (.var 1) .nil)))) .nil))⟩
noncomputable def Nu:E:=(.cmp .Gt (.bi .len (.cons (.var 3) .nil)) (.int 0))
noncomputable def Qj:Ss:=(.cons (.asg 4 Ae (.idx (.var 3) (.int 0))) (.cons (.asg 3 Ae (.call 222 (.cons (.var 0) (.cons (.var 2) (.cons (.var 4) (.cons (.var 3) .nil)))))) (.cons (.app 2 (.var 4)) .nil)))
noncomputable def NQ:Df:=⟨5,Aa,(.cons (.expr (.call 260 (.cons (.var 0) (.cons (.var 1) .nil)))) (.cons (.asg 2 Aa (.bi .list (.cons (.var 1) .nil))) (.cons (.asg 3 Ae (.call 223 (.cons (.var 0) (.cons (.var 2) .nil)))) (.cons (.whl Nu Qj) (.cons (.ret (.var 2)) .nil)))))⟩
section
variable{Z:Gam}{p:Ad}
theorem Vd(PT seen rest:Ac R3)(e:PT=seen++rest):slD (At PT) Af (Ab (seen.length:Ad))=.ok (At seen):=by
 rw[Ob PT (by omega),Ep,e,List.take_left']
 rfl
theorem Qa(a:Ad)(n:Ag):CJ a (n+1)=.int a::CJ (a+1) n:=by
 unfold CJ;rw[EZ,Bm,Ea]
 congr 1
 .simp
 .refine EI λk _=>?_
  simp only[Function.comp]
  congr 1
  omega
end
noncomputable def Lf:Ss:=(.cons (.asg 2 Aa (.call 222 (.cons (.var 0) (.cons (.sl (.var 1) .non (.var 3)) (.cons (.var 4) (.cons (.var 2) .nil)))))) .nil)
noncomputable def NZ:Df:=⟨5,Aa,(.cons (.asg 2 Aa (.call 69 (.cons (.var 0) .nil))) (.cons (.forT [3,4] (.enm (.var 1)) Lf) (.cons (.ret (.var 2)) .nil)))⟩
theorem Ny(l:Ac R3):G1 Aa (At l)=Aa:=by
 show (Aa&&(l.map (Aj Aa)).all (nlD 5))=Aa;rw[Bool.true_and,Gq];intro d hd;obtain⟨x,_,rfl⟩:=Bo.mp hd;rfl
section
variable{Z:Gam}{p:Ad}
noncomputable abbrev ow(l:Ac R3):Sl:=Ab (.lst (l.map (Aj Aa)),Aa)
theorem Tz(h:MG Z)(f2:Z.fr 222=Aa)(hp:P4 p){PT:Ac R3}(np:∀ x∈PT,NF p x)(nd:PT.Nodup):∀(rest seen left:Ac R3)(s3 s4:Sl),PT=seen++rest->(∀ x∈left,NF p x)->∃ s3' s4',B5 (En Z [3,4] Lf) (EH seen.length (rest.map (Aj Aa))) [si p,sh (At PT),ow left,s3,s4]=.next [si p,sh (At PT),ow (G0 p seen rest left),s3',s4']
 |[],seen,left,s3,s4,_,_=>⟨s3,s4,rfl⟩
 |f::rest,seen,left,s3,s4,e,nl=>by
  have nf:NF p f:=np f (by rw[e];simp)
  have ns:∀ x∈seen,NF p x:=λx hx=>np x (by rw[e];simp[hx])
  have ni:f∉seen:=λz=>by
   rw[e,F6]at nd;exact nd.2.2 f z f Aw rfl
  have e1:Z.F 222 [.int p,At seen,Aj Aa f,.lst (left.map (Aj Aa))]=.ok (.lst ((left.filter (stq p seen f)).map (Aj Aa))):=h p seen f left hp ns nf ni nl;have cl:G1 Aa (.lst ((left.filter (stq p seen f)).map (Aj Aa)))=Aa:=Ny _;obtain⟨s3',s4',ih⟩:=Tz h f2 hp np nd rest (seen++[f]) (left.filter (stq p seen f)) (si seen.length) (sh (Aj Aa f)) (by rw[e];simp) λx hx=>nl x (CC.mp hx).1
  refine⟨s3',s4',?_⟩;rw[A4,Bq]at ih;rw[show G0 p seen (f::rest) left=G0 p (seen++[f]) rest (left.filter (stq p seen f)) from rfl,<-ih]
  have s1:=Vd PT seen (f::rest) e;show (En Z [3,4] Lf (.tup [.int seen.length,Aj Aa f]) _).turn _=_;have t:En Z [3,4] Lf (.tup [.int seen.length,Aj Aa f]) [si p,sh (At PT),ow left,s3,s4]=.next [si p,sh (At PT),ow (left.filter (stq p seen f)),si seen.length,sh (Aj Aa f)]:=by
   unfold ow;generalize (left.filter (stq p seen f)).map (Aj Aa)=T3 at *;generalize left.map (Aj Aa)=T2 at *;generalize At PT=T1 at *;generalize At seen=T0 at *;generalize Aj Aa f=F at *;simp[En,Lf,F7,Ff,s1,e1,slE,Do,f2,cl]
  rw[t];rfl
theorem cx(h:MG Z)(f2:Z.fr 222=Aa)(f6:Z.fr 69=Aa)(ht:∀ p,P4 p->Z.F 69 [.int p]=.ok (At (Cf p)))(pts:Ac R3)(hp:P4 p)(np:∀ x∈pts,NF p x)(nd:pts.Nodup):NZ.run Z [.int p,At pts]=.ok (At (CT p pts)):=by
 obtain⟨s3,s4,e⟩:=Tz h f2 hp np nd pts [] (Cf p) Af Af rfl λx hx=>(Ha hp).mp hx
 have e1:Z.F 69 [.int p]=.ok (.lst ((Cf p).map (Aj Aa))):=ht p hp;have sq:Ch (At pts)=.ok (pts.map (Aj Aa)):=rfl;unfold CT;show _=R.ok (D.lst ((G0 p [] pts (Cf p)).map (Aj Aa)));unfold ow at e;generalize (G0 p [] pts (Cf p)).map (Aj Aa)=T3 at *;generalize (Cf p).map (Aj Aa)=T2 at *;generalize pts.map (Aj Aa)=M at *;generalize At pts=T at *;have e':B5 (En Z [3,4] Lf) (EH 0 M) [si p,sh T,Ab (.lst T2,Aa),Af,Af]=.next [si p,sh T,Ab (.lst T3,Aa),s3,s4]:=e;simp[NZ,Df.run,Bv,e1,sq,e',Do,f6,isL]
theorem QE{x f:R3}:∀{rest seen left:Ac R3},x∈G0 p seen rest left->f∈rest->x≠f
 |g::rest,seen,left,h,hf=>by
  rcases Au.mp hf with rfl|hf
  .have k:=(CC.mp (Nw (rest:=rest) h)).2;intro z;subst z;unfold stq at k;simp at k
  .exact QE (rest:=rest) h hf
theorem Wc(hp:P4 p):(Cf p).length<=133:=by
 unfold Cf;rw[AV,Ys];rcases hp with rfl|rfl|rfl|rfl<;>decide
end
noncomputable def fW:Df:=⟨2,Ae,(.cons (.asg 1 Ae (.bin .Mod (.var 1) (.bin .Add (.bin .Add (.bin .Mult (.var 0) (.var 0)) (.var 0)) (.int 1)))) (.cons (.ife (.cmp .Eq (.var 1) (.int 0)) (.cons (.ret (.tup (.cons (.int 0) (.cons (.int 0) (.cons (.int 1) .nil))))) .nil) .nil) (.cons (.ife (.cmp .LtE (.var 1) (.var 0)) (.cons (.ret (.tup (.cons (.int 0) (.cons (.int 1) (.cons (.bin .Sub (.var 1) (.int 1)) .nil))))) .nil) .nil) (.cons (.ret (.tup (.cons (.int 1) (.cons (.bin .FloorDiv (.bin .Sub (.bin .Sub (.var 1) (.var 0)) (.int 1)) (.var 0)) (.cons (.bin .Mod (.bin .Sub (.bin .Sub (.var 1) (.var 0)) (.int 1)) (.var 0)) .nil))))) .nil))))⟩
section
variable{Z:Gam}{ns:Ac Ad}{p:Ad}
theorem T7(x:R3)(l:Ac R3):B7 .NotIn (Aj Aa x) (At l)=.ok (.bl (!decide (x∈l))):=by
 have h:=U_8 x l;have h:(if (flD 5 (Aj Aa x)&&(l.map (Aj Aa)).all (flD 5))=Aa then R.ok (D.bl ((l.map (Aj Aa)).any λy=>eqD y (Aj Aa x))) else .bad)=_:=h
 show (if (flD 5 (Aj Aa x)&&(l.map (Aj Aa)).all (flD 5))=Aa then R.ok (D.bl (!(l.map (Aj Aa)).any λy=>eqD y (Aj Aa x))) else .bad)=_
 split at h
 .rename_i hc;rw[AF hc]
  injection h with h
  injection h with h
  rw[h]
 .cases h
end
section
variable{Z:Gam}{ns:Ac Ad}{p:Ad}
end
section
variable{p:Ad}
theorem Lw(hp:P4 p){s:Ad}(s0:0<=s)(s1:s<p)(t0:0<=t)(t1:t<p)(ne:s≠t):(t-s)%p≠0:=by
 rcases hp with rfl|rfl|rfl|rfl<;>omega
theorem zJ(hp:P4 p){z:R3}(hx:x∈EM p)(hy:y∈EM p)(hz:z∈EM p)(n1:x≠y)(n2:x≠z)(n3:y≠z):Am x y z%p≠0:=by
 have p0:=hp.pos;have fm:∀{w:R3},w∈EM p->w=(0,0,1)\/∃ t:Ad,0<=t/\t<p/\w=(1,t,t*t):=λ{w} hw=>by
  unfold EM at hw;rcases Au.mp hw with h|h
  .exact .inl h
  .obtain⟨t,ht,rfl⟩:=Bo.mp h;have:=A5.mp ht;exact .inr ⟨t,by omega,by omega,rfl⟩
 have df:∀{s t:Ad},((1:Ad),s,s*s)≠(1,t,t*t)->s≠t:=λh z=>h (by rw[z])
 rcases fm hx with rfl|⟨s,s0,s1,rfl⟩
 .rcases fm hy with rfl|⟨t,t0,t1,rfl⟩
  .exact absurd rfl n1
  .rcases fm hz with rfl|⟨u,u0,u1,rfl⟩
   .exact absurd rfl n2
   .have k:=Lw hp t0 t1 u0 u1 (df n3);rw[show Am ((0:Ad),0,1) (1,t,t*t) (1,u,u*u)=u-t by unfold Am det;simp]
    exact k
 .rcases fm hy with rfl|⟨t,t0,t1,rfl⟩
  .rcases fm hz with rfl|⟨u,u0,u1,rfl⟩
   .exact absurd rfl n3
   .have k:=Lw hp u0 u1 s0 s1 (λz=>df n2 z.symm)
    rw[show Am ((1:Ad),s,s*s) (0,0,1) (1,u,u*u)=s-u by unfold Am det;simp;try grind]
    exact k
  .rcases fm hz with rfl|⟨u,u0,u1,rfl⟩
   .have k:=Lw hp s0 s1 t0 t1 (df n1);rw[show Am ((1:Ad),s,s*s) (1,t,t*t) (0,0,1)=t-s by unfold Am det;simp;try grind]
    exact k
   .have k1:=Lw hp s0 s1 t0 t1 (df n1);have k2:=Lw hp s0 s1 u0 u1 (df n2);have k3:=Lw hp t0 t1 u0 u1 (df n3);rw[show Am ((1:Ad),s,s*s) (1,t,t*t) (1,u,u*u)=(t-s)*((u-s)*(u-t)) by unfold Am det;grind]
    exact B6 hp k1 (B6 hp k2 k3)
def N3s(p:Ad)(L:Ac R3):Prop:=∀ x∈L,∀ y∈L,∀ z∈L,x≠y->x≠z->y≠z->Am x y z%p≠0
theorem uI(a b c x y z:R3):Am (ap a b c x) (ap a b c y) (ap a b c z)=Am a b c*Am x y z:=by unfold Am det ap AC;grind
theorem uG(d e f:Ad)(x y z:R3):Am (Bs d x) (Bs e y) (Bs f z)=d*(e*(f*Am x y z)):=by unfold Am det Bs;grind
theorem uH(hp:P4 p){z z':R3}(hx:Pr p x x')(hy:Pr p y y')(hz:Pr p z z')(h:Am x' y' z'%p≠0):Am x y z%p≠0:=by
 obtain⟨d,dz,ed⟩:=hx;obtain⟨e,ez,ee⟩:=hy;obtain⟨f,fz,ef⟩:=hz;have c:=Mu ed ee ef;rw[uG]at c;rw[show Am x y z%p=_ from c]
 exact B6 hp dz (B6 hp ez (B6 hp fz h))
theorem sZ(hp:P4 p){a b c:R3}(G:Am a b c%p≠0):N3s p ((EM p).map λx=>nrm p (ap a b c x)):=by
 intro x hx y hy z hz n1 n2 n3;obtain⟨x0,hx0,rfl⟩:=Bo.mp hx;obtain⟨y0,hy0,rfl⟩:=Bo.mp hy;obtain⟨z0,hz0,rfl⟩:=Bo.mp hz;have sp:∀ {w},w∈EM p->Pr p (nrm p (ap a b c w)) (ap a b c w):=λ{w} hw=>by
  obtain⟨_,l,el⟩:=Mz hp hw;obtain⟨k,ek⟩:=Ls hp G el CgR.rfl;exact(Ku hp ek).2
 refine uH hp (sp hx0) (sp hy0) (sp hz0) ?_;rw[uI];exact B6 hp G (zJ hp hx0 hy0 hz0 (λz=>n1 (by rw[z])) (λz=>n2 (by rw[z])) (λz=>n3 (by rw[z])))
theorem li(h:z0_ p pts=Af){i k:Ag}(h1:i<j)(h2:j<k)(h3:k<pts.length):Am (atZ pts i) (atZ pts j) (atZ pts k)%p≠0:=by
 unfold z0_ at h;rw[CY]at h;have a:=h i (A5.mpr (by omega))
 unfold z1_ at a;rw[CY]at a;have b:=a (j-(i+1)) (A5.mpr (by omega))
 rw[show i+1+(j-(i+1))=j by omega]at b
 unfold z2_ at b;rw[CY]at b;have c:=b (k-(j+1)) (A5.mpr (by omega))
 rw[show j+1+(k-(j+1))=k by omega]at c
 unfold z3_ at c;split at c
 .cases c
 .assumption
theorem lj(h:∀ i j k,i<j->j<k->k<pts.length->Am (atZ pts i) (atZ pts j) (atZ pts k)%p≠0):z0_ p pts=Af:=by
 unfold z0_;rw[CY];intro i hi;unfold z1_;rw[CY];intro m hm;unfold z2_;rw[CY];intro n hn;have a:=A5.mp hi;have b:=A5.mp hm;have c:=A5.mp hn;unfold z3_;rw[AN (h i (i+1+m) (i+1+m+1+n) (by omega) (by omega) (by omega))]
theorem lq{d:D}(h:z0_ p pts=Ab d):∃ x∈pts,∃ y∈pts,∃ z∈pts,d=.tup [Aj Aa x,Aj Aa y,Aj Aa z]:=by
 unfold z0_ at h;obtain⟨i,hi,h⟩:=EB h;unfold z1_ at h;obtain⟨m,hm,h⟩:=EB h;unfold z2_ at h;obtain⟨n,hn,h⟩:=EB h;have a:=A5.mp hi;have b:=A5.mp hm;have c:=A5.mp hn;have mem:∀{k:Ag},k<pts.length->atZ pts k∈pts:=λ{k} hk=>by
  have e:atZ pts k=pts[k]:=by simp[atZ,hk]
  rw[e];exact Dc hk
 unfold z3_ at h;split at h
 .cases h;exact⟨_,mem (by omega),_,mem (by omega),_,mem (by omega),rfl⟩
 .cases h
theorem Lr{k:Ag}(hk:k<pts.length):atZ pts k=pts[k]:=by simp[atZ,hk]
theorem WZ(nd:pts.Nodup)(h:N3s p pts):z0_ p pts=Af:=lj λi j k h1 h2 h3=>by
 have ne:∀{a b:Ag}(ha:a<pts.length)(hb:b<pts.length),a<b->pts[a]≠pts[b]:=λ{a b} ha hb hab z=>by
  have:=(Yo nd).mp z;omega
 rw[Lr (by omega),Lr (by omega),Lr h3]
 exact h _ (Dc _) _ (Dc _) _ (Dc _) (ne _ _ h1) (ne _ _ (by omega)) (ne _ _ h2)
theorem wB{z:R3}(hx:x∈pts)(hy:y∈pts)(hz:z∈pts)(n1:x≠y)(n2:x≠z)(n3:y≠z)(h:Am x y z%p=0):∃ d,z0_ p pts=Ab d:=by
 cases e:z0_ p pts with
 |some d=>exact⟨d,rfl⟩
 |none=>
  exfalso
  obtain⟨i,hi,rfl⟩:=D4 hx;obtain⟨j,hj,rfl⟩:=D4 hy;obtain⟨k,hk,rfl⟩:=D4 hz;have m1:i≠j:=λz=>n1 (by subst z;rfl)
  have m2:i≠k:=λz=>n2 (by subst z;rfl)
  have m3:j≠k:=λz=>n3 (by subst z;rfl)
  have nz:∀{a b c:Ag}(ha:a<pts.length)(hb:b<pts.length)(hc:c<pts.length),a<b->b<c->Am pts[a] pts[b] pts[c]%p≠0:=λ{a b c} ha hb hc h1 h2=>by
   have q:=li e h1 h2 hc;rw[Lr ha,Lr hb,Lr hc]at q;exact q
  have s1:∀ x y z:R3,Am x y z=- Am y x z:=λx y z=>by unfold Am det;grind
  have s2:∀ x y z:R3,Am x y z=- Am x z y:=λx y z=>by unfold Am det;grind
  have ng:∀{u:Ad},u%p=0->(-u)%p=0:=λ{u} hu=>by
   have:=XZ hu;exact X1 (XY.mpr this)
  have o1:∀{x y z:R3},Am x y z%p=0->Am y x z%p=0:=λ{x y z} h=>by rw[s1];exact ng h
  have o2:∀{x y z:R3},Am x y z%p=0->Am x z y%p=0:=λ{x y z} h=>by rw[s2];exact ng h
  rcases Hm m1 with a|a<;>rcases Hm m2 with b|b<;>rcases Hm m3 with c|c
  .exact nz hi hj hk a c h
  .exact nz hi hk hj b c (o2 h)
  .omega
  .exact nz hk hi hj b a (o1 (o2 h))
  .exact nz hj hi hk a b (o1 h)
  .omega
  .exact nz hj hk hi c b (o2 (o1 h))
  .exact nz hk hj hi c a (o1 (o2 (o1 h)))
theorem bT(n:NF p r)(h:r.1%p=0/\r.2.1%p=0/\r.2.2%p=0):Bu:=by
 have e:=n.2;simp[AW,tri,h.1,h.2.1,h.2.2]at e
end
def LR(Z:Gam):Prop:=∀(p n:Ad),P4 p->Z.F 231 [.int p,.int n]=.ok (Aj Aa (ptI p (n%(p*p+p+1))))
noncomputable def JP:Ss:=(.cons (.ife (.cmp .Eq (.call 61 (.cons (.var 0) (.cons (.var 4) (.cons (.var 5) (.cons (.var 2) .nil))))) (.int 0)) (.cons (.ret (.tup (.cons (.var 4) (.cons (.var 5) .nil)))) .nil) .nil) .nil)
noncomputable def Je:Ss:=(.cons (.fors 5 (.e (.sl (.var 1) (.bin .Add (.var 3) (.int 1)) .non)) JP) .nil)
noncomputable def Mh:Df:=⟨6,Ae,(.cons (.forT [3,4] (.enm (.var 1)) Je) (.cons (.ret .non) .nil))⟩
noncomputable def PC:E:=(.call 231 (.cons (.var 0) (.cons (.var 8) .nil)))
noncomputable def Ke:Ss:=(.cons (.ife (.cmp .Eq (.call 233 (.cons (.var 0) (.cons (.var 6) (.cons (.var 7) .nil)))) (.int 0)) (.cons (.dsd 2 (.var 7) (.tup (.cons (.idx (.var 1) (.var 4)) (.cons (.idx (.var 1) (.var 5)) .nil)))) .nil) .nil) .nil)
noncomputable def K9:Ss:=(.cons (.asg 6 Ae (.call 232 (.cons (.var 0) (.cons (.idx (.var 1) (.var 4)) (.cons (.idx (.var 1) (.var 5)) .nil))))) (.cons (.fors 7 (.e (.var 3)) Ke) .nil))
noncomputable def K8:Ss:=(.cons (.fors 5 (.rng2 (.bin .Add (.var 4) (.int 1)) (.bi .len (.cons (.var 1) .nil))) K9) .nil)
noncomputable def Mg:Df:=⟨9,Ae,(.cons (.dnw 2) (.cons (.asg 3 Ae (.comp PC 8 (.rng (.bin .Add (.bin .Add (.bin .Mult (.var 0) (.var 0)) (.var 0)) (.int 1))) CM)) (.cons (.fors 4 (.rng (.bi .len (.cons (.var 1) .nil))) K8) (.cons (.ret (.var 2)) .nil))))⟩
noncomputable def prL:Ac R3->Ac (R3×R3)
 |[]=>[]
 |a::r=>r.map (λb=>(a,b))++prL r
noncomputable def Gd(p:Ad)(x:R3)(q:R3×R3):Al:=decide (Am q.1 q.2 x%p=0)
noncomputable def twD(q:R3×R3):D:=.tup [Aj Aa q.1,Aj Aa q.2]
noncomputable def fpr(p:Ad)(pts:Ac R3)(x:R3):Aq (R3×R3):=(prL pts).find? (Gd p x)
noncomputable def okF(p:Ad):Ac R3->Ac R3->R3->Al
 |_,[],_=>Aa
 |seen,f::rest,x=>stq p seen f x&&okF p (seen++[f]) rest x
theorem UA(p:Ad):∀(rest seen left:Ac R3),G0 p seen rest left=left.filter (okF p seen rest)
 |[],seen,left=>by
  show left=_;exact(List.filter_eq_self.mpr λ_ _=>rfl).symm
 |f::rest,seen,left=>by
  show G0 p (seen++[f]) rest (left.filter (stq p seen f))=_;rw[UA p rest,List.filter_filter]
  congr 1
  funext x
  show _=(stq p seen f x&&okF p (seen++[f]) rest x);rw[XQ]
theorem Vv(p:Ad)(x:R3):∀(rest seen:Ac R3),okF p seen rest x=Aa↔x∉rest/\(∀ a∈seen,∀ f∈rest,Am a f x%p≠0)/\∀ q∈prL rest,Gd p x q=Ae
 |[],seen=>by simp[okF,prL]
 |f::rest,seen=>by
  show (stq p seen f x&&okF p (seen++[f]) rest x)=Aa↔_;rw[Ap,Vv p x rest (seen++[f])];unfold stq;simp only[Ap,BU,ES,X9,Bj,List.mem_append,AR,Au,prL,Bo,Gd,Dh];constructor
  .rintro⟨⟨h1,h2⟩,h3,h4,h5⟩;refine⟨⟨h1,h3⟩,λa ha g hg=>?_,λq hq=>?_⟩
   .rcases hg with rfl|hg
    .exact h2 a ha
    .exact h4 a (.inl ha) g hg
   .rcases hq with ⟨b,hb,rfl⟩|hq
    .exact h4 f (.inr (.inl rfl)) b hb
    .exact h5 q hq
  .rintro⟨⟨h1,h3⟩,h4,h5⟩;refine⟨⟨h1,λa ha=>h4 a ha f (.inl rfl)⟩,h3,λa ha g hg=>?_,λq hq=>h5 q (.inr hq)⟩
   rcases ha with ha|rfl|ha
   .exact h4 a ha g (.inr hg)
   .exact h5 (a,g) (.inl ⟨g,hg,rfl⟩)
   .cases ha
noncomputable def JW(p:Ad)(pts:Ac R3)(x:R3):Al:=!decide (x∈pts)&&(fpr p pts x).isNone
theorem QL(p:Ad)(pts:Ac R3):CT p pts=(Cf p).filter (JW p pts):=by
 unfold CT;rw[UA]
 congr 1
 funext x
 rw[CS,Vv];unfold JW fpr;simp
noncomputable def Jo(kv:Ac (Ac Ad×D))(k:Ac Ad)(v:D):Ac (Ac Ad×D):=if (kv.any λq=>q.1==k)=Aa then kv else Gx kv k v
theorem Q1{k:Ac Ad}:(kv.any λq=>q.1==k)=(Dl kv k).isSome:=by
 unfold Dl;rw[YE,CS,List.find?_isSome,Fk]
theorem jW(kv:Ac (Ac Ad×D))(k k':Ac Ad)(v:D):Dl (Jo kv k v) k'=if k'=k then Ab ((Dl kv k).getD v) else Dl kv k':=by
 unfold Jo;cases e:(kv.any λq=>q.1==k) with
 |true=>
  rw[AF rfl];rw[Q1]at e;split
  .rename_i h;rw[h];obtain⟨d,hd⟩:=YD.mp e;rw[hd];rfl
  .rfl
 |false=>
  rw[AN (by decide)]
  unfold Gx;rw[AN (by rw[e];decide)]
  have hn:Dl kv k=Af:=by
   rw[Q1]at e;cases h:Dl kv k with
   |none=>rfl
   |some d=>rw[h]at e;cases e
  rw[hn];show ((kv++[(k,v)]).find? λq=>q.1==k').map (·.2)=_
  rw[Yj];split
  .rename_i h;subst h;have:kv.find? (λq=>q.1==k')=Af:=by
    unfold Dl at hn;simpa using hn
   rw[this];simp
  .rename_i h;have:([(k,v)].find? λq=>q.1==k')=Af:=by
    simp;exact λz=>h z.symm
   rw[this];unfold Dl;simp
theorem Ua(kv:Ac (Ac Ad×D))(k:Ac Ad)(v:D):(Jo kv k v).length<=kv.length+1:=by
 unfold Jo;split
 .omega
 .unfold Gx;split
  .rw[AV];omega
  .simp
noncomputable def G2(p:Ad)(q:R3×R3)(kv:Ac (Ac Ad×D))(x:R3):Ac (Ac Ad×D):=if Gd p x q=Aa then Jo kv (tri x) (twD q) else kv
noncomputable def Im(p:Ad)(kv:Ac (Ac Ad×D))(q:R3×R3):Ac (Ac Ad×D):=(Cf p).foldl (G2 p q) kv
theorem UO(p:Ad)(q:R3×R3)(y:R3):∀(xs:Ac R3)(kv:Ac (Ac Ad×D)),Dl (xs.foldl (G2 p q) kv) (tri y)=if y∈xs/\Gd p y q=Aa then Ab ((Dl kv (tri y)).getD (twD q)) else Dl kv (tri y)
 |[],kv=>by simp
 |x::xs,kv=>by
  rw[GE,UO p q y xs];by_cases hx:Gd p x q=Aa
  .have e:G2 p q kv x=Jo kv (tri x) (twD q):=AF hx;rw[e,jW];by_cases hy:y=x
   .subst hy;rw[AF rfl];simp[hx]
   .have:¬ tri y=tri x:=λz=>hy (oS z)
    rw[AN this];simp[hy]
  .have e:G2 p q kv x=kv:=AN hx;rw[e];by_cases hy:y=x
   .subst hy;simp[hx]
   .simp[hy]
theorem UN(p:Ad)(q:R3×R3):∀(xs:Ac R3)(kv:Ac (Ac Ad×D)),(xs.foldl (G2 p q) kv).length<=kv.length+xs.length
 |[],kv=>by simp
 |x::xs,kv=>by
  rw[GE];have h1:=UN p q xs (G2 p q kv x);have h2:(G2 p q kv x).length<=kv.length+1:=by
   unfold G2;split
   .exact Ua ..
   .omega
  rw[Bl];omega
noncomputable def J2(p:Ad)(pts:Ac R3):Ac (Ac Ad×D):=(prL pts).foldl (Im p) []
theorem UQ(p:Ad){y:R3}(hy:y∈Cf p):∀(L:Ac (R3×R3))(kv:Ac (Ac Ad×D)),Dl (L.foldl (Im p) kv) (tri y)=match Dl kv (tri y) with
  |some v=>Ab v
  |none=>(L.find? (Gd p y)).map twD
 |[],kv=>by
  show Dl kv (tri y)=_;cases Dl kv (tri y)<;>rfl
 |q::L,kv=>by
  rw[GE,UQ p hy L];unfold Im;rw[UO];by_cases hh:Gd p y q=Aa
  .rw[AF ⟨hy,hh⟩,Eg,hh];cases Dl kv (tri y)<;>rfl
  .rw[AN (λz=>hh z.2),Eg]
   have:Gd p y q=Ae:=by simpa using hh
   rw[this]
theorem dic_get(p:Ad)(pts:Ac R3)(hy:y∈Cf p):Dl (J2 p pts) (tri y)=(fpr p pts y).map twD:=UQ p hy (prL pts) []
section
variable{Z:Gam}{p:Ad}{pts:Ac R3}
theorem kM(x:R3):Ft (Aj Aa x)=.ok (tri x):=rfl
theorem zE{PT EV A B LN X:D}{j:Ad}{k:Ac Ad}(ea:Cr PT (.int i)=.ok A)(eb:Cr PT (.int j)=.ok B)(e:Z.F 233 [.int p,LN,X]=.ok (.int v))(ek:Ft X=.ok k)(hz:CN (kv.length+1)=Aa):AY Z 7 Ke X [si p,sh PT,Ab (.dic kv,Aa),sh EV,si i,si j,sh LN,s7,Af]=.next [si p,sh PT,Ab (.dic (if v=0 then Jo kv k (.tup [A,B]) else kv),Aa),sh EV,si i,si j,sh LN,sh X,Af]:=by
 by_cases z:v=0
 .subst z;simp[AY,Ke,e,ea,eb,ek,hz,He,Jo]
 .simp[AY,Ke,e,z]
theorem WD{PT EV LN:D}{i j:Ad}{a b:R3}(ea:Cr PT (.int i)=.ok (Aj Aa a))(eb:Cr PT (.int j)=.ok (Aj Aa b))(e:∀ x,NF p x->Z.F 233 [.int p,LN,Aj Aa x]=.ok (.int (Am a b x%p))):∀(xs:Ac R3)(kv:Ac (Ac Ad×D))(s7:Sl),(∀ x∈xs,NF p x)->kv.length+xs.length<=60000->∃ s7',B5 (AY Z 7 Ke) (xs.map (Aj Aa)) [si p,sh PT,Ab (.dic kv,Aa),sh EV,si i,si j,sh LN,s7,Af]=.next [si p,sh PT,Ab (.dic (xs.foldl (G2 p (a,b)) kv),Aa),sh EV,si i,si j,sh LN,s7',Af]
 |[],kv,s7,_,_=>⟨s7,rfl⟩
 |x::xs,kv,s7,hx,hl=>by
  rw[Bl]at hl;have st:=zE (p:=p) (EV:=EV) (s7:=s7) (kv:=kv) ea eb (e x (hx x Aw)) (kM x) (show ET (kv.length+1) 1000000=Aa from CQ (by omega))
  have e2:(if Am a b x%p=0 then Jo kv (tri x) (.tup [Aj Aa a,Aj Aa b]) else kv)=G2 p (a,b) kv x:=by
   unfold G2 Gd twD;by_cases z:Am a b x%p=0
   .rw[AF z,AF (AU z)]
   .rw[AN z,AN (by simpa using z)]
  rw[e2]at st;have h2:(G2 p (a,b) kv x).length<=kv.length+1:=by
   unfold G2;split
   .exact Ua ..
   .omega
  obtain⟨s7',ih⟩:=WD ea eb e xs (G2 p (a,b) kv x) (sh (Aj Aa x)) (λy hy=>hx y (Av _ hy)) (by omega)
  refine⟨s7',?_⟩;show (AY Z 7 Ke (Aj Aa x) _).turn _=_;rw[st];exact ih
theorem Re{PT seen rest:Ac R3}(e:PT=seen++a::rest):Cr (At PT) (.int seen.length)=.ok (Aj Aa a):=by
 have h:=GW (pts:=PT) (i:=seen.length) (by rw[e];simp)
 rw[h];simp[atZ,e]
theorem dm(hc:Ix Z)(hs:H9 Z)(hp:P4 p){a b x:R3}(ia:In3 p a)(ib:In3 p b)(ix:In3 p x):Z.F 233 [.int p,Aj Aa (mdR p (crs a b)),Aj Aa x]=.ok (.int (Am a b x%p)):=by
 have e:=hs p Aa Aa (mdR p (crs a b)) x hp.pos ((Cy hp (Oc hp.pos _)).b3 (by decide)) ((Cy hp ix).b3 (by decide))
 have q:AC (mdR p (crs a b)) x%p=Am a b x%p:=by
  have c:=GU (CgR.md (p:=p) (a:=mdR p (crs a b)) _root_.rfl) (CgR.rfl (a:=x));have d:AC (crs a b) x=Am a b x:=by unfold AC crs Am det;grind
  rw[d]at c;exact c
 rw[q]at e;exact e
theorem UP(hp:P4 p)(kv:Ac (Ac Ad×D))(q:R3×R3):(Im p kv q).length<=kv.length+133:=by
 have h:=UN p q (Cf p) kv;have:=Wc hp;unfold Im;omega
theorem zD{PT AL LN:D}{kv':Ac (Ac Ad×D)}{j:Ad}{s7':Sl}{B:D}{xs:Ac D}(ea:Cr PT (.int i)=.ok A)(eb:Cr PT (.int j)=.ok B)(el:Z.F 232 [.int p,A,B]=.ok LN)(sq:Ch AL=.ok xs)(lp:B5 (AY Z 7 Ke) xs [si p,sh PT,Ab (.dic kv,Aa),sh AL,si i,si j,sh LN,s7,Af]=.next [si p,sh PT,Ab (.dic kv',Aa),sh AL,si i,si j,sh LN,s7',Af]):AY Z 5 K9 (.int j) [si p,sh PT,Ab (.dic kv,Aa),sh AL,si i,s5,s6,s7,Af]=.next [si p,sh PT,Ab (.dic kv',Aa),sh AL,si i,si j,sh LN,s7',Af]:=by
 simp[AY,K9,ea,eb,el,sq];exact lp
theorem WC(hc:Ix Z)(hs:H9 Z)(hp:P4 p){PT:Ac R3}(np:∀ x∈PT,NF p x){i:Ad}{a:R3}(ha:a∈PT)(ea:Cr (At PT) (.int i)=.ok (Aj Aa a)):∀(rest seen:Ac R3)(kv:Ac (Ac Ad×D))(s5 s6 s7:Sl),PT=seen++rest->kv.length+133*rest.length<=50000->∃ s5' s6' s7',B5 (AY Z 5 K9) (CJ seen.length rest.length) [si p,sh (At PT),Ab (.dic kv,Aa),sh (.lst ((Cf p).map (Aj Aa))),si i,s5,s6,s7,Af]=.next [si p,sh (At PT),Ab (.dic ((rest.map λb=>(a,b)).foldl (Im p) kv),Aa),sh (.lst ((Cf p).map (Aj Aa))),si i,s5',s6',s7',Af]
 |[],seen,kv,s5,s6,s7,_,_=>⟨s5,s6,s7,rfl⟩
 |b::rest,seen,kv,s5,s6,s7,e,hl=>by
  rw[Bl]at hl;have hb:b∈PT:=by rw[e];simp
  have al:=Wc hp;obtain⟨t7,l0⟩:=WD (Z:=Z) (p:=p) (EV:=.lst ((Cf p).map (Aj Aa))) ea (Re e) (λx hx=>dm hc hs hp (np a ha).1 (np b hb).1 hx.1) (Cf p) kv s7 (λx hx=>(Ha hp).mp hx) (by omega)
  have el:=hc p Aa Aa a b hp.pos ((Cy hp (np a ha).1).b3 (by decide)) ((Cy hp (np b hb).1).b3 (by decide))
  have st:=zD (s5:=s5) (s6:=s6) (AL:=.lst ((Cf p).map (Aj Aa))) ea (Re e) el rfl l0;have h2:=UP hp kv (a,b);obtain⟨s5',s6',s7',ih⟩:=WC hc hs hp np ha ea rest (seen++[b]) (Im p kv (a,b)) _ _ t7 (by rw[e];simp) (by omega)
  refine⟨s5',s6',s7',?_⟩;rw[Bl,Qa];rw[A4,Bq]at ih;show (AY Z 5 K9 (.int seen.length) _).turn _=_;rw[st];exact ih
theorem zC{PT AL:D}{kv':Ac (Ac Ad×D)}{n:Ad}{s5' s6' s7':Sl}{xs:Ac D}(ln:biD .len [PT]=.ok (.int n))(rg:CF (i+1) n=.ok xs)(lp:B5 (AY Z 5 K9) xs [si p,sh PT,Ab (.dic kv,Aa),sh AL,si i,s5,s6,s7,Af]=.next [si p,sh PT,Ab (.dic kv',Aa),sh AL,si i,s5',s6',s7',Af]):AY Z 4 K8 (.int i) [si p,sh PT,Ab (.dic kv,Aa),sh AL,s4,s5,s6,s7,Af]=.next [si p,sh PT,Ab (.dic kv',Aa),sh AL,si i,s5',s6',s7',Af]:=by
 simp[AY,K8,ln,rg];exact lp
theorem WB(hc:Ix Z)(hs:H9 Z)(hp:P4 p){PT:Ac R3}(np:∀ x∈PT,NF p x)(hz:PT.length<=15):∀(rest seen:Ac R3)(kv:Ac (Ac Ad×D))(s4 s5 s6 s7:Sl),PT=seen++rest->kv.length+2000*rest.length<=40000->∃ s4' s5' s6' s7',B5 (AY Z 4 K8) (CJ seen.length rest.length) [si p,sh (At PT),Ab (.dic kv,Aa),sh (.lst ((Cf p).map (Aj Aa))),s4,s5,s6,s7,Af]=.next [si p,sh (At PT),Ab (.dic ((prL rest).foldl (Im p) kv),Aa),sh (.lst ((Cf p).map (Aj Aa))),s4',s5',s6',s7',Af]
 |[],seen,kv,s4,s5,s6,s7,_,_=>⟨s4,s5,s6,s7,rfl⟩
 |a::rest,seen,kv,s4,s5,s6,s7,e,hl=>by
  rw[Bl]at hl;have ha:a∈PT:=by rw[e];simp
  have hr:rest.length<=15:=by rw[e]at hz;simp at hz;omega
  have e':PT=(seen++[a])++rest:=by rw[e];simp
  obtain⟨t5,t6,t7,l1⟩:=WC hc hs hp np ha (Re e) rest (seen++[a]) kv s5 s6 s7 e' (by omega)
  have lk:∀(L:Ac R3)(kv:Ac (Ac Ad×D)),((L.map λb=>(a,b)).foldl (Im p) kv).length<=kv.length+133*L.length:=by
   intro L
   induction L with
   |nil=>intro kv;simp
   |cons b L ih=>
    intro kv;rw[Bm,GE,Bl];have:=ih (Im p kv (a,b));have:=UP hp kv (a,b);omega
  have lk':=lk rest kv;have rg:CF ((seen.length:Ad)+1) (PT.length:Ad)=.ok (CJ (seen.length+1) rest.length):=by
   have q:(PT.length:Ad)=seen.length+1+rest.length:=by rw[e];simp;omega
   rw[q,Ko (by omega) (by omega) (by omega) (by omega)]
   congr 2
   omega
  have ln:=Ml PT;rw[A4,Bq]at l1;have st:=zC (s4:=s4) ln rg (by exact l1)
  obtain⟨s4',s5',s6',s7',ih⟩:=WB hc hs hp np hz rest (seen++[a]) ((rest.map λb=>(a,b)).foldl (Im p) kv) (si seen.length) t5 t6 t7 e' (by omega)
  refine⟨s4',s5',s6',s7',?_⟩;rw[Bl,Qa];rw[A4,Bq]at ih;show (AY Z 4 K8 (.int seen.length) _).turn _=_;rw[st,show prL (a::rest)=rest.map (λb=>(a,b))++prL rest from rfl,List.foldl_append]
  exact ih
theorem je(h:LR Z)(hp:P4 p){k:Ag}{q e:E}(hg:∀ n:Ag,(n:Ad)<p*p+p+1->cG Z Y k q (.int (n:Ad))=.ok Aa/\cF Z Y k e (.int (n:Ad))=Z.F 231 [.int p,.int (n:Ad)]):BR (cG Z Y k q) (cF Z Y k e) (CJ 0 (p*p+p+1).toNat)=.ok ((Cf p).map (Aj Aa)):=by
 have N1:0<=p*p+p+1/\p*p+p+1<=1000:=by rcases hp with rfl|rfl|rfl|rfl<;>decide
 have key:∀ L:Ac Ag,(∀ k∈L,(k:Ad)<p*p+p+1)->BR (cG Z Y k q) (cF Z Y k e) (L.map fun(k:Ag)=>D.int (0+(k:Ad)))=.ok ((L.map fun(n:Ag)=>ptI p n).map (Aj Aa)):=by
  intro L
  induction L with
  |nil=>intro _;rfl
  |cons n L ih=>
   intro hL;have e1:=h p n hp;have hn:=hL n Aw;rw[AK (by omega) hn]at e1
   obtain⟨g1,g2⟩:=hg n hn;rw[e1]at g2;have ih':=ih λm hm=>hL m (Av _ hm)
   rw[Bm,Db];show (cG Z Y k q (.int (n:Ad))).bind _=_;rw[g1,R.bind_ok,AF rfl,g2,R.bind_ok,show BR _ _ (Kc _ L)=_ from ih']
   rfl
 unfold Cf CJ;exact key _ λk hk=>by have:=A5.mp hk;omega
theorem gP{PT:D}{n:Ad}{xs AL:Ac D}(m:DZ p p=Aa)(hN:p*p+p+1=N)(rN:CF 0 N=.ok RL)(cp:BR (cG Z [si p,sh PT,Ab (.dic [],Aa),Af,Af,Af,Af,Af,Af] 8 CM) (cF Z [si p,sh PT,Ab (.dic [],Aa),Af,Af,Af,Af,Af,Af] 8 PC) RL=.ok AL)(ln:biD .len [PT]=.ok (.int n))(rg:CF 0 n=.ok xs)(lp:B5 (AY Z 4 K8) xs [si p,sh PT,Ab (.dic [],Aa),sh (.lst AL),Af,Af,Af,Af,Af]=.next [si p,sh PT,Ab (.dic kv,Aa),sh (.lst AL),s4,s5,s6,s7,Af]):Mg.run Z [.int p,PT]=.ok (.dic kv):=by
 simp[Mg,Df.run,Bv,m,hN,rN,cp,ln,rg,lp]
def VR(Z:Gam):Prop:=∀(p:Ad)(pts:Ac R3),P4 p->(∀ x∈pts,NF p x)->pts.length<=15->Z.F 235 [.int p,At pts]=.ok (.dic (J2 p pts))
theorem qL(h:LR Z)(hc:Ix Z)(hs:H9 Z)(hp:P4 p)(np:∀ x∈pts,NF p x)(hz:pts.length<=15):Mg.run Z [.int p,At pts]=.ok (.dic (J2 p pts)):=by
 have N1:0<=p*p+p+1/\p*p+p+1<=1000:=by rcases hp with rfl|rfl|rfl|rfl<;>decide
 obtain⟨s4,s5,s6,s7,lp⟩:=WB hc hs hp np hz pts [] [] Af Af Af Af rfl (by simp;omega)
 have rN:CF 0 (p*p+p+1)=.ok (CJ 0 (p*p+p+1).toNat):=by
  have:=Ko (lo:=0) (hi:=p*p+p+1) (by decide) (by decide) (by omega) (by omega)
  rwa [E7]at this
 have rg:CF 0 (pts.length:Ad)=.ok (CJ 0 pts.length):=by
  have:=Ko (lo:=0) (hi:=(pts.length:Ad)) (by decide) (by decide) (by omega) (by omega)
  rwa [E7,Ep]at this
 have ph:=hp.hi;have pl:=hp.lo;have m:DZ p p=Aa:=HZ (by omega) (by omega)
 refine gP m rfl rN (je h hp λn hn=>⟨rfl,?_⟩) (Ml pts) rg (by exact lp)
 generalize At pts=T;simp[cF,PC];cases Z.F 231 [.int p,.int (n:Ad)]<;>rfl
theorem zG{Y_:D}(e:Z.F 61 [.int p,A,Y_,X]=.ok (.int v)):AY Z 5 JP Y_ [si p,sh T,sh X,si i,sh A,s5]=if v=0 then .ret (.tup [A,Y_]) Ae else .next [si p,sh T,sh X,si i,sh A,sh Y_]:=by
 by_cases z:v=0
 .subst z;simp[AY,JP,e,Do]
 .simp[AY,JP,e,z]
theorem WF(h:Hw Z)(hp:P4 p){x a:R3}(ix:In3 p x)(ia:In3 p a){T:D}{i:Ad}:∀(rest:Ac R3)(s5:Sl),(∀ y∈rest,In3 p y)->∃ s5',B5 (AY Z 5 JP) (rest.map (Aj Aa)) [si p,sh T,sh (Aj Aa x),si i,sh (Aj Aa a),s5]=match (rest.map λb=>(a,b)).find? (Gd p x) with
  |some q=>.ret (twD q) Ae
  |none=>.next [si p,sh T,sh (Aj Aa x),si i,sh (Aj Aa a),s5']
 |[],s5,_=>⟨s5,rfl⟩
 |y::rest,s5,hy=>by
  have b:∀ {r},In3 p r->B3 r:=λhr=>(Cy hp hr).b3 (by decide)
  have st:=zG (T:=T) (i:=i) (s5:=s5) (h p Aa a y x hp.pos (b ia) (b (hy y Aw)) (b ix));rw[Bm,Bm,Eg];by_cases z:Am a y x%p=0
  .have hh:Gd p x (a,y)=Aa:=AU z;rw[hh];refine⟨s5,?_⟩;show (AY Z 5 JP (Aj Aa y) _).turn _=_;rw[st,AF z];rfl
  .have hh:Gd p x (a,y)=Ae:=Cb z;rw[hh];obtain⟨s5',ih⟩:=WF h hp ix ia (T:=T) (i:=i) rest (sh (Aj Aa y)) λw hw=>hy w (Av _ hw)
   refine⟨s5',?_⟩;show (AY Z 5 JP (Aj Aa y) _).turn _=_;rw[st,AN z];exact ih
theorem zF{T':D}{L:Ac D}(sl:slD T (Ab (i+1)) Af=.ok T')(sq:Ch T'=.ok L):En Z [3,4] Je (.tup [.int i,A]) [si p,sh T,sh X,s3,s4,s5]=B5 (AY Z 5 JP) L [si p,sh T,sh X,si i,sh A,s5]:=by
 have e':En Z [3,4] Je (.tup [.int i,A]) [si p,sh T,sh X,s3,s4,s5]=evSs Z [si p,sh T,sh X,si i,sh A,s5] Je:=rfl;rw[e'];unfold Je;refine MD ?_;simp[sl,slE,sq]
theorem WE(h:Hw Z)(hp:P4 p){PT:Ac R3}(np:∀ y∈PT,In3 p y){x:R3}(ix:In3 p x):∀(rest seen:Ac R3)(s3 s4 s5:Sl),PT=seen++rest->∃ s3' s4' s5',B5 (En Z [3,4] Je) (EH seen.length (rest.map (Aj Aa))) [si p,sh (At PT),sh (Aj Aa x),s3,s4,s5]=match (prL rest).find? (Gd p x) with
  |some q=>.ret (twD q) Ae
  |none=>.next [si p,sh (At PT),sh (Aj Aa x),s3',s4',s5']
 |[],seen,s3,s4,s5,_=>⟨s3,s4,s5,rfl⟩
 |a::rest,seen,s3,s4,s5,e=>by
  have ia:In3 p a:=np a (by rw[e];simp)
  have sl:slD (At PT) (Ab ((seen.length:Ad)+1)) Af=.ok (At rest):=by
   have:=Ve PT (i:=(seen.length:Ad)+1) (by omega) (by rw[e];simp<;>omega)
   rw[this,show ((seen.length:Ad)+1).toNat=seen.length+1 by omega,e]
   congr 2
   rw[show seen++a::rest=(seen++[a])++rest by simp]
   exact List.drop_left' (by simp)
  obtain⟨t5,l0⟩:=WF h hp ix ia (T:=At PT) (i:=(seen.length:Ad)) rest s5 λy hy=>np y (by rw[e];simp[hy])
  have st:=zF (Z:=Z) (p:=p) (X:=Aj Aa x) (A:=Aj Aa a) (s3:=s3) (s4:=s4) (s5:=s5) (L:=rest.map (Aj Aa)) sl rfl;rw[show prL (a::rest)=rest.map (λb=>(a,b))++prL rest from rfl,Yj]
  cases hf:(rest.map λb=>(a,b)).find? (Gd p x) with
  |some q=>
   rw[hf]at l0;refine⟨s3,s4,s5,?_⟩;show (En Z [3,4] Je (.tup [.int seen.length,Aj Aa a]) _).turn _=_;rw[st,l0];rfl
  |none=>
   rw[hf]at l0;obtain⟨s3',s4',s5',ih⟩:=WE h hp np ix rest (seen++[a]) (si seen.length) (sh (Aj Aa a)) t5 (by rw[e];simp)
   refine⟨s3',s4',s5',?_⟩;rw[A4,Bq]at ih;show (En Z [3,4] Je (.tup [.int seen.length,Aj Aa a]) _).turn _=_;rw[st,l0];exact ih
def WU(Z:Gam):Prop:=∀(p:Ad)(pts:Ac R3)(x:R3),P4 p->(∀ y∈pts,In3 p y)->In3 p x->Z.F 225 [.int p,At pts,Aj Aa x]=.ok (((fpr p pts x).map twD).getD .non)
theorem br(h:Hw Z)(hp:P4 p)(np:∀ y∈pts,In3 p y)(ix:In3 p x):Mh.run Z [.int p,At pts,Aj Aa x]=.ok (((fpr p pts x).map twD).getD .non):=by
 obtain⟨s3,s4,s5,lp⟩:=WE h hp np ix pts [] Af Af Af rfl;have sq:Ch (At pts)=.ok (pts.map (Aj Aa)):=rfl;unfold fpr;have lp':B5 (En Z [3,4] Je) (EH 0 (pts.map (Aj Aa))) [si p,sh (At pts),sh (Aj Aa x),Af,Af,Af]=_:=lp;generalize pts.map (Aj Aa)=M at *;generalize At pts=T at *;generalize Aj Aa x=X at *;cases hf:(prL pts).find? (Gd p x) with
 |some q=>rw[hf]at lp';simp[Mh,Df.run,Bv,sq,lp']
 |none=>rw[hf]at lp';simp[Mh,Df.run,Bv,sq,lp']
end
noncomputable def Ps:E:=(.cmp .NotIn (.var 2) (.var 1))
noncomputable def Pt:E:=(.bin .Add (.tup (.cons (.var 2) .nil)) (.call 225 (.cons (.var 0) (.cons (.var 1) (.cons (.var 2) .nil)))))
noncomputable def ME:Df:=⟨3,Aa,(.cons (.ret (.comp Pt 2 (.e (.call 69 (.cons (.var 0) .nil))) Ps)) .nil)⟩
section
variable{Z:Gam}{p:Ad}{pts:Ac R3}
theorem QH{α:Type}{g:D->R Al}{f:D->R D}(φ:α->D)(c:α->Al)(ψ:α->D):∀ L:Ac α,(∀ x∈L,g (φ x)=.ok (c x)/\(c x=Aa->f (φ x)=.ok (ψ x)))->BR g f (L.map φ)=.ok ((L.filter c).map ψ)
 |[],_=>rfl
 |x::L,h=>by
  obtain⟨h1,h2⟩:=h x Aw;have ih:=QH φ c ψ L λy hy=>h y (Av _ hy)
  show (g (φ x)).bind _=_;rw[h1,R.bind_ok,DK];cases e:c x with
  |true=>
   rw[AF rfl,h2 e,R.bind_ok,show BR _ _ (Kc _ L)=_ from ih]
   rfl
  |false=>exact ih
noncomputable def rwD(p:Ad)(pts:Ac R3)(x:R3):D:=match fpr p pts x with
  |some q=>.tup [Aj Aa x,Aj Aa q.1,Aj Aa q.2]
  |none=>.non
noncomputable def fH(p:Ad)(pts:Ac R3):Ac R3:=(Cf p).filter λx=>!decide (x∈pts)
noncomputable def OY(p:Ad)(pts:Ac R3):D:=.lst ((fH p pts).map (rwD p pts))
theorem rV{AL:D}{L R:Ac D}(ht:Z.F 69 [.int p]=.ok AL)(sq:Ch AL=.ok L)(cp:BR (cG Z [si p,sh T,Af] 2 Ps) (cF Z [si p,sh T,Af] 2 Pt) L=.ok R):ME.run Z [.int p,T]=.ok (.lst R):=by
 simp[ME,Df.run,Bv,ht,sq,cp,Do]
theorem ol(ht:∀ p,P4 p->Z.F 69 [.int p]=.ok (At (Cf p)))(h2:WU Z)(hp:P4 p)(np:∀ x∈pts,NF p x)(ha:∀ x∈Cf p,x∉pts->∃ q,fpr p pts x=Ab q):ME.run Z [.int p,At pts]=.ok (OY p pts):=by
 refine rV (ht p hp) rfl (QH (Aj Aa) (λx=>!decide (x∈pts)) (rwD p pts) (Cf p) λx hx=>⟨?_,λhn=>?_⟩)
 .have n:=T7 x pts;generalize At pts=T at *;generalize Aj Aa x=X at *;simp[cG,Ps,n]
 .have hn:x∉pts:=by simpa using hn
  obtain⟨q,hq⟩:=ha x hx hn;have e:=h2 p pts x hp (λy hy=>(np y hy).1) ((Ha hp).mp hx).1
  rw[hq]at e;have e:Z.F 225 [.int p,At pts,Aj Aa x]=.ok (.tup [Aj Aa q.1,Aj Aa q.2]):=e;have e3:rwD p pts x=.tup [Aj Aa x,Aj Aa q.1,Aj Aa q.2]:=by unfold rwD;rw[hq]
  rw[e3];have sz:CN 3=Aa:=rfl;generalize At pts=T at *;generalize Aj Aa x=X at *;generalize Aj Aa q.1=A at *;generalize Aj Aa q.2=B at *;simp[cF,Pt,e,sz]
theorem Vl{PT:Ac R3}(nd:PT.Nodup):∀(rest seen:Ac R3)(s1 s2:Sl),PT=seen++rest->∃ Y':Rho,B5 (En Z [1,2] Lb) (EH seen.length (rest.map (Aj Aa))) [sh (At PT),s1,s2]=.next Y'
 |[],seen,s1,s2,_=>⟨_,rfl⟩
 |x::rest,seen,s1,s2,e=>by
  have s:=Vd PT seen (x::rest) e;have c:=U_8 x seen;have hm:x∉seen:=λz=>by
   rw[e]at nd;exact(List.nodup_append.mp nd).2.2 x z x (Aw ..) rfl
  rw[Cb hm]at c;obtain⟨Y',ih⟩:=Vl nd rest (seen++[x]) (si seen.length) (sh (Aj Aa x)) (by rw[e];simp)
  refine⟨Y',?_⟩;rw[A4,Bq]at ih;rw[<-ih];show (En Z [1,2] Lb (.tup [.int seen.length,Aj Aa x]) _).turn _=_;have t:En Z [1,2] Lb (.tup [.int seen.length,Aj Aa x]) [sh (At PT),s1,s2]=.next [sh (At PT),si seen.length,sh (Aj Aa x)]:=by
   generalize At PT=T at *;generalize At seen=T0 at *;generalize Aj Aa x=X at *;simp[En,Lb,F7,Ff,s,c,slE]
  rw[t];rfl
theorem Xf(pts:Ac R3)(nd:pts.Nodup):Mt.run Z [At pts]=.ok .non:=by
 obtain⟨Y',e⟩:=Vl (Z:=Z) nd pts [] Af Af rfl;have sq:Ch (At pts)=.ok (pts.map (Aj Aa)):=rfl;have e':B5 (En Z [1,2] Lb) (EH 0 (pts.map (Aj Aa))) [sh (At pts),Af,Af]=_:=e;generalize pts.map (Aj Aa)=M at *;generalize At pts=T at *;simp[Mt,Df.run,Bv,sq,e']
structure Fre (p:Ad) (l:Ac R3):Prop where
 nf:∀ x∈l,NF p x
 nd:l.Nodup
 z0:z0_ p l=Af
 ln:(l.length:Ad)<=p+1
theorem JT(hp:P4 p)(f:Fre p pts):pts.length<=12:=by have:=hp.hi;have:=f.ln;omega
theorem vN(h:CT p pts=[]):∀ x∈Cf p,x∉pts->∃ q,fpr p pts x=Ab q:=λx hx hn=>by
 rw[QL]at h;have:=List.filter_eq_nil_iff.mp h x hx;unfold JW at this;cases e:fpr p pts x with
 |some q=>exact⟨q,rfl⟩
 |none=>
  rw[e]at this;simp[hn]at this
noncomputable def Iu:Ss:=(.cons (.asg 6 Ae (.call 231 (.cons (.var 0) (.cons (.call 228 (.cons (.var 1) (.cons (.bin .Add (.int 20) (.var 5)) .nil))) .nil)))) (.cons (.ife (.and (.cons (.cmp .Lt (.bi .len (.cons (.var 4) .nil)) (.var 3)) (.cons (.cmp .NotIn (.var 6) (.var 4)) (.cons (.cmp .Is (.call 234 (.cons (.var 0) (.cons (.bin .Add (.var 4) (.lst (.cons (.var 6) .nil))) .nil))) .non) .nil)))) (.cons (.app 4 (.var 6)) .nil) .nil) .nil))
noncomputable def Kh(j:Ad)(t:Ad:=3):Df:=⟨7,Ae,(.cons (.asg 2 Ae (.bin .Mod (.call 228 (.cons (.var 1) (.cons (.int 1) .nil))) (.int 2))) (.cons (.asg 3 Ae (.bin .Mod (.call 228 (.cons (.var 1) (.cons (.int 2) .nil))) (.bin .Add (.var 0) (.int j)))) (.cons (.ife (.cmp .Eq (.var 2) (.int 0)) (.cons (.ret (.sl (.call 251 (.cons (.var 1) (.cons (.int 20) (.cons (.call 290 (.cons (.var 0) (.cons (.call 250 (.cons (.var 0) (.cons (.var 1) (.cons (.int t) .nil)))) .nil))) .nil)))) .non (.var 3))) .nil) .nil) (.cons (.asg 4 Aa (.lst .nil)) (.cons (.fors 5 (.rng (.int 20)) Iu) (.cons (.ret (.var 4)) .nil))))))⟩
section
variable{Z:Gam}{p:Ad}{ns:Ac Ad}
structure HFs (Z:Gam) (ns:Ac Ad):Prop where
 tb:wH Z ns
 ov:ja Z
 ord:wI Z ns
 mix:KH Z 228 ns
 pt:LR Z
 f4:Z.fr 234=Ae
 th:∀(p:Ad)(pts:Ac R3),P4 p->(∀ x∈pts,NF p x)->pts.length<=1000->Z.F 234 [.int p,At pts]=.ok ((z0_ p pts).getD .non)
theorem lc{S X TH:D}{l:Ac D}{q n:Ad}{s2:Sl}{b1:Al}(em:Z.F 228 [S,.int (20+i)]=.ok (.int n))(ex:Z.F 231 [.int p,.int n]=.ok X)(ln:CN (l.length+1)=Aa)(fX:flD 5 X=Aa)(fl:∀ x∈l,flD 5 x=Aa)(hn:(∀ x∈l,eqD x X=Ae)↔b1=Aa)(et:Z.F 234 [.int p,.lst (l++[X])]=.ok TH){b2:Al}(hT:B7 .Is TH .non=.ok (.bl b2)):AY Z 5 Iu (.int i) [si p,sh S,s2,si q,Ab (.lst l,Aa),s5,s6]=.next [si p,sh S,s2,si q,Ab (.lst (if (decide ((l.length:Ad)<q)&&(b1&&b2))=Aa then l++[X] else l),Aa),si i,sh X]:=by
 by_cases c1:(l.length:Ad)<q
 .cases b1 with
  |false=>
   simp[AY,Iu,em,ex,fX,hn,c1];exact fl
  |true=>
   cases b2 with
   |false=>
    simp[AY,Iu,em,ex,fX,hn,c1,ln,et,hT];exact fl
   |true=>
    simp[AY,Iu,em,ex,fX,hn,c1,ln,et,hT,C3];exact fl
 .simp[AY,Iu,em,ex,c1]
theorem aW(d:Aq D)(h:∀ x,d=Ab x->∃ ds,x=.tup ds):B7 .Is (d.getD .non) .non=.ok (.bl d.isNone):=by
 cases d with
 |none=>rfl
 |some x=>
  obtain⟨ds,rfl⟩:=h x rfl;rfl
theorem zZ(hp:P4 p)(n:Ad):NF p (ptI p (n%(p*p+p+1))):=by
 have N1:0<p*p+p+1:=by rcases hp with rfl|rfl|rfl|rfl<;>decide
 have b0:=AS n (X4 N1);have b1:=AQ n N1;refine(Ha hp).mp (Bo.mpr ⟨(n%(p*p+p+1)).toNat,A5.mpr (by omega),?_⟩)
 show ptI p ((n%(p*p+p+1)).toNat:Ad)=_;rw[X7 b0]
theorem RN(h:HFs Z ns)(hp:P4 p){q:Ad}(q0:q<=p+1){s2:Sl}:∀(m:Ag)(i:Ag)(l:Ac R3)(s5 s6:Sl),Fre p l->(l.length:Ad)<=max q 0->∃ l' s5' s6',Fre p l'/\(l'.length:Ad)<=max q 0/\B5 (AY Z 5 Iu) (CJ i m) [si p,sh (scr ns),s2,si q,Ab (.lst (l.map (Aj Aa)),Aa),s5,s6]=.next [si p,sh (scr ns),s2,si q,Ab (.lst (l'.map (Aj Aa)),Aa),s5',s6']
 |0,i,l,s5,s6,f,hl=>⟨l,s5,s6,f,hl,rfl⟩
 |m+1,i,l,s5,s6,f,hl=>by
  have ph:=hp.hi;have pl:=hp.lo;have fln:=f.ln;obtain⟨n,n0,em⟩:=h.mix (20+i) (by omega)
  have ex:=h.pt p n hp;have nx:NF p (ptI p (n%(p*p+p+1))):=zZ hp n;generalize ptI p (n%(p*p+p+1))=x at *;have fl:∀ y∈l.map (Aj Aa),flD 5 y=Aa:=λy hy=>by
   obtain⟨z,_,rfl⟩:=Bo.mp hy;rfl
  have hn:(∀ y∈l.map (Aj Aa),eqD y (Aj Aa x)=Ae)↔(!decide (x∈l))=Aa:=by
   rw[BU,ES];constructor
   .intro z hx;have:=z _ (List.mem_map_of_mem hx);rw[LA]at this;simp at this
   .intro z y hy;obtain⟨w,hw,rfl⟩:=Bo.mp hy;rw[LA];exact Cb λe=>z (e ▸ hw)
  have et:Z.F 234 [.int p,.lst (l.map (Aj Aa)++[Aj Aa x])]=.ok ((z0_ p (l++[x])).getD .non):=by
   have q:=h.th p (l++[x]) hp (λy hy=>by
    rcases Dv.mp hy with z|z
    .exact f.nf y z
    .rw[AR.mp z];exact nx) (by simp;omega)
   unfold At at q;rw[EX]at q;exact q
  have hT:=aW (z0_ p (l++[x])) λy hy=>by
   obtain⟨_,_,_,_,_,_,e⟩:=lq hy;exact⟨_,e⟩
  have st:=lc (s2:=s2) (s5:=s5) (s6:=s6) (q:=q) em ex (show ET _ 1000000=Aa from CQ (by rw[AV];omega)) rfl fl hn et hT
  rw[AV]at st;rw[Qa];by_cases c:(decide ((l.length:Ad)<q)&&(!decide (x∈l)&&(z0_ p (l++[x])).isNone))=Aa
  .rw[AF c,show l.map (Aj Aa)++[Aj Aa x]=(l++[x]).map (Aj Aa) by rw[EX];rfl]at st
   simp only[Ap,Bj,BU,ES,YC]at c;obtain⟨c1,c2,c3⟩:=c;have f':Fre p (l++[x]):=⟨λy hy=>by
    rcases Dv.mp hy with z|z
    .exact f.nf y z
    .rw[AR.mp z];exact nx,F6.mpr ⟨f.nd,by simp,λa ha b hb=>by rw[AR.mp hb];exact λz=>c2 (z ▸ ha)⟩,c3,by rw[A4,Bq];omega⟩
   obtain⟨l',s5',s6',g,gl,ih⟩:=RN h hp q0 (s2:=s2) m (i+1) (l++[x]) (si i) (sh (Aj Aa x)) f' (by rw[A4,Bq];omega)
   refine⟨l',s5',s6',g,gl,?_⟩;show (AY Z 5 Iu (.int i) _).turn _=_;rw[st];exact ih
  .rw[AN c]at st;obtain⟨l',s5',s6',g,gl,ih⟩:=RN h hp q0 (s2:=s2) m (i+1) l (si i) (sh (Aj Aa x)) f hl;refine⟨l',s5',s6',g,gl,?_⟩;show (AY Z 5 Iu (.int i) _).turn _=_;rw[st];exact ih
theorem rT{S RR OO MM T:D}{m1 m2 j t:Ad}(hj:0<p+j)(e1:Z.F 228 [S,.int 1]=.ok (.int m1))(e2:Z.F 228 [S,.int 2]=.ok (.int m2))(h0:m1%2=0)(et:Z.F 250 [.int p,S,.int t]=.ok RR)(eo:Z.F 290 [.int p,RR]=.ok OO)(er:Z.F 251 [S,.int 20,OO]=.ok MM)(sl:slD MM Af (Ab (m2%(p+j)))=.ok T):(Kh j t).run Z [.int p,S]=.ok T:=by
 simp[Kh,Df.run,Bv,e1,e2,h0,hj,et,eo,er,sl,slE]
theorem rS{S:D}{L:Ac D}{m1 m2 j t:Ad}(hj:0<p+j)(e1:Z.F 228 [S,.int 1]=.ok (.int m1))(e2:Z.F 228 [S,.int 2]=.ok (.int m2))(h0:m1%2≠0)(rg:CF 0 20=.ok RL)(lp:B5 (AY Z 5 Iu) RL [si p,sh S,si (m1%2),si (m2%(p+j)),Ab (.lst [],Aa),Af,Af]=.next [si p,sh S,si (m1%2),si (m2%(p+j)),Ab (.lst L,Aa),s5,s6]):(Kh j t).run Z [.int p,S]=.ok (.lst L):=by
 simp[Kh,Df.run,Bv,e1,e2,h0,hj,rg,Do,lp]
theorem cY(h:HFs Z ns)(hp:P4 p){j:Ad}(j0:1<=j)(j1:j<=2)(t0:0<=t:=by decide):∃ l,Fre p l/\(l.length:Ad)<=p+j-1/\(Kh j t).run Z [.int p,scr ns]=.ok (At l):=by
 have ph:=hp.hi;have pl:=hp.lo;obtain⟨m1,_,e1⟩:=h.mix 1 (by decide)
 obtain⟨m2,_,e2⟩:=h.mix 2 (by decide)
 have b0:=AS m2 (show p+j≠0 by omega)
 have b1:=AQ m2 (show 0<p+j by omega)
 by_cases h0:m1%2=0
 .obtain⟨a,b,c,G,et⟩:=h.tb p t hp t0;have eo:=h.ov p a b c G;have ll:((EM p).map λx=>nrm p (ap a b c x)).length<=60:=by rw[AV];exact(kU hp).2
  have nO:∀ x∈((EM p).map λx=>nrm p (ap a b c x)),NF p x:=λx hx=>by
   obtain⟨w,hw,rfl⟩:=Bo.mp hx;obtain⟨_,l,el⟩:=Mz hp hw;obtain⟨k,ek⟩:=Ls hp G.nz el CgR.rfl;exact(Ku hp ek).1
  have dO:=sY hp G.nz;have zO:=sZ hp G.nz;obtain⟨M,pm,er⟩:=h.ord 20 _ (by decide) ll
  generalize ((EM p).map λx=>nrm p (ap a b c x))=OL at *
  have sl:=Ob M (i:=m2%(p+j)) (by omega)
  have mg:∀ x∈M.take (m2%(p+j)).toNat,x∈OL:=λx hx=>pm.mem_iff.mp (List.mem_of_mem_take hx)
  have dg:(M.take (m2%(p+j)).toNat).Nodup:=(pm.nodup_iff.mpr dO).sublist (HH _ _);have lt:=List.length_take_le (m2%(p+j)).toNat M;refine⟨_,⟨λx hx=>nO x (mg x hx),dg,WZ dg λx hx y hy z hz=>zO x (mg x hx) y (mg y hy) z (mg z hz),by omega⟩,by omega,rT (by omega) e1 e2 h0 et eo er sl⟩
 .obtain⟨l,s5,s6,f,fl,lp⟩:=RN h hp (q:=m2%(p+j)) (by omega) (s2:=si (m1%2)) 20 0 [] Af Af ⟨by simp,by simp,by rfl,by simp;omega⟩ (by simp;omega)
  exact⟨l,f,by omega,rS (by omega) e1 e2 h0 rfl (by exact lp)⟩
end
end
noncomputable def r11(y:Ag):Ac R3:=(AZ 11).map fun(z:Ag)=>((1,(y:Ad),(z:Ad)):R3)
section
variable{p:Ad}{C D O W Z_:C6}{a b c x y z:R3}
end
section
variable{Z:Gam}{ns:Ac Ad}{p:Ad}{C E:C6}{a b c:R3}
end
noncomputable def pl(p:Ad):C6:=⟨0,1,0,0,p-1,0⟩
theorem mF(h:NX Z)(p:Ad)(hp:P4 p):M5.run Z [.int p]=.ok (Ck (pl p)):=by
 have l1:AW p [0,1,0,0,-1,0]=Ab 1:=by rcases hp with rfl|rfl|rfl|rfl<;>decide
 have i1:E5 p 1 1:=by rcases hp with rfl|rfl|rfl|rfl<;>exact⟨by decide,by decide,by decide⟩
 have f1:fmI p 1 [0,1,0,0,-1,0]=(pl p).l:=by rcases hp with rfl|rfl|rfl|rfl<;>decide
 have e:=h p Aa _ 1 1 hp l1 i1;rw[f1]at e;have e':Z.F 122 [.int p,.tup [.int 0,.int 1,.int 0,.int 0,.int (-1),.int 0]]=.ok (Ck (pl p)):=e;generalize Ck (pl p)=X at *;simp[M5,Df.run,Bv,e']
theorem third{a b:R3}(hp:P4 p)(na:NF p a)(nb:NF p b)(ne:a≠b):∃ c,Am a b c%p≠0:=by
 refine BL λn=>?_
 have h:∀ c,Am a b c%p=0:=λc=>BL λz=>n ⟨c,z⟩
 have e:∀ c,AC (crs a b) c%p=0:=λc=>by rw[uJ];exact h c
 have c0:=e (1,0,0);have c1:=e (0,1,0);have c2:=e (0,0,1);unfold AC at c0 c1 c2;simp only[EA,CB,XX,Db]at c0 c1 c2;have z:CgR p (crs a b) (0,0,0):=⟨by show _%p=0%p;rw[c0,Be],by show _%p=0%p;rw[c1,Be],by show _%p=0%p;rw[c2,Be]⟩
 exact ne (Ly hp nb na (Nx hp z na.2 nb.2)).symm
noncomputable def lc2(a:Ad)(A:C6)(b:Ad)(B:C6):C6:=⟨a*A.c0+b*B.c0,a*A.c1+b*B.c1,a*A.c2+b*B.c2,a*A.c3+b*B.c3,a*A.c4+b*B.c4,a*A.c5+b*B.c5⟩
noncomputable def l3(a:Ad)(A:C6)(b:Ad)(B:C6)(c:Ad)(G:C6):C6:=⟨a*A.c0+b*B.c0+c*G.c0,a*A.c1+b*B.c1+c*G.c1,a*A.c2+b*B.c2+c*G.c2,a*A.c3+b*B.c3+c*G.c3,a*A.c4+b*B.c4+c*G.c4,a*A.c5+b*B.c5+c*G.c5⟩
section
variable{p:Ad}{x y z w:R3}{Q A B G L M:C6}
theorem Hb(hp:P4 p)(hx:NF p x)(hy:NF p y)(ne:x≠y):¬ CgR p (crs x y) (0,0,0):=λh=>ne (Ly hp hx hy (Pr.symm hp (Nx hp h hx.2 hy.2)))
theorem wF(x y z:R3):bk0 (x.1,y.1,z.1) (x.2.1,y.2.1,z.2.1) (x.2.2,y.2.2,z.2.2)=crs y z/\bk1 (x.1,y.1,z.1) (x.2.1,y.2.1,z.2.1) (x.2.2,y.2.2,z.2.2)=crs z x/\bk2 (x.1,y.1,z.1) (x.2.1,y.2.1,z.2.1) (x.2.2,y.2.2,z.2.2)=crs x y:=by
 refine⟨?_,?_,?_⟩<;>simp only[bk0,bk1,bk2,BG,BF,BE,crs]<;>refine BO ?_ (BO ?_ ?_)<;>simp only<;>grind
theorem nI(x y z:R3):Am (x.1,y.1,z.1) (x.2.1,y.2.1,z.2.1) (x.2.2,y.2.2,z.2.2)=Am x y z:=by
 unfold Am det;simp only;grind
theorem mV(b0 b1 b2:Ad)(r0 r1 r2:R3):pb ⟨0,0,0,b0,b1,b2⟩ r0 r1 r2=l3 b0 (prd r0 r1) b1 (prd r0 r2) b2 (prd r1 r2):=by
 simp only[pb,l3,prd,vI,bI,AC,ap,tw0,tw1,tw2,BG,BF,BE]
 congr 1<;>grind
theorem hG(hx:vI Q x%p=0)(hy:vI Q y%p=0)(hz:vI Q z%p=0):CgC p (scC (Am x y z*Am x y z) Q) (l3 (bI Q x y) (prd (crs y z) (crs z x)) (bI Q x z) (prd (crs y z) (crs x y)) (bI Q y z) (prd (crs z x) (crs x y))):=by
 obtain⟨e0,e1,e2⟩:=Wt (x.1,y.1,z.1) (x.2.1,y.2.1,z.2.1) (x.2.2,y.2.2,z.2.2);have h:=Xc Q (x.1,y.1,z.1) (x.2.1,y.2.1,z.2.1) (x.2.2,y.2.2,z.2.2) (bk0 (x.1,y.1,z.1) (x.2.1,y.2.1,z.2.1) (x.2.2,y.2.2,z.2.2)) (bk1 (x.1,y.1,z.1) (x.2.1,y.2.1,z.2.1) (x.2.2,y.2.2,z.2.2)) (bk2 (x.1,y.1,z.1) (x.2.1,y.2.1,z.2.1) (x.2.2,y.2.2,z.2.2));rw[e0,e1,e2,Xd,nI]at h;obtain⟨f0,f1,f2⟩:=wF x y z;rw[f0,f1,f2]at h;rw[<-h,<-mV];refine MQ ?_ ⟨Cg.rfl,Cg.rfl,Cg.rfl⟩ ⟨Cg.rfl,Cg.rfl,Cg.rfl⟩ ⟨Cg.rfl,Cg.rfl,Cg.rfl⟩;have k:∀{n:Ad},n%p=0->Cg p n 0:=λ{n} h=>by show n%p=0%p;rw[h,Be]
 exact⟨k hx,k hy,k hz,Cg.rfl,Cg.rfl,Cg.rfl⟩
theorem eH(x y z w:R3):Bs (Am x y z) w=(Am w y z*x.1+Am x w z*y.1+Am x y w*z.1,Am w y z*x.2.1+Am x w z*y.2.1+Am x y w*z.2.1,Am w y z*x.2.2+Am x w z*y.2.2+Am x y w*z.2.2):=by
 unfold Bs Am det;refine BO ?_ (BO ?_ ?_)<;>simp only<;>grind
theorem WY(x y z w:R3):Bs (Am x y z) (crs z w)=(Am w y z*(crs z x).1-Am x w z*(crs y z).1,Am w y z*(crs z x).2.1-Am x w z*(crs y z).2.1,Am w y z*(crs z x).2.2-Am x w z*(crs y z).2.2):=by
 unfold Bs Am det crs;refine BO ?_ (BO ?_ ?_)<;>simp only<;>grind
theorem W1(x y z w:R3):Bs (Am x y z) (crs y w)=(Am x y w*(crs y z).1-Am w y z*(crs x y).1,Am x y w*(crs y z).2.1-Am w y z*(crs x y).2.1,Am x y w*(crs y z).2.2-Am w y z*(crs x y).2.2):=by
 unfold Bs Am det crs;refine BO ?_ (BO ?_ ?_)<;>simp only<;>grind
theorem lw(x y z w:R3):Bs (Am x y z) (crs x w)=(Am x w z*(crs x y).1-Am x y w*(crs z x).1,Am x w z*(crs x y).2.1-Am x y w*(crs z x).2.1,Am x w z*(crs x y).2.2-Am x y w*(crs z x).2.2):=by
 unfold Bs Am det crs;refine BO ?_ (BO ?_ ?_)<;>simp only<;>grind
theorem eT(x y z w:R3):scC (Am x y z) (prd (crs x y) (crs z w))=lc2 (Am w y z) (prd (crs z x) (crs x y)) (-Am x w z) (prd (crs y z) (crs x y)):=by
 have e:=WY x y z w;unfold Bs at e;simp only[Jt]at e;obtain⟨e0,e1,e2⟩:=e;generalize Am x y z=d at *;generalize Am w y z=u0 at *;generalize Am x w z=u1 at *;generalize crs z w=c at *;generalize crs x y=r2 at *;generalize crs y z=r0 at *;generalize crs z x=r1 at *;simp only[scC,lc2,prd]
 congr 1<;>grind
theorem eR(x y z w:R3):scC (Am x y z) (prd (crs x z) (crs y w))=lc2 (Am w y z) (prd (crs z x) (crs x y)) (-Am x y w) (prd (crs y z) (crs z x)):=by
 have e:=W1 x y z w;have f:crs x z=Bs (-1) (crs z x):=by
  unfold Bs crs;refine BO ?_ (BO ?_ ?_)<;>simp only<;>grind
 rw[f];unfold Bs at e ⊢;simp only[Jt]at e;obtain⟨e0,e1,e2⟩:=e;generalize Am x y z=d at *;generalize Am w y z=u0 at *;generalize Am x y w=u2 at *;generalize crs y w=c at *;generalize crs x y=r2 at *;generalize crs y z=r0 at *;generalize crs z x=r1 at *;simp only[scC,lc2,prd]
 congr 1<;>grind
theorem z0{n:Ad}(h:n%p=0):Cg p n 0:=by show n%p=0%p;rw[h,Be]
theorem z0'{n:Ad}(h:Cg p n 0):n%p=0:=by
 have:n%p=0%p:=h;rw[this,Be]
theorem eE(hx:vI Q x%p=0)(hy:vI Q y%p=0)(hz:vI Q z%p=0)(hw:vI Q w%p=0):Cg p (Am w y z*Am x w z*bI Q x y+Am w y z*Am x y w*bI Q x z+Am x w z*Am x y w*bI Q y z) 0:=by
 have e:=NW Q x y z (Am w y z) (Am x w z) (Am x y w);rw[<-eH]at e;have f:vI Q (Bs (Am x y z) w)=Am x y z*Am x y z*vI Q w:=by
  unfold vI Bs;simp only;grind
 rw[f]at e;have h1:Cg p (Am x y z*Am x y z*vI Q w) 0:=(Cg.mul Cg.rfl (z0 hw)).trans (Cg.of (CB _));rw[e]at h1;have k:∀{a n:Ad},n%p=0->Cg p (a*a*n) 0:=λh=>(Cg.mul Cg.rfl (z0 h)).trans (Cg.of (CB _))
 have h2:=h1.sub (((k (a:=Am w y z) hx).add (k (a:=Am x w z) hy)).add (k (a:=Am x y w) hz));refine(Cg.of ?_).trans (h2.trans (Cg.of (by rfl)))
 generalize vI Q x=q0;generalize vI Q y=q1;generalize vI Q z=q2;generalize bI Q x y=b0;generalize bI Q x z=b1;generalize bI Q y z=b2;generalize Am w y z=u0;generalize Am x w z=u1;generalize Am x y w=u2;grind
def Spn(p:Ad)(Q L M:C6):Prop:=∃ g a b,g%p≠0/\CgC p (scC g Q) (lc2 a L b M)
section
variable{d u0 u1 u2 b0 b1 b2 q A B G l m:Ad}
theorem LZ(h:Cg p (d*d*q) (b0*A+b1*B+b2*G))(r:Cg p (u0*u1*b0+u0*u2*b1+u1*u2*b2) 0)(hl:d*l=u0*G + -u1*B)(hm:d*m=u0*G + -u2*A):Cg p (u1*u2*(d*d)*q) (-(u2*b1*d)*l + -(u1*b0*d)*m):=by
 have h1:=(Cg.rfl (p:=p) (a:=u1*u2)).mul h;have h2:=(Cg.rfl (p:=p) (a:=G)).mul r;have h3:=h1.sub h2.symm;refine(Cg.of (by clear h r h1 h2 h3 hl hm;grind)).trans (h3.trans (Cg.of ?_))
 clear h r h1 h2 h3
 have e1:-(u2*b1*d)*l=-(u2*b1)*(d*l):=by grind
 have e2:-(u1*b0*d)*m=-(u1*b0)*(d*m):=by grind
 rw[e1,e2,hl,hm];grind
theorem LY(h:Cg p (d*d*q) (b0*A+b1*B+b2*G))(h1:Cg p u1 0)(hb:Cg p b1 0)(hl:d*l=u0*G + -u1*B)(hm:d*m=u0*G + -u2*A):Cg p (u0*u2*(d*d)*q) ((u0*b0+u2*b2)*d*l + -(u0*b0*d)*m):=by
 have e1:=(Cg.rfl (p:=p) (a:=u0*u2)).mul h;have e2:=(Cg.rfl (p:=p) (a:=u0*u2*B)).mul hb;have e3:=(Cg.rfl (p:=p) (a:=(u0*b0+u2*b2)*B)).mul h1;have e4:=(e1.sub e2.symm).sub e3.symm;refine(Cg.of (by clear h e1 e2 e3 e4 hl hm;grind)).trans (e4.trans (Cg.of ?_))
 clear h e1 e2 e3 e4
 have f1:(u0*b0+u2*b2)*d*l=(u0*b0+u2*b2)*(d*l):=by grind
 have f2:-(u0*b0*d)*m=-(u0*b0)*(d*m):=by grind
 rw[f1,f2,hl,hm];grind
theorem LW(h:Cg p (d*d*q) (b0*A+b1*B+b2*G))(h2:Cg p u2 0)(hb:Cg p b0 0)(hl:d*l=u0*G + -u1*B)(hm:d*m=u0*G + -u2*A):Cg p (u0*u1*(d*d)*q) (-(u0*b1*d)*l+(u0*b1+u1*b2)*d*m):=by
 have e1:=(Cg.rfl (p:=p) (a:=u0*u1)).mul h;have e2:=(Cg.rfl (p:=p) (a:=u0*u1*A)).mul hb;have e3:=(Cg.rfl (p:=p) (a:=(u0*b1+u1*b2)*A)).mul h2;have e4:=(e1.sub e2.symm).sub e3.symm;refine(Cg.of (by clear h e1 e2 e3 e4 hl hm;grind)).trans (e4.trans (Cg.of ?_))
 clear h e1 e2 e3 e4
 have f1:-(u0*b1*d)*l=-(u0*b1)*(d*l):=by grind
 have f2:(u0*b1+u1*b2)*d*m=(u0*b1+u1*b2)*(d*m):=by grind
 rw[f1,f2,hl,hm];grind
end
theorem HB{a b c d:Ad}(ha:Cg p a 0)(hb:Cg p b 0):Cg p (a*c-b*d) 0:=((ha.mul Cg.rfl).sub (hb.mul Cg.rfl)).trans (Cg.of (by rw[DA,DA];rfl))
theorem Q2(hp:P4 p)(dz:d%p≠0)(h:CgR p (Bs d r) (0,0,0)):CgR p r (0,0,0):=⟨z0 ((Fq hp dz).mp (z0' h.1)),z0 ((Fq hp dz).mp (z0' h.2.1)),z0 ((Fq hp dz).mp (z0' h.2.2))⟩
theorem W4(hp:P4 p)(dz:Am x y z%p≠0)(hx:vI Q x%p=0)(hy:vI Q y%p=0)(hz:vI Q z%p=0)(hw:vI Q w%p=0)(n0:¬ CgR p (crs x w) (0,0,0))(n1:¬ CgR p (crs y w) (0,0,0))(n2:¬ CgR p (crs z w) (0,0,0)):Spn p Q (prd (crs x y) (crs z w)) (prd (crs x z) (crs y w)):=by
 have t:=hG (Q:=Q) hx hy hz;have r:=eE (Q:=Q) hx hy hz hw;have eL:=eT x y z w;have eM:=eR x y z w;have m01:¬ (Cg p (Am w y z) 0/\Cg p (Am x w z) 0):=λ⟨a,b⟩=>n2 (Q2 hp dz (by rw[WY];exact⟨HB a b,HB a b,HB a b⟩))
 have m02:¬ (Cg p (Am w y z) 0/\Cg p (Am x y w) 0):=λ⟨a,b⟩=>n1 (Q2 hp dz (by rw[W1];exact⟨HB b a,HB b a,HB b a⟩))
 have m12:¬ (Cg p (Am x w z) 0/\Cg p (Am x y w) 0):=λ⟨a,b⟩=>n0 (Q2 hp dz (by rw[lw];exact⟨HB a b,HB a b,HB a b⟩))
 generalize prd (crs x y) (crs z w)=L at *;generalize prd (crs x z) (crs y w)=M at *;generalize prd (crs z x) (crs x y)=G at *;generalize prd (crs y z) (crs x y)=B at *;generalize prd (crs y z) (crs z x)=A at *;generalize bI Q x y=b0 at *;generalize bI Q x z=b1 at *;generalize bI Q y z=b2 at *;generalize Am x y z=d at *;generalize Am w y z=u0 at *;generalize Am x w z=u1 at *;generalize Am x y w=u2 at *;obtain⟨t0,t1,t2,t3,t4,t5⟩:=t;simp only[scC,l3]at t0 t1 t2 t3 t4 t5;simp only[scC,lc2,C6.mk.injEq]at eL eM;obtain⟨l0,l1,l2,l3,l4,l5⟩:=eL;obtain⟨k0,k1,k2,k3,k4,k5⟩:=eM;have dd:=B6 hp dz dz;by_cases c1:Cg p u1 0
 .have v0:u0%p≠0:=λh=>m01 ⟨z0 h,c1⟩
  have v2:u2%p≠0:=λh=>m12 ⟨c1,z0 h⟩
  have hb:Cg p b1 0:=by
   have e:Cg p (u0*u2*b1) 0:=by
    have h1:=((c1.mul (Cg.rfl (a:=u0*b0))).add (c1.mul (Cg.rfl (a:=u2*b2))));exact(Cg.of (by clear r h1;grind)).trans ((r.sub h1).trans (Cg.of (by clear r h1;grind)))
   exact z0 ((Fq hp (B6 hp v0 v2)).mp (z0' e))
  exact⟨u0*u2*(d*d),_,_,B6 hp (B6 hp v0 v2) dd,LY t0 c1 hb l0 k0,LY t1 c1 hb l1 k1,LY t2 c1 hb l2 k2,LY t3 c1 hb l3 k3,LY t4 c1 hb l4 k4,LY t5 c1 hb l5 k5⟩
 .have v1:u1%p≠0:=λh=>c1 (z0 h)
  by_cases c2:Cg p u2 0
  .have v0:u0%p≠0:=λh=>m02 ⟨z0 h,c2⟩
   have hb:Cg p b0 0:=by
    have e:Cg p (u0*u1*b0) 0:=by
     have h1:=((c2.mul (Cg.rfl (a:=u0*b1))).add (c2.mul (Cg.rfl (a:=u1*b2))));exact(Cg.of (by clear r h1;grind)).trans ((r.sub h1).trans (Cg.of (by clear r h1;grind)))
    exact z0 ((Fq hp (B6 hp v0 v1)).mp (z0' e))
   exact⟨u0*u1*(d*d),_,_,B6 hp (B6 hp v0 v1) dd,LW t0 c2 hb l0 k0,LW t1 c2 hb l1 k1,LW t2 c2 hb l2 k2,LW t3 c2 hb l3 k3,LW t4 c2 hb l4 k4,LW t5 c2 hb l5 k5⟩
  .have v2:u2%p≠0:=λh=>c2 (z0 h)
   exact⟨u1*u2*(d*d),_,_,B6 hp (B6 hp v1 v2) dd,LZ t0 r l0 k0,LZ t1 r l1 k1,LZ t2 r l2 k2,LZ t3 r l3 k3,LZ t4 r l4 k4,LZ t5 r l5 k5⟩
theorem lg(hp:P4 p)(hd:Am x y z%p≠0\/Am x y w%p≠0)(hx:vI Q x%p=0)(hy:vI Q y%p=0)(hz:vI Q z%p=0)(hw:vI Q w%p=0)(ax:NF p x)(ay:NF p y)(az:NF p z)(aw:NF p w)(xz:x≠z)(yz:y≠z)(zw:z≠w)(xw:x≠w)(yw:y≠w):Spn p Q (prd (crs x y) (crs z w)) (prd (crs x z) (crs y w)):=by
 rcases hd with hd|hd
 .exact W4 hp hd hx hy hz hw (Hb hp ax aw xw) (Hb hp ay aw yw) (Hb hp az aw zw)
 .have hd':Am y x w%p≠0:=by
   have e:Am y x w=-1*Am x y w:=by unfold Am det;grind
   rw[e];exact B6 hp hp.m1 hd
  have q:=W4 hp hd' hy hx hw hz (Hb hp ay az yz) (Hb hp ax az xz) (Hb hp aw az zw.symm);have e1:prd (crs y x) (crs w z)=prd (crs x y) (crs z w):=by
   unfold prd crs;congr 1<;>grind
  have e2:prd (crs y w) (crs x z)=prd (crs x z) (crs y w):=by
   unfold prd;congr 1<;>grind
  rw[e1,e2]at q;exact q
theorem Wk(a b:Ad)(v:R3):vI (lc2 a L b M) v=a*vI L v+b*vI M v:=by
 unfold vI lc2;simp only;grind
theorem i7{a a' b b':Ad}{L' M':C6}(ha:Cg p a a')(hL:CgC p L L')(hb:Cg p b b')(hM:CgC p M M'):CgC p (lc2 a L b M) (lc2 a' L' b' M'):=
 ⟨(ha.mul hL.1).add (hb.mul hM.1),(ha.mul hL.2.1).add (hb.mul hM.2.1),(ha.mul hL.2.2.1).add (hb.mul hM.2.2.1),(ha.mul hL.2.2.2.1).add (hb.mul hM.2.2.2.1),(ha.mul hL.2.2.2.2.1).add (hb.mul hM.2.2.2.2.1),(ha.mul hL.2.2.2.2.2).add (hb.mul hM.2.2.2.2.2)⟩
theorem Wd{l:Ad}(hp:P4 p)(lQ:AW p Q.l=Ab l)(h:CgC p Q ⟨0,0,0,0,0,0⟩):Bu:=by
 have:AW p Q.l=Af:=Jg.mpr λn hn=>by
  simp only[C6.l,Au,AO,BM]at hn;obtain⟨h0,h1,h2,h3,h4,h5⟩:=h;rcases hn with rfl|rfl|rfl|rfl|rfl|rfl
  .exact z0' h0
  .exact z0' h1
  .exact z0' h2
  .exact z0' h3
  .exact z0' h4
  .exact z0' h5
 rw[this]at lQ;cases lQ
theorem Vg(hp:P4 p)(dz:d%p≠0)(h:CgC p (scC d Q) ⟨0,0,0,0,0,0⟩):CgC p Q ⟨0,0,0,0,0,0⟩:=⟨z0 ((Fq hp dz).mp (z0' h.1)),z0 ((Fq hp dz).mp (z0' h.2.1)),z0 ((Fq hp dz).mp (z0' h.2.2.1)),z0 ((Fq hp dz).mp (z0' h.2.2.2.1)),z0 ((Fq hp dz).mp (z0' h.2.2.2.2.1)),z0 ((Fq hp dz).mp (z0' h.2.2.2.2.2))⟩
theorem ag(hp:P4 p){l k n:Ad}{F:C6}(lQ:AW p Q.l=Ab l)(kz:k%p≠0)(h:CgC p (scC k Q) (scC n F)):PrC p F Q:=by
 have nz:n%p≠0:=λz=>by
  refine Wd hp lQ (Vg hp kz (h.trans ?_));have q:∀ c:Ad,Cg p (n*c) 0:=λc=>((z0 z).mul Cg.rfl).trans (Cg.of (DA c))
  exact⟨q _,q _,q _,q _,q _,q _⟩
 exact(PrC.symm hp ⟨n,nz,CgC.rfl⟩).trans hp (PrC.trans hp ⟨1,hp.o1,(h.symm).trans (CgC.of (JS _).symm)⟩ ⟨k,kz,CgC.rfl⟩)
theorem vJ(hp:P4 p){l:Ad}{v:R3}(lQ:AW p Q.l=Ab l)(s:Spn p Q L M)(hv:vI Q v%p=0)(n:¬ (vI L v%p=0/\vI M v%p=0)):PrC p (lc2 (vI M v) L (-vI L v) M) Q:=by
 obtain⟨g,a,b,gz,e⟩:=s;have e1:Cg p (a*vI L v+b*vI M v) 0:=by
  have q:=Jk (x:=v) (x':=v) e ⟨Cg.rfl,Cg.rfl,Cg.rfl⟩;rw[Q4,Wk]at q;exact q.symm.trans ((Cg.mul Cg.rfl (z0 hv)).trans (Cg.of (CB _)))
 generalize vI L v=L4 at *;generalize vI M v=M4 at *;have key:∀(k c:Ad),k%p≠0->(∀ A B:Ad,Cg p (k*(a*A+b*B)) (c*(M4*A + -L4*B)))->PrC p (lc2 M4 L (-L4) M) Q:=λk c kz h=>by
  refine ag hp (k:=k*g) (n:=c) lQ (B6 hp kz gz) ?_;have e':CgC p (scC (k*g) Q) (scC k (lc2 a L b M)):=by
   rw[<-Kz];exact CgC.sc Cg.rfl e
  exact e'.trans ⟨h _ _,h _ _,h _ _,h _ _,h _ _,h _ _⟩
 by_cases c:L4%p=0
 .have c':M4%p≠0:=λz=>n ⟨c,z⟩
  refine key M4 a c' λA B=>?_
  have h:=(Cg.rfl (p:=p) (a:=B)).mul e1;refine(Cg.of ?_).trans (((Cg.rfl (p:=p) (a:=a*(M4*A + -L4*B))).add h).trans (Cg.of ?_))
  .clear e e1 h key;grind
  .clear e e1 h key;grind
 .refine key L4 (-b) c λA B=>?_
  have h:=(Cg.rfl (p:=p) (a:=A)).mul e1;refine(Cg.of ?_).trans (((Cg.rfl (p:=p) (a:=-b*(M4*A + -L4*B))).add h).trans (Cg.of ?_))
  .clear e e1 h key;grind
  .clear e e1 h key;grind
end
noncomputable def S6:Ss:=(.cons (.ife (.cmp .In (.var 2) (.sl (.var 0) .non (.var 1))) (.cons (.rais 107 (.cons (.var 2) .nil)) .nil) .nil) .nil)
--
noncomputable def Nk:Df:=⟨3,Ae,(.cons (.forT [1,2] (.enm (.var 0)) S6) .nil)⟩
--
noncomputable def M9:Ss:=(.cons (.asg 3 Ae (.bin .Add (.sl (.var 1) .non (.var 2)) (.sl (.var 1) (.bin .Add (.var 2) (.int 1)) .non))) (.cons (.ife (.and (.cons (.cmp .Eq (.call 61 (.cons (.var 0) (.cons (.idx (.var 3) (.int 0)) (.cons (.idx (.var 3) (.int 1)) (.cons (.idx (.var 3) (.int 2)) .nil))))) (.int 0)) (.cons (.cmp .Eq (.call 61 (.cons (.var 0) (.cons (.idx (.var 3) (.int 0)) (.cons (.idx (.var 3) (.int 1)) (.cons (.idx (.var 3) (.int 3)) .nil))))) (.int 0)) .nil))) (.cons (.ret (.bi .tuple (.cons (.var 3) .nil))) .nil) .nil) .nil))
--
noncomputable def Nj:Df:=⟨4,Ae,(.cons (.fors 2 (.e (.tup (.cons (.int 4) (.cons (.int 3) (.cons (.int 2) (.cons (.int 1) (.cons (.int 0) .nil))))))) M9) (.cons (.ret .non) .nil))⟩
--
noncomputable def Pf:Df:=⟨2,Ae,(.cons (.ret (.tup (.cons (.bin .Mult (.idx (.var 0) (.int 0)) (.idx (.var 1) (.int 0))) (.cons (.bin .Mult (.idx (.var 0) (.int 1)) (.idx (.var 1) (.int 1))) (.cons (.bin .Mult (.idx (.var 0) (.int 2)) (.idx (.var 1) (.int 2))) (.cons (.bin .Add (.bin .Mult (.idx (.var 0) (.int 0)) (.idx (.var 1) (.int 1))) (.bin .Mult (.idx (.var 0) (.int 1)) (.idx (.var 1) (.int 0)))) (.cons (.bin .Add (.bin .Mult (.idx (.var 0) (.int 0)) (.idx (.var 1) (.int 2))) (.bin .Mult (.idx (.var 0) (.int 2)) (.idx (.var 1) (.int 0)))) (.cons (.bin .Add (.bin .Mult (.idx (.var 0) (.int 1)) (.idx (.var 1) (.int 2))) (.bin .Mult (.idx (.var 0) (.int 2)) (.idx (.var 1) (.int 1)))) .nil)))))))) .nil)⟩
noncomputable def O7:E:=(.bin .Sub (.bin .Mult (.var 4) (.var 6)) (.bin .Mult (.var 5) (.var 7)))
--
noncomputable def Ni:Df:=⟨8,Ae,(.cons (.asg 2 Ae (.call 196 (.cons (.call 57 (.cons (.var 0) (.cons (.idx (.var 1) (.int 0)) (.cons (.idx (.var 1) (.int 1)) .nil)))) (.cons (.call 57 (.cons (.var 0) (.cons (.idx (.var 1) (.int 2)) (.cons (.idx (.var 1) (.int 3)) .nil)))) .nil)))) (.cons (.asg 3 Ae (.call 196 (.cons (.call 57 (.cons (.var 0) (.cons (.idx (.var 1) (.int 0)) (.cons (.idx (.var 1) (.int 2)) .nil)))) (.cons (.call 57 (.cons (.var 0) (.cons (.idx (.var 1) (.int 1)) (.cons (.idx (.var 1) (.int 3)) .nil)))) .nil)))) (.cons (.asg 4 Ae (.call 126 (.cons (.var 0) (.cons (.var 3) (.cons (.idx (.var 1) (.int 4)) .nil))))) (.cons (.asg 5 Ae (.call 126 (.cons (.var 0) (.cons (.var 2) (.cons (.idx (.var 1) (.int 4)) .nil))))) (.cons (.ret (.call 122 (.cons (.var 0) (.cons (.compT O7 [6,7] (.zip (.var 2) (.var 3)) CM) .nil)))) .nil)))))⟩
--
noncomputable def Na:Df:=⟨3,Ae,(.cons (.ife (.cmp .NotEq (.bi .len (.cons (.var 1) .nil)) (.int 5)) (.cons (.rais 13 (.cons (.str (By "a curve is told by five points")) .nil)) .nil) .nil) (.cons (.expr (.call 194 (.cons (.var 1) .nil))) (.cons (.asg 2 Ae (.call 195 (.cons (.var 0) (.cons (.var 1) .nil)))) (.cons (.ife (.cmp .IsNot (.var 2) .non) (.cons (.rais 118 (.cons (.var 2) .nil)) .nil) .nil) (.cons (.ret (.call 197 (.cons (.var 0) (.cons (.var 1) .nil)))) .nil)))))⟩
section
variable{Z:Gam}{p:Ad}{P0 P1 P2 P3 P4:D}
noncomputable def five(P0 P1 P2 P3 P4:D):D:=.lst [P0,P1,P2,P3,P4]
theorem zV(f0:flD 5 P0=Aa)(f1:flD 5 P1=Aa)(f2:flD 5 P2=Aa)(f3:flD 5 P3=Aa)(f4:flD 5 P4=Aa)(n01:eqD P0 P1=Ae)(n02:eqD P0 P2=Ae)(n03:eqD P0 P3=Ae)(n04:eqD P0 P4=Ae)(n12:eqD P1 P2=Ae)(n13:eqD P1 P3=Ae)(n14:eqD P1 P4=Ae)(n23:eqD P2 P3=Ae)(n24:eqD P2 P4=Ae)(n34:eqD P3 P4=Ae):Nk.run Z [five P0 P1 P2 P3 P4]=.ok .non:=by
 simp[five,Nk,Df.run,Bv,EH,B5,En,S6,KP,GX,f0,f1,f2,f3,f4,n01,n02,n03,n04,n12,n13,n14,n23,n24,n34]
theorem MC{k a b:Ad}{q0 q1 q2 q3:D}{u v:Ac D}{s2:Sl}(c0:slD PP Af (Ab k)=.ok (.lst u))(c1:slD PP (Ab (k+1)) Af=.ok (.lst v))(ad:Dg .Add (.lst u) (.lst v)=.ok (.lst [q0,q1,q2,q3]))(e0:Z.F 61 [.int p,q0,q1,q2]=.ok (.int a))(e1:Z.F 61 [.int p,q0,q1,q3]=.ok (.int b))(h:¬ (a=0/\b=0)):AY Z 2 M9 (.int k) [si p,sh PP,s2,s3]=.next [si p,sh PP,si k,sh (.lst [q0,q1,q2,q3])]:=by
 have i0:Cr (.lst [q0,q1,q2,q3]) (.int 0)=.ok q0:=rfl;have i1:Cr (.lst [q0,q1,q2,q3]) (.int 1)=.ok q1:=rfl;have i2:Cr (.lst [q0,q1,q2,q3]) (.int 2)=.ok q2:=rfl;have i3:Cr (.lst [q0,q1,q2,q3]) (.int 3)=.ok q3:=rfl;generalize D.lst [q0,q1,q2,q3]=FF at *;generalize D.lst u=U_ at *;generalize D.lst v=V at *;by_cases ha:a=0
 .have hb:b≠0:=λz=>h ⟨ha,z⟩
  simp[AY,M9,c0,c1,ad,i0,i1,i2,i3,e0,e1,ha,hb]
 .simp[AY,M9,c0,c1,ad,i0,i1,i2,i3,e0,e1,ha]
theorem cZ{m012 m013 m014 m023 m024 m123 m124:Ad}(e012:Z.F 61 [.int p,P0,P1,P2]=.ok (.int m012))(e013:Z.F 61 [.int p,P0,P1,P3]=.ok (.int m013))(e014:Z.F 61 [.int p,P0,P1,P4]=.ok (.int m014))(e023:Z.F 61 [.int p,P0,P2,P3]=.ok (.int m023))(e024:Z.F 61 [.int p,P0,P2,P4]=.ok (.int m024))(e123:Z.F 61 [.int p,P1,P2,P3]=.ok (.int m123))(e124:Z.F 61 [.int p,P1,P2,P4]=.ok (.int m124))(h4:¬ (m012=0/\m013=0))(h3:¬ (m012=0/\m014=0))(h2:¬ (m013=0/\m014=0))(h1:¬ (m023=0/\m024=0))(h0:¬ (m123=0/\m124=0)):Nj.run Z [.int p,five P0 P1 P2 P3 P4]=.ok .non:=by
 have t4:=fun(s2 s3:Sl)=>MC (Z:=Z) (p:=p) (k:=4) (PP:=five P0 P1 P2 P3 P4) (s2:=s2) (s3:=s3) rfl rfl rfl e012 e013 h4
 have t3:=fun(s2 s3:Sl)=>MC (Z:=Z) (p:=p) (k:=3) (PP:=five P0 P1 P2 P3 P4) (s2:=s2) (s3:=s3) rfl rfl rfl e012 e014 h3
 have t2:=fun(s2 s3:Sl)=>MC (Z:=Z) (p:=p) (k:=2) (PP:=five P0 P1 P2 P3 P4) (s2:=s2) (s3:=s3) rfl rfl rfl e013 e014 h2
 have t1:=fun(s2 s3:Sl)=>MC (Z:=Z) (p:=p) (k:=1) (PP:=five P0 P1 P2 P3 P4) (s2:=s2) (s3:=s3) rfl rfl rfl e023 e024 h1
 have t0:=fun(s2 s3:Sl)=>MC (Z:=Z) (p:=p) (k:=0) (PP:=five P0 P1 P2 P3 P4) (s2:=s2) (s3:=s3) rfl rfl rfl e123 e124 h0
 generalize five P0 P1 P2 P3 P4=PP at *;simp[Nj,Df.run,Bv,B5,t4,t3,t2,t1,t0]
theorem bu{R:D}(e1:Z.F 194 [five P0 P1 P2 P3 P4]=.ok .non)(e2:Z.F 195 [.int p,five P0 P1 P2 P3 P4]=.ok .non)(e3:Z.F 197 [.int p,five P0 P1 P2 P3 P4]=.ok R):Na.run Z [.int p,five P0 P1 P2 P3 P4]=.ok R:=by
 have ln:biD .len [five P0 P1 P2 P3 P4]=.ok (.int 5):=rfl;generalize five P0 P1 P2 P3 P4=PP at *;simp[Na,Df.run,Bv,ln,e1,e2,e3]
end
structure Five (p:Ad) (C:C6) (pts:Ac R3):Prop where
 len:pts.length=5
 nd:pts.Nodup
 nf:∀ x∈pts,NF p x
 on:∀ x∈pts,vI C x%p=0
 n4:∀ n:R3,¬ CgR p n (0,0,0)->(pts.filter λx=>decide (AC n x%p=0)).length<=3
theorem NN{l:Ac α}(h:l.length=5):∃ a b c d e,l=[a,b,c,d,e]:=by
  match l,h with
  |[a,b,c,d,e],_=>exact⟨a,b,c,d,e,rfl⟩
theorem P9(a b c d e:R3):At [a,b,c,d,e]=five (Aj Aa a) (Aj Aa b) (Aj Aa c) (Aj Aa d) (Aj Aa e):=rfl
theorem MB(a:R3):flD 5 (Aj Aa a)=Aa:=rfl
section
variable{Z:Gam}{p:Ad}{C:C6}
def Uz(Z:Gam):Prop:=∀(p:Ad)(C:C6)(pts:Ac R3),Five p C pts->Z.F 194 [At pts]=.ok .non
theorem mL(Z:Gam)(p:Ad)(C:C6)(pts:Ac R3)(h:Five p C pts):Nk.run Z [At pts]=.ok .non:=by
 obtain⟨a,b,c,d,e,rfl⟩:=NN h.len;have nd:=h.nd;simp only[BJ,Au,AO,BM,Dh,Et,DM,Hi]at nd;obtain⟨⟨n01,n02,n03,n04⟩,⟨n12,n13,n14⟩,⟨n23,n24⟩,n34⟩:=nd;rw[P9];have k:∀{x y:R3},¬ x=y->eqD (Aj Aa x) (Aj Aa y)=Ae:=λh=>by rw[LA];exact Cb h
 exact zV (MB _) (MB _) (MB _) (MB _) (MB _) (k n01) (k n02) (k n03) (k n04) (k n12) (k n13) (k n14) (k n23) (k n24) (k n34)
theorem VA{a b c d e:R3}(hp:P4 p)(h:Five p C [a,b,c,d,e]):∀ n:R3,¬ CgR p n (0,0,0)->(decide (AC n a%p=0)).toNat+(decide (AC n b%p=0)).toNat+(decide (AC n c%p=0)).toNat+(decide (AC n d%p=0)).toNat+(decide (AC n e%p=0)).toNat<=3:=λn hn=>by
 have:=h.n4 n hn;have k:∀(q:R3->Al)(x:R3)(l:Ac R3),((x::l).filter q).length=(q x).toNat+(l.filter q).length:=λq x l=>by
  rw[DK];cases q x<;>simp<;>omega
 rw[k,k,k,k,k]at this;simp only[List.filter_nil,List.length_nil]at this;omega
theorem JZ(x y z:R3):AC (crs x y) z=Am x y z:=by
 unfold AC crs Am det;grind
def VU(Z:Gam):Prop:=∀(p:Ad)(C:C6)(pts:Ac R3),P4 p->Five p C pts->Z.F 195 [.int p,At pts]=.ok .non
theorem qU(hm:Hw Z)(p:Ad)(C:C6)(pts:Ac R3)(hp:P4 p)(h:Five p C pts):Nj.run Z [.int p,At pts]=.ok .non:=by
 obtain⟨a,b,c,d,e,rfl⟩:=NN h.len;have nd:=h.nd;simp only[BJ,Au,AO,BM,Dh,Et,DM,Hi]at nd;obtain⟨⟨n01,n02,n03,n04⟩,⟨n12,n13,n14⟩,⟨n23,n24⟩,n34⟩:=nd;have na:=h.nf a (by simp)
 have nb:=h.nf b (by simp)
 have nc:=h.nf c (by simp)
 have nd:=h.nf d (by simp)
 have ne:=h.nf e (by simp)
 have B:∀{x:R3},NF p x->B3 x:=λhx=>(Cy hp hx.1).b3 (by decide)
 have m:∀{x y z:R3},NF p x->NF p y->NF p z->Z.F 61 [.int p,Aj Aa x,Aj Aa y,Aj Aa z]=.ok (.int (Am x y z%p)):=λhx hy hz=>hm p Aa _ _ _ hp.pos (B hx) (B hy) (B hz)
 have key:∀ x y:R3,NF p x->NF p y->x≠y->(decide (AC (crs x y) a%p=0)).toNat+(decide (AC (crs x y) b%p=0)).toNat+(decide (AC (crs x y) c%p=0)).toNat+(decide (AC (crs x y) d%p=0)).toNat+(decide (AC (crs x y) e%p=0)).toNat<=3:=λx y hx hy hne=>VA hp h _ (Hb hp hx hy hne)
 have z:∀ x y:R3,decide (AC (crs x y) x%p=0)=Aa/\decide (AC (crs x y) y%p=0)=Aa:=λx y=>by
  obtain⟨h1,h2⟩:=QO x y;rw[h1,h2];exact⟨AU (Be p),AU (Be p)⟩
 have fin:∀{x y u v:R3},(decide (AC (crs x y) u%p=0)=Aa->decide (AC (crs x y) v%p=0)=Aa->Bu)->¬ (Am x y u%p=0/\Am x y v%p=0):=λf ⟨h1,h2⟩=>by
  rw[<-JZ]at h1 h2;exact f (AU h1) (AU h2)
 rw[P9];refine cZ (m na nb nc) (m na nb nd) (m na nb ne) (m na nc nd) (m na nc ne) (m nb nc nd) (m nb nc ne) (fin λh1 h2=>?_) (fin λh1 h2=>?_) (fin λh1 h2=>?_) (fin λh1 h2=>?_) (fin λh1 h2=>?_)
 .have q:=key a b na nb n01;rw[(z a b).1,(z a b).2,h1,h2]at q;simp only[C8]at q;omega
 .have q:=key a b na nb n01;rw[(z a b).1,(z a b).2,h1,h2]at q;simp only[C8]at q;omega
 .have q:=key a b na nb n01;rw[(z a b).1,(z a b).2,h1,h2]at q;simp only[C8]at q;omega
 .have q:=key a c na nc n02;rw[(z a c).1,(z a c).2,h1,h2]at q;simp only[C8]at q;omega
 .have q:=key b c nb nc n12;rw[(z b c).1,(z b c).2,h1,h2]at q;simp only[C8]at q;omega
def WW(Z:Gam):Prop:=∀(p:Ad)(a b:R3),P4 p->In3 p a->In3 p b->Z.F 196 [Aj Aa a,Aj Aa b]=.ok (Ck (prd a b))
theorem cu(Z:Gam)(p:Ad)(a b:R3)(hp:P4 p)(ia:In3 p a)(ib:In3 p b):Pf.run Z [Aj Aa a,Aj Aa b]=.ok (Ck (prd a b)):=by
 have ba:=Cy hp ia;have bb:=Cy hp ib;have k:∀ {u v},Bd 10 u->Bd 10 v->Fh u v=Aa:=λhu hv=>GV hu hv (by decide) (by decide)
 obtain⟨x0,x1,x2⟩:=Fs Aa a;obtain⟨y0,y1,y2⟩:=Fs Aa b;simp[Pf,Df.run,Bv,x0,x1,x2,y0,y1,y2,k ba.1 bb.1,k ba.2.1 bb.2.1,k ba.2.2 bb.2.2,k ba.1 bb.2.1,k ba.2.1 bb.1,k ba.1 bb.2.2,k ba.2.2 bb.1,k ba.2.1 bb.2.2,k ba.2.2 bb.2.1];rfl
theorem N6{a b:R3}(hp:P4 p)(ia:In3 p a)(ib:In3 p b):BC (prd a b):=by
 have hh:=hp.hi;have k:∀{x y:Ad},0<=x/\x<p->0<=y/\y<p->0<=x*y/\x*y<=100:=λ{x y} hx hy=>by
  refine⟨IJ hx.1 hy.1,?_⟩;exact Jz (X2 (show x<=10 by omega) (show y<=10 by omega) hy.1 (by decide)) (by decide)
 have b1:∀{n:Ad},0<=n/\n<=100->Bd 10 n:=λh=>by unfold Bd;omega
 have b2:∀{m n:Ad},0<=m/\m<=100->0<=n/\n<=100->Bd 10 (m+n):=λh g=>by unfold Bd;omega
 obtain⟨a0,a1,a2⟩:=ia;obtain⟨b0,b1',b2'⟩:=ib;exact⟨b1 (k a0 b0),b1 (k a1 b1'),b1 (k a2 b2'),b2 (k a0 b1') (k a1 b0),b2 (k a0 b2') (k a2 b0),b2 (k a1 b2') (k a2 b1')⟩
def WT(Z:Gam):Prop:=∀(p:Ad)(C:C6)(x:R3),P4 p->BC C->In3 p x->Z.F 126 [.int p,Ck C,Aj Aa x]=.ok (.int (vI C x%p))
theorem bq(hr:Ib Z)(p:Ad)(C:C6)(x:R3)(hp:P4 p)(bC:BC C)(ix:In3 p x):Mv.run Z [.int p,Ck C,Aj Aa x]=.ok (.int (vI C x%p)):=by
 obtain⟨i0,i1,i2,i3,i4,i5⟩:=ix6 C;obtain⟨x0,x1,x2⟩:=Fs Aa x;have bx:=Cy hp ix;have k:∀ {u v},Bd 10 u->Bd 10 v->Fh u v=Aa:=λhu hv=>GV hu hv (by decide) (by decide)
 have k2:∀ {u v w},Bd 10 u->Bd 10 v->Bd 10 w->Fh (u*v) w=Aa:=λhu hv hw=>GV (hu.mul hv) hw (by decide) (by decide)
 simp[Mv,Df.run,Bv,i0,i1,i2,i3,i4,i5,x0,x1,x2,k bC.b0 bx.1,k bC.b1 bx.2.1,k bC.b2 bx.2.2,k bC.b3 bx.1,k bC.b4 bx.1,k bC.b5 bx.2.1,k2 bC.b0 bx.1 bx.1,k2 bC.b1 bx.2.1 bx.2.1,k2 bC.b2 bx.2.2 bx.2.2,k2 bC.b3 bx.1 bx.2.1,k2 bC.b4 bx.1 bx.2.2,k2 bC.b5 bx.2.1 bx.2.2,hr p _ hp.pos];rfl
theorem gf{P0 P1 P2 P3 P4 A B A' B' R:D}{L M:C6}{l m:Ad}(bL:BC L)(bM:BC M)(bl:Bd 10 l)(bm:Bd 10 m)(e01:Z.F 57 [.int p,P0,P1]=.ok A)(e23:Z.F 57 [.int p,P2,P3]=.ok B)(eL:Z.F 196 [A,B]=.ok (Ck L))(e02:Z.F 57 [.int p,P0,P2]=.ok A')(e13:Z.F 57 [.int p,P1,P3]=.ok B')(eM:Z.F 196 [A',B']=.ok (Ck M))(vM:Z.F 126 [.int p,Ck M,P4]=.ok (.int m))(vL:Z.F 126 [.int p,Ck L,P4]=.ok (.int l))(ec:Z.F 122 [.int p,.lst (ds (lc2 m L (-l) M).l)]=.ok R):Ni.run Z [.int p,five P0 P1 P2 P3 P4]=.ok R:=by
 have i0:Cr (five P0 P1 P2 P3 P4) (.int 0)=.ok P0:=rfl;have i1:Cr (five P0 P1 P2 P3 P4) (.int 1)=.ok P1:=rfl;have i2:Cr (five P0 P1 P2 P3 P4) (.int 2)=.ok P2:=rfl;have i3:Cr (five P0 P1 P2 P3 P4) (.int 3)=.ok P3:=rfl;have i4:Cr (five P0 P1 P2 P3 P4) (.int 4)=.ok P4:=rfl;have sL:Ch (Ck L)=.ok (ds L.l):=rfl;have sM:Ch (Ck M)=.ok (ds M.l):=rfl;have k:∀ {u v},Bd 10 u->Bd 10 v->Fh u v=Aa:=λhu hv=>GV hu hv (by decide) (by decide)
 have cp:∀(PP cL cM:D),BR (cGT Z [si p,sh PP,sh cL,sh cM,si m,si l,Af,Af] [6,7] CM) (cFT Z [si p,sh PP,sh cL,sh cM,si m,si l,Af,Af] [6,7] O7) (FJ (ds L.l) (ds M.l))=.ok (ds (lc2 m L (-l) M).l):=λPP cL cM=>by
  obtain⟨l0,l1,l2,l3,l4,l5⟩:=L;obtain⟨m0,m1,m2,m3,m4,m5⟩:=M;have n:∀ a b:Ad,m*a + -l*b=m*a-l*b:=λa b=>by rw[Int.neg_mul,Int.sub_eq_add_neg]
  simp[BR,cGT,cFT,FJ,ds,C6.l,lc2,O7,CM,n,k bm bL.b0,k bm bL.b1,k bm bL.b2,k bm bL.b3,k bm bL.b4,k bm bL.b5,k bl bM.b0,k bl bM.b1,k bl bM.b2,k bl bM.b3,k bl bM.b4,k bl bM.b5]
 generalize five P0 P1 P2 P3 P4=PP at *;generalize ds (lc2 m L (-l) M).l=FF at *;generalize ds L.l=LL at *;generalize ds M.l=MM at *;generalize Ck L=cL at *;generalize Ck M=cM at *;simp[Ni,Df.run,Bv,i0,i1,i2,i3,i4,e01,e23,eL,e02,e13,eM,vM,vL,sL,sM,cp,ec]
theorem ae{a a' b b':R3}(ha:CgR p a a')(hb:CgR p b b'):CgC p (prd a b) (prd a' b'):=
 ⟨ha.1.mul hb.1,ha.2.1.mul hb.2.1,ha.2.2.mul hb.2.2,(ha.1.mul hb.2.1).add (ha.2.1.mul hb.1),(ha.1.mul hb.2.2).add (ha.2.2.mul hb.1),(ha.2.1.mul hb.2.2).add (ha.2.2.mul hb.2.1)⟩
theorem VE(hp:P4 p){a a' b b':R3}(ha:Pr p a a')(hb:Pr p b b'):PrC p (prd a b) (prd a' b'):=by
 obtain⟨d,dz,e⟩:=ha;obtain⟨d',dz',e'⟩:=hb;refine⟨d*d',B6 hp dz dz',(ae e e').trans (CgC.of ?_)⟩;unfold prd scC Bs
 congr 1<;>grind
theorem gh(hp:P4 p){L M L' M':C6}(hL:PrC p L' L)(hM:PrC p M' M)(v:R3):PrC p (lc2 (vI M' v%p) L' (-(vI L' v%p)) M') (lc2 (vI M v) L (-vI L v) M):=by
 obtain⟨d,dz,e⟩:=hL;obtain⟨d',dz',e'⟩:=hM;refine⟨d*d',B6 hp dz dz',?_⟩;have r:CgR p v v:=⟨Cg.rfl,Cg.rfl,Cg.rfl⟩;have q:=Jk e r;have q':=Jk e' r;rw[Q4]at q q';have neg:∀{a b:Ad},Cg p a b->Cg p (-a) (-b):=λ{a b} h=>by
  have:=(Cg.rfl (p:=p) (a:=0)).sub h
  rwa [X8,X8]at this
 refine(i7 ((Cg.md rfl).trans q') e (neg ((Cg.md rfl).trans q)) e').trans (CgC.of ?_);generalize vI M v=m;generalize vI L v=l;unfold lc2 scC
 congr 1<;>grind
def VV(Z:Gam):Prop:=∀(p:Ad)(C:C6)(pts:Ac R3),P4 p->InC p C->AW p C.l=Ab 1->Five p C pts->Z.F 197 [.int p,At pts]=.ok (Ck C)
theorem kN(hp:P4 p){l:Ad}{E:C6}(lC:AW p C.l=Ab l)(h:PrC p E C):∃ l',AW p E.l=Ab l':=by
 cases e:AW p E.l with
 |some l'=>exact⟨l',rfl⟩
 |none=>
  exfalso
  obtain⟨d,dz,q⟩:=h;have z:=Jg.mp e;have k:∀{n:Ad},n∈E.l->Cg p n 0:=λhn=>z0 (z _ hn)
  have q2:CgC p E ⟨0,0,0,0,0,0⟩:=⟨k (by simp[C6.l]),k (by simp[C6.l]),k (by simp[C6.l]),k (by simp[C6.l]),k (by simp[C6.l]),k (by simp[C6.l])⟩
  exact Wd hp lC (Vg hp dz (q.symm.trans q2))
noncomputable def Fc(a b c d e:R3):C6:=lc2 (vI (prd (crs a c) (crs b d)) e) (prd (crs a b) (crs c d)) (-vI (prd (crs a b) (crs c d)) e) (prd (crs a c) (crs b d))
theorem gc{a b c d e:R3}{l:Ad}(hp:P4 p)(lC:AW p C.l=Ab l)(h:Five p C [a,b,c,d,e]):PrC p (Fc a b c d e) C:=by
 have nd:=h.nd;simp only[BJ,Au,AO,BM,Dh,Et,DM,Hi]at nd;obtain⟨⟨n01,n02,n03,n04⟩,⟨n12,n13,n14⟩,⟨n23,n24⟩,n34⟩:=nd;have na:=h.nf a (by simp)
 have nb:=h.nf b (by simp)
 have nc:=h.nf c (by simp)
 have nd:=h.nf d (by simp)
 have ne:=h.nf e (by simp)
 have z:∀ x y:R3,AC (crs x y) x%p=0/\AC (crs x y) y%p=0:=λx y=>by
  obtain⟨h1,h2⟩:=QO x y;rw[h1,h2];exact⟨Be p,Be p⟩
 -- no four of them on a line
 have key:∀ n:R3,¬ CgR p n (0,0,0)->(decide (AC n a%p=0)).toNat+(decide (AC n b%p=0)).toNat+(decide (AC n c%p=0)).toNat+(decide (AC n d%p=0)).toNat+(decide (AC n e%p=0)).toNat<=3:=VA hp h;have dd:Am a b c%p≠0\/Am a b d%p≠0:=by
  apply BL
  intro hn;have hn':Am a b c%p=0/\Am a b d%p=0:=⟨BL λz=>hn (.inl z),BL λz=>hn (.inr z)⟩
  have q:=key _ (Hb hp na nb n01);rw[AU (z a b).1,AU (z a b).2,JZ a b c,JZ a b d,AU hn'.1,AU hn'.2]at q;simp only[C8]at q;omega
 have sp:=lg hp dd (h.on a (by simp)) (h.on b (by simp)) (h.on c (by simp)) (h.on d (by simp)) na nb nc nd n02 n12 n23 n03 n13
 have nn:¬ (vI (prd (crs a b) (crs c d)) e%p=0/\vI (prd (crs a c) (crs b d)) e%p=0):=λ⟨h1,h2⟩=>by
  rw[Q5]at h1 h2;have sw:∀ x y:R3,AC (crs x y) e%p=0->AC (crs x e) y%p=0:=λx y hz=>by
   have:AC (crs x e) y=-1*AC (crs x y) e:=by unfold AC crs;grind
   rw[this,BX,hz,CB,Be]
  have sw':∀ x y:R3,AC (crs x y) e%p=0->AC (crs y e) x%p=0:=λx y hz=>by
   have:AC (crs y e) x=AC (crs x y) e:=by unfold AC crs;grind
   rw[this,hz]
  have spl:∀{u v:Ad},u*v%p=0->u%p=0\/v%p=0:=λ{u v} hz=>by
   by_cases hu:u%p=0
   .exact .inl hu
   .exact .inr ((Fq hp hu).mp hz)
  rcases spl h1 with g1|g1<;>rcases spl h2 with g2|g2
  .have q:=key _ (Hb hp na ne n04);rw[AU (z a e).1,AU (z a e).2,AU (sw _ _ g1),AU (sw _ _ g2)]at q;simp only[C8]at q;omega
  .have q:=key _ (Hb hp nb ne n14);rw[AU (z b e).1,AU (z b e).2,AU (sw' _ _ g1),AU (sw _ _ g2)]at q;simp only[C8]at q;omega
  .have q:=key _ (Hb hp nc ne n24);rw[AU (z c e).1,AU (z c e).2,AU (sw _ _ g1),AU (sw' _ _ g2)]at q;simp only[C8]at q;omega
  .have q:=key _ (Hb hp nd ne n34);rw[AU (z d e).1,AU (z d e).2,AU (sw' _ _ g1),AU (sw' _ _ g2)]at q;simp only[C8]at q;omega
 exact vJ hp lC sp (h.on e (by simp)) nn
theorem qW(hj:N5 Z)(hl:WW Z)(hv:WT Z)(hc:NX Z)(p:Ad)(C:C6)(pts:Ac R3)(hp:P4 p)(iC:InC p C)(lC:AW p C.l=Ab 1)(h:Five p C pts):Ni.run Z [.int p,At pts]=.ok (Ck C):=by
 obtain⟨a,b,c,d,e,rfl⟩:=NN h.len;have fp:=gc hp lC h;have nd:=h.nd;simp only[BJ,Au,AO,BM,Dh,Et,DM,Hi]at nd;obtain⟨⟨n01,n02,n03,n04⟩,⟨n12,n13,n14⟩,⟨n23,n24⟩,n34⟩:=nd;have na:=h.nf a (by simp)
 have nb:=h.nf b (by simp)
 have nc:=h.nf c (by simp)
 have nd:=h.nf d (by simp)
 have ne:=h.nf e (by simp)
 obtain⟨y01,i01,_,p01,e01⟩:=hj p a b hp na.1 nb.1 na.2 nb.2 n01;obtain⟨y23,i23,_,p23,e23⟩:=hj p c d hp nc.1 nd.1 nc.2 nd.2 n23;obtain⟨y02,i02,_,p02,e02⟩:=hj p a c hp na.1 nc.1 na.2 nc.2 n02;obtain⟨y13,i13,_,p13,e13⟩:=hj p b d hp nb.1 nd.1 nb.2 nd.2 n13;have pr:=(gh hp (VE hp p01 p23) (VE hp p02 p13) e).trans hp fp;obtain⟨l,el⟩:=kN hp lC pr;obtain⟨t,D,it,eD,iD,lD,pD⟩:=RX hp el;have ec:=hc p Ae _ l t hp el it;rw[eD]at ec;have eq:=jO hp iD iC lD lC (pD.trans hp pr);subst eq;have bd:∀ n:Ad,Bd 10 (n%p):=λn=>JU hp (AS _ (by have:=hp.pos;omega)) (AQ _ hp.pos)
 rw[P9];exact gf (N6 hp i01 i23) (N6 hp i02 i13) (bd _) (bd _) e01 e23 (hl p _ _ hp i01 i23) e02 e13 (hl p _ _ hp i02 i13) (hv p _ _ hp (N6 hp i02 i13) ne.1) (hv p _ _ hp (N6 hp i01 i23) ne.1) ec
def j9(Z:Gam):Prop:=∀(p:Ad)(C:C6)(pts:Ac R3),P4 p->InC p C->AW p C.l=Ab 1->Five p C pts->Z.F 198 [.int p,At pts]=.ok (Ck C)
theorem mC(h1:Uz Z)(h2:VU Z)(h3:VV Z)(p:Ad)(C:C6)(pts:Ac R3)(hp:P4 p)(iC:InC p C)(lC:AW p C.l=Ab 1)(h:Five p C pts):Na.run Z [.int p,At pts]=.ok (Ck C):=by
 have e1:=h1 p C pts h;have e2:=h2 p C pts hp h;have e3:=h3 p C pts hp iC lC h;obtain⟨a,b,c,d,e,rfl⟩:=NN h.len;exact bu e1 e2 e3
end
section
variable{p:Ad}{r n a b c x y z u:R3}
theorem nJ(x y n:R3):crs (crs x y) n=(AC n x*y.1-AC n y*x.1,AC n x*y.2.1-AC n y*x.2.1,AC n x*y.2.2-AC n y*x.2.2):=by
 unfold crs AC;refine BO ?_ (BO ?_ ?_)<;>simp only<;>grind
theorem par(hp:P4 p)(h1:CgR p (crs r n) (0,0,0))(h2:CgR p (crs r a) (0,0,0))(rz:¬ CgR p r (0,0,0))(nz:¬ CgR p n (0,0,0))(e:AC n z%p=0):AC a z%p=0:=by
 obtain⟨f0,f1,f2⟩:=h1;obtain⟨g0,g1,g2⟩:=h2;simp only[crs]at f0 f1 f2 g0 g1 g2;have sw:∀{x y:Ad},Cg p (x-y) 0->Cg p x y:=λ{x y} h=>(Cg.of (by omega)).trans ((h.add (Cg.rfl (a:=y))).trans (Cg.of (by omega)))
 have d1:=sw f0;have d2:=sw f1;have d3:=sw f2;have c1:=sw g0;have c2:=sw g1;have c3:=sw g2
 -- r i n j=r j n i
 have key:∀ ri ni ai:Ad,Cg p (ri*n.1) (r.1*ni)->Cg p (ri*n.2.1) (r.2.1*ni)->Cg p (ri*n.2.2) (r.2.2*ni)->Cg p (ri*a.1) (r.1*ai)->Cg p (ri*a.2.1) (r.2.1*ai)->Cg p (ri*a.2.2) (r.2.2*ai)->ni%p≠0->AC a z%p=0:=λri ni ai k0 k1 k2 l0 l1 l2 hz=>by
  have rn:ri%p≠0:=λq=>rz ⟨?_,?_,?_⟩
  .have s1:Cg p (ni*AC r z) 0:=by
    have t:=(((k0.mul (Cg.rfl (a:=z.1))).add (k1.mul (Cg.rfl (a:=z.2.1)))).add (k2.mul (Cg.rfl (a:=z.2.2)))).symm;refine(Cg.of ?_).trans (t.trans ((Cg.of ?_).trans (((Cg.rfl (a:=ri)).mul (z0 e)).trans (Cg.of (CB _)))))
    .unfold AC;clear e k0 k1 k2 l0 l1 l2 t c1 c2 c3 d1 d2 d3 f0 f1 f2 g0 g1 g2 sw;grind
    .unfold AC;clear e k0 k1 k2 l0 l1 l2 t c1 c2 c3 d1 d2 d3 f0 f1 f2 g0 g1 g2 sw;grind
   have s2:=z0 ((Fq hp hz).mp (z0' s1));have s3:Cg p (ri*AC a z) 0:=by
    have t:=(((l0.mul (Cg.rfl (a:=z.1))).add (l1.mul (Cg.rfl (a:=z.2.1)))).add (l2.mul (Cg.rfl (a:=z.2.2))));refine(Cg.of ?_).trans (t.trans ((Cg.of ?_).trans (((Cg.rfl (a:=ai)).mul s2).trans (Cg.of (CB _)))))
    .unfold AC;clear e k0 k1 k2 l0 l1 l2 t c1 c2 c3 d1 d2 d3 f0 f1 f2 g0 g1 g2 sw s1 s2;grind
    .unfold AC;clear e k0 k1 k2 l0 l1 l2 t c1 c2 c3 d1 d2 d3 f0 f1 f2 g0 g1 g2 sw s1 s2;grind
   exact(Fq hp rn).mp (z0' s3)
  all_goals
   refine z0 ((Fq hp hz).mp (z0' ?_))
  .exact(Cg.of (BS _ _)).trans (k0.symm.trans (((z0 q).mul Cg.rfl).trans (Cg.of (DA _))))
  .exact(Cg.of (BS _ _)).trans (k1.symm.trans (((z0 q).mul Cg.rfl).trans (Cg.of (DA _))))
  .exact(Cg.of (BS _ _)).trans (k2.symm.trans (((z0 q).mul Cg.rfl).trans (Cg.of (DA _))))
 by_cases n0:n.1%p=0
 .by_cases n1:n.2.1%p=0
  .have n2:n.2.2%p≠0:=λq=>nz ⟨z0 n0,z0 n1,z0 q⟩
   exact key r.2.2 n.2.2 a.2.2 d2 d1.symm Cg.rfl c2 c1.symm Cg.rfl n2
  .exact key r.2.1 n.2.1 a.2.1 d3.symm Cg.rfl d1 c3.symm Cg.rfl c1 n1
 .exact key r.1 n.1 a.1 Cg.rfl d3 d2.symm Cg.rfl c3 c2.symm n0
theorem SM(h1:AC n x%p=0)(h2:AC n y%p=0):CgR p (crs (crs x y) n) (0,0,0):=by
 rw[nJ];exact⟨HB (z0 h1) (z0 h2),HB (z0 h1) (z0 h2),HB (z0 h1) (z0 h2)⟩
theorem yQ(hp:P4 p)(hx:NF p x)(hy:NF p y)(ne:x≠y)(nz:¬ CgR p n (0,0,0))(n1:AC n x%p=0)(n2:AC n y%p=0)(a1:AC a x%p=0)(a2:AC a y%p=0)(e:AC n z%p=0):AC a z%p=0:=
 par hp (SM n1 n2) (SM a1 a2) (Hb hp hx hy ne) nz e
theorem Ul(hp:P4 p)(hx:NF p x)(hy:NF p y)(ne:x≠y)(nz:¬ CgR p n (0,0,0))(n1:AC n x%p=0)(n2:AC n y%p=0)(e:AC n u%p=0):Am x y u%p=0:=by
 rw[<-JZ];obtain⟨h1,h2⟩:=QO x y;exact yQ hp hx hy ne nz n1 n2 (by rw[h1];exact Be p) (by rw[h2];exact Be p) e
end
theorem gZ{q:R3->Al}{l:Ac R3}(nd:l.Nodup)(h:3<=(l.filter q).length):∃ x y u,x∈l/\y∈l/\u∈l/\x≠y/\x≠u/\y≠u/\q x=Aa/\q y=Aa/\q u=Aa:=by
  have nf:(l.filter q).Nodup:=nd.filter (p:=q);have hm:∀ x∈l.filter q,x∈l/\q x=Aa:=λx hx=>CC.mp hx
  generalize l.filter q=F at *
  match F,h,nf,hm with
  |x::y::u::r,_,nf,hm=>
    simp only[BJ,Au,Dh]at nf;have a:=hm x (by simp)
    have b:=hm y (by simp)
    have c:=hm u (by simp)
    exact⟨x,y,u,a.1,b.1,c.1,nf.1.1,nf.1.2.1,nf.2.1.1,a.2,b.2,c.2⟩
section
variable{p:Ad}{C:C6}
structure N3 (p:Ad) (pts:Ac R3):Prop where
 nd:pts.Nodup
 nf:∀ x∈pts,NF p x
 n3:∀ x y u,x∈pts->y∈pts->u∈pts->x≠y->x≠u->y≠u->Am x y u%p≠0
theorem N3.sub{a b:Ac R3}(h:N3 p a)(e:b.Sublist a):N3 p b:=⟨e.nodup h.nd,λx hx=>h.nf x (e.subset hx),λx y u hx hy hu=>h.n3 x y u (e.subset hx) (e.subset hy) (e.subset hu)⟩
theorem N3.five(hp:P4 p)(h:N3 p pts)(len:pts.length=5)(on:∀ x∈pts,vI C x%p=0):Five p C pts:=by
 refine⟨len,h.nd,h.nf,on,λn hn=>?_⟩
 apply BL
 intro hc;obtain⟨x,y,u,hx,hy,hu,n1,n2,n3,q1,q2,q3⟩:=gZ (q:=λx=>decide (AC n x%p=0)) h.nd (by omega)
 exact h.n3 x y u hx hy hu n1 n2 n3 (Ul hp (h.nf x hx) (h.nf y hy) n1 hn (BA q1) (BA q2) (BA q3))
noncomputable def Gc(a b c d e:R3):C6:=lc2 (Am a b c*Am b d e) (prd (crs c e) (crs a d)) (Am a b d*Am e b c) (prd (crs a c) (crs e d))
theorem LF(a b c d e f:R3):vI (Gc a b c d e) f=Am a b c*Am b d e*(Am c e f*Am d f a)+Am a b d*Am e b c*(Am c f a*Am e d f):=by
 unfold Gc;rw[Wk,Q5,Q5,JZ,JZ,JZ,JZ];have h1:Am a d f=Am d f a:=by unfold Am det;grind
 have h2:Am a c f=Am c f a:=by unfold Am det;grind
 rw[h1,h2]
theorem cV(a b c d e:R3):vI (Gc a b c d e) a=0/\vI (Gc a b c d e) b=0/\vI (Gc a b c d e) c=0/\vI (Gc a b c d e) d=0/\vI (Gc a b c d e) e=0:=by
 have same:∀ x y:R3,Am x x y=0/\Am x y x=0/\Am y x x=0:=λx y=>by unfold Am det;refine⟨?_,?_,?_⟩<;>grind
 refine⟨?_,?_,?_,?_,?_⟩
 .rw[LF,(same a d).2.2,(same a c).2.2];simp
 .rw[LF];have h1:Am c e b=Am e b c:=by unfold Am det;grind
  have h2:Am d b a=-Am a b d:=by unfold Am det;grind
  have h3:Am c b a=-Am a b c:=by unfold Am det;grind
  have h4:Am e d b=-Am b d e:=by unfold Am det;grind
  rw[h1,h2,h3,h4];generalize Am a b c=x;generalize Am b d e=y;generalize Am e b c=z;generalize Am a b d=w;grind
 .rw[LF,(same c e).2.1,(same c a).1];simp
 .rw[LF,(same d a).1,(same d e).2.2];simp
 .rw[LF,(same e c).2.2,(same e d).2.1];simp
theorem cW(hp:P4 p){a b c d e:R3}(h1:Am a b c%p≠0)(h2:Am b d e%p≠0)(h3:Am a c e%p≠0)(h4:Am a c d%p≠0):∃ l,AW p (Gc a b c d e).l=Ab l:=by
 cases q:AW p (Gc a b c d e).l with
 |some l=>exact⟨l,rfl⟩
 |none=>
  exfalso
  have z:=Jg.mp q;have k:∀{n:Ad},n∈(Gc a b c d e).l->Cg p n 0:=λhn=>z0 (z _ hn)
  have q2:CgC p (Gc a b c d e) ⟨0,0,0,0,0,0⟩:=⟨k (by simp[C6.l]),k (by simp[C6.l]),k (by simp[C6.l]),k (by simp[C6.l]),k (by simp[C6.l]),k (by simp[C6.l])⟩
  have v:=Jk (x:=(a.1+c.1,a.2.1+c.2.1,a.2.2+c.2.2)) (x':=(a.1+c.1,a.2.1+c.2.1,a.2.2+c.2.2)) q2 ⟨Cg.rfl,Cg.rfl,Cg.rfl⟩;rw[LF]at v;have e1:Am c e (a.1+c.1,a.2.1+c.2.1,a.2.2+c.2.2)=Am a c e:=by unfold Am det;simp only;grind
  have e2:Am d (a.1+c.1,a.2.1+c.2.1,a.2.2+c.2.2) a=-Am a c d:=by unfold Am det;simp only;grind
  have e3:Am c (a.1+c.1,a.2.1+c.2.1,a.2.2+c.2.2) a=0:=by unfold Am det;simp only;grind
  rw[e1,e2,e3]at v;refine B6 hp (B6 hp h1 h2) (B6 hp h3 (B6 hp hp.m1 h4)) (z0' ((Cg.of ?_).trans (v.trans (Cg.of ?_))))
  .rw[DA,CB,XX,Int.neg_one_mul]
  .unfold vI;simp
theorem vK(hp:P4 p){a b c d e:R3}(h:N3 p [a,b,c,d,e]):∃ C,InC p C/\AW p C.l=Ab 1/\PrC p C (Gc a b c d e)/\Five p C [a,b,c,d,e]:=by
 have nd:=h.nd;simp only[BJ,Au,AO,BM,Dh,Et,DM,Hi]at nd;obtain⟨⟨n01,n02,n03,n04⟩,⟨n12,n13,n14⟩,⟨n23,n24⟩,n34⟩:=nd;obtain⟨l,el⟩:=cW hp (h.n3 a b c (by simp) (by simp) (by simp) n01 n02 n12) (h.n3 b d e (by simp) (by simp) (by simp) n13 n14 n34) (h.n3 a c e (by simp) (by simp) (by simp) n02 n04 n24) (h.n3 a c d (by simp) (by simp) (by simp) n02 n03 n23)
 obtain⟨t,D,it,eD,iD,lD,pD⟩:=RX hp el;refine⟨D,iD,lD,pD,h.five hp rfl λx hx=>?_⟩
 have k:∀ x,vI (Gc a b c d e) x=0->vI D x%p=0:=λx hz=>by
  obtain⟨d,dz,q⟩:=pD;have q:=Jk (x:=x) (x':=x) q ⟨Cg.rfl,Cg.rfl,Cg.rfl⟩;rw[Q4,hz,CB]at q;exact z0' q
 obtain⟨g0,g1,g2,g3,g4⟩:=cV a b c d e;simp only[Au,AO,BM]at hx;rcases hx with rfl|rfl|rfl|rfl|rfl
 .exact k _ g0
 .exact k _ g1
 .exact k _ g2
 .exact k _ g3
 .exact k _ g4
end
noncomputable def Km:Df:=⟨3,Ae,(.cons (.ife (.cmp .Lt (.bi .len (.cons (.var 1) .nil)) (.int 5)) (.cons (.asg 2 Ae (.call 123 (.cons (.var 0) .nil))) (.cons (.ret (.call 133 (.cons (.var 0) (.cons (.var 2) (.cons (.call 112 (.cons (.var 0) (.cons (.call 128 (.cons (.var 0) (.cons (.var 2) .nil))) (.cons (.var 1) .nil)))) .nil))))) .nil)) .nil) (.cons (.ret (.call 198 (.cons (.var 0) (.cons (.sl (.var 1) .non (.int 5)) .nil)))) .nil))⟩
theorem mG(hk:XD Z)(hf:SZ Z)(hb:Rk Z)(ha:VZ Z){f0 f1 f2 f3 g0 g1 g2 g3:R3}(hp:P4 p)(F:Frm p f0 f1 f2 f3)(G:Frm p g0 g1 g2 g3):∃ a b c,GoodR p a b c/\Mi.run Z [.int p,E2 f0 f1 f2 f3,E2 g0 g1 g2 g3]=.ok (Cj a b c):=by
 have p0:=hp.pos;have e1:=hk p f0 f1 f2 f3 hp F.i0 F.i1 F.i2 F.i3 F.gen;have e2:=hk p g0 g1 g2 g3 hp G.i0 G.i1 G.i2 G.i3 G.gen;have zM:=Xj hp F.gen;have zN:=Xj hp G.gen;have fmz:∀{v:Ad}{x y z:R3},v%p≠0->Am x y z%p≠0->Am (fmR p v x) (fmR p v y) (fmR p v z)%p≠0:=λ{v x y z} vz h=>RY ((Mu (KI p v x) (KI p v y) (KI p v z)).trans (Cg.of (NY v v v x y z))) (B6 hp (nz3 hp vz vz vz) h)
 obtain⟨lM,eM⟩:=Mm zM;obtain⟨v,v1,v2,v3⟩:=Ia hp (Ir p0 eM).1;have e4:=hf p f0 f1 f2 f3 hp F.i0 F.i1 F.i2 F.i3 zM lM v eM ⟨v1,v2,v3⟩;obtain⟨lN,eN⟩:=Mm zN;obtain⟨u,u1,u2,u3⟩:=Ia hp (Ir p0 eN).1;have e3:=hf p g0 g1 g2 g3 hp G.i0 G.i1 G.i2 G.i3 zN lN u eN ⟨u1,u2,u3⟩;have vz:v%p≠0:=by rw[AK (by omega) v2];omega
 have uz:u%p≠0:=by rw[AK (by omega) u2];omega
 have zM':=fmz vz zM;have zN':=fmz uz zN;have ix:=F9 p0 v (fr0 p f0 f1 f2 f3);have iy:=F9 p0 v (fr1 p f0 f1 f2 f3);have iz:=F9 p0 v (fr2 p f0 f1 f2 f3);have jx:=F9 p0 u (fr0 p g0 g1 g2 g3);have jy:=F9 p0 u (fr1 p g0 g1 g2 g3);have jz:=F9 p0 u (fr2 p g0 g1 g2 g3);generalize fmR p v (fr0 p f0 f1 f2 f3)=x at *;generalize fmR p v (fr1 p f0 f1 f2 f3)=y at *;generalize fmR p v (fr2 p f0 f1 f2 f3)=z at *;generalize fmR p u (fr0 p g0 g1 g2 g3)=x' at *;generalize fmR p u (fr1 p g0 g1 g2 g3)=y' at *;generalize fmR p u (fr2 p g0 g1 g2 g3)=z' at *;have zB:Am (bk0 x y z) (bk1 x y z) (bk2 x y z)%p≠0:=by rw[N2];exact B6 hp zM' zM'
 obtain⟨lB,eB⟩:=Mm zB;obtain⟨w,w1,w2,w3⟩:=Ia hp (Ir p0 eB).1;have wz:w%p≠0:=by rw[AK (by omega) w2];omega
 have e5:=hb p _ _ _ hp ix iy iz zM' lB w eB ⟨w1,w2,w3⟩;have zB':=fmz wz zB;have k0:=F9 p0 w (bk0 x y z);have k1:=F9 p0 w (bk1 x y z);have k2:=F9 p0 w (bk2 x y z);generalize fmR p w (bk0 x y z)=B0 at *;generalize fmR p w (bk1 x y z)=B1 at *;generalize fmR p w (bk2 x y z)=B2 at *;have zR:Am (mlR p x' B0 B1 B2) (mlR p y' B0 B1 B2) (mlR p z' B0 B1 B2)%p≠0:=RY ((Mu (RK p x' B0 B1 B2) (RK p y' B0 B1 B2) (RK p z' B0 B1 B2)).trans (Cg.of (d9 x' y' z' B0 B1 B2))) (B6 hp zN' zB');obtain⟨l,el⟩:=Mm zR;obtain⟨t,t1,t2,t3⟩:=Ia hp (Ir p0 el).1;have e6:=ha p _ _ _ _ _ _ hp jx jy jz k0 k1 k2 zR l t el ⟨t1,t2,t3⟩;have tz:t%p≠0:=by rw[AK (by omega) t2];omega
 exact⟨_,_,_,⟨hp,F9 p0 t _,F9 p0 t _,F9 p0 t _,fmz tz zR⟩,cm e1 e2 e3 e4 e5 e6⟩
section
variable{Z:Gam}{p:Ad}{pts:Ac R3}
theorem n3Z(nd:pts.Nodup)(nf:∀ x∈pts,NF p x)(h:z0_ p pts=Af):N3 p pts:=⟨nd,nf,λx y u hx hy hu n1 n2 n3 z=>by
 obtain⟨d,e⟩:=wB hx hy hu n1 n2 n3 z;rw[h]at e;cases e⟩
structure HC71 (Z:Gam):Prop where
 pc:∀ p,P4 p->Z.F 123 [.int p]=.ok (Ck (pl p))
 po:∀ p C,P4 p->InC p C->Z.F 128 [.int p,Ck C]=.ok (At (Ow p C))
 mv:∀(p:Ad)(f0 f1 f2 f3 g0 g1 g2 g3:R3),P4 p->Frm p f0 f1 f2 f3->Frm p g0 g1 g2 g3->∃ a b c,GoodR p a b c/\Z.F 112 [.int p,E2 f0 f1 f2 f3,E2 g0 g1 g2 g3]=.ok (Cj a b c)
 md:∀(p:Ad)(C:C6)(a b c:R3),InC p C->AW p C.l=Ab 1->GoodR p a b c->∃ E:C6,Z.F 133 [.int p,Ck C,Cj a b c]=.ok (Ck E)
 th:j9 Z
theorem dD{l:Ac α}(h:l.length=4):∃ a b c d,l=[a,b,c,d]:=by
  match l,h with
  |[a,b,c,d],_=>exact⟨a,b,c,d,rfl⟩
theorem dC{l:Ac α}(h:l.length=5):∃ a b c d e,l=[a,b,c,d,e]:=by
  match l,h with
  |[a,b,c,d,e],_=>exact⟨a,b,c,d,e,rfl⟩
theorem bo{T cC PT M R:D}{n:Ad}(ln:biD .len [T]=.ok (.int n))(h:n<5)(e1:Z.F 123 [.int p]=.ok cC)(e2:Z.F 128 [.int p,cC]=.ok PT)(e3:Z.F 112 [.int p,PT,T]=.ok M)(e4:Z.F 133 [.int p,cC,M]=.ok R):Km.run Z [.int p,T]=.ok R:=by
 simp[Km,Df.run,Bv,ln,h,e1,e2,e3,e4]
theorem bn{T T5 R:D}{n:Ad}(ln:biD .len [T]=.ok (.int n))(h:¬ n<5)(sl:slD T Af (Ab 5)=.ok T5)(e:Z.F 198 [.int p,T5]=.ok R):Km.run Z [.int p,T]=.ok R:=by
 simp[Km,Df.run,Bv,ln,h,sl,slE,e]
theorem jK(h:HC71 Z)(hp:P4 p)(n3:N3 p pts)(hl:(pts.length:Ad)=p+1):∃ C:C6,Km.run Z [.int p,At pts]=.ok (Ck C):=by
 have ln:=Ml pts;by_cases p3:p=3
 .subst p3;obtain⟨a,b,c,d,rfl⟩:=dD (l:=pts) (by omega)
  have nd:=n3.nd;simp only[BJ,Au,AO,BM,Dh,Et,DM,Hi]at nd;obtain⟨⟨n01,n02,n03⟩,⟨n12,n13⟩,n23⟩:=nd;have G:Frm 3 a b c d:=⟨(n3.nf _ (by simp)).1,(n3.nf _ (by simp)).1,(n3.nf _ (by simp)).1,(n3.nf _ (by simp)).1,n3.n3 _ _ _ (by simp) (by simp) (by simp) n01 n02 n12,n3.n3 _ _ _ (by simp) (by simp) (by simp) n01 n03 n13,n3.n3 _ _ _ (by simp) (by simp) (by simp) n02 n03 n23,n3.n3 _ _ _ (by simp) (by simp) (by simp) n12 n13 n23⟩
  have F:Frm 3 (0,0,1) (1,0,0) (1,1,1) (1,2,1):=⟨by unfold In3;decide,by unfold In3;decide,by unfold In3;decide,by unfold In3;decide,by unfold J4;decide⟩
  have iC:InC 3 (pl 3):=by unfold InC;decide
  have lC:AW 3 (pl 3).l=Ab 1:=by decide
  have po:=h.po 3 (pl 3) hp iC;rw[show Ow 3 (pl 3)=[(0,0,1),(1,0,0),(1,1,1),(1,2,1)] by decide]at po
  obtain⟨x,y,z,gT,mv⟩:=h.mv 3 _ _ _ _ _ _ _ _ hp F G;obtain⟨E,md⟩:=h.md 3 (pl 3) x y z iC lC gT;exact⟨E,bo ln (by simp) (h.pc 3 hp) po mv md⟩
 .have p5:5<=p:=by rcases hp with rfl|rfl|rfl|rfl<;>omega
  have sl:=Ob pts (i:=5) (by decide)
  obtain⟨a,b,c,d,e,e5⟩:=dC (l:=pts.take 5) (by rw[Gr];omega)
  have s5:N3 p [a,b,c,d,e]:=by rw[<-e5];exact n3.sub (HH 5 pts)
  obtain⟨C,iC,lC,_,F⟩:=vK hp s5;have th:=h.th p C _ hp iC lC F;rw[<-e5]at th;exact⟨C,bn ln (by omega) sl th⟩
end
section
variable{p:Ad}
theorem jl(hp:P4 p){a b:R3}(na:NF p a)(nb:NF p b)(ne:a≠b):NF p (nrm p (crs a b))/\Pr p (nrm p (crs a b)) (crs a b):=by
 cases el:AW p (tri (crs a b)) with
 |none=>exact absurd (QW hp nb.1 na.1 nb.2 na.2 (Nx hp (Qo el) na.2 nb.2)).symm ne
 |some l=>exact Ku hp el
noncomputable def thr(p:Ad)(a:R3):Ac R3:=(Cf p).filter λm=>decide (AC a m%p=0)
theorem oX(hp:P4 p)(na:NF p a):((thr p a).length:Ad)=p+1:=by
 have h:∀ x∈Cf p,((thr p x).length:Ad)=p+1:=by
  rcases hp with rfl|rfl|rfl|rfl<;>decide+kernel
 exact h a ((Ha hp).mpr na)
theorem To{α:Type}[DecidableEq α](R:α->α->Prop)(sy:∀ a b,R a b->R b a):∀(n:Ag)(k:Ac α),k.length<=n->k.Nodup->(∀ a∈k,∃ b∈k,b≠a/\R a b)->(∀ a b c,a∈k->b∈k->c∈k->b≠a->c≠a->R a b->R a c->b=c)->k.length%2=0
 |_,[],_,_,_,_=>rfl
 |0,a::k,h,_,_,_=>by simp at h
 |n+1,a::k,h,nd,ex,un=>by
  obtain⟨n1,n2⟩:=BJ.mp nd;obtain⟨b,hb,ba,rab⟩:=ex a Aw;have hb':b∈k:=(Au.mp hb).resolve_left ba;have l1:(k.erase b).length=k.length-1:=FS hb';have l0:0<k.length:=Yr hb';have sub:∀ x,x∈k.erase b->x∈k:=λx hx=>List.mem_of_mem_erase hx
  have nb:∀ x,x∈k.erase b->x≠b:=λx hx=>((FR n2).mp hx).1
  have ih:=To R sy n (k.erase b) (by rw[Bl]at h;omega) (n2.erase b) (λc hc=>by
   have hck:=Av a (sub c hc);have ca:c≠a:=λe=>n1 (e ▸ sub c hc)
   obtain⟨d,hd,dc,rcd⟩:=ex c hck;have da:d≠a:=λe=>by
    subst e;exact nb c hc (un d c b hd hck hb (CK dc) ba (sy _ _ rcd) rab)
   have db:d≠b:=λe=>by
    subst e;exact ca (un d c a hd hck Aw (CK dc) (CK ba) (sy _ _ rcd) (sy _ _ rab))
   exact⟨d,(FR n2).mpr ⟨db,(Au.mp hd).resolve_left da⟩,dc,rcd⟩) (λx y z hx hy hz=>un x y z (Av _ (sub x hx)) (Av _ (sub y hy)) (Av _ (sub z hz)))
  rw[Bl];omega
theorem Q9(a b c:R3):Am a c b=-Am a b c:=by unfold Am det;grind
theorem Ra(a b c:R3):Am c a b=Am a b c:=by unfold Am det;grind
theorem OR{x:Ad}(h:x%p=0):-x%p=0:=X1 (XY.mpr (XZ h))
theorem gq(hp:P4 p){l:Ac R3}(h:N3 p l):(l.length:Ad)≠p+2:=λhl=>by
 obtain⟨Q,hQ,nQ⟩:∃ Q∈Cf p,Q∉l:=by
  refine BL λz=>?_
  have le:=Q0 (iU hp) (λx hx=>BL λy=>z ⟨x,hx,y⟩)
  have e:(Cf p).length=(p*p+p+1).toNat:=by unfold Cf;rw[AV,Ys]
  rw[e]at le;rcases hp with rfl|rfl|rfl|rfl<;>omega
 have nfQ:=(Ha hp).mp hQ;have z0:(0:Ad)%p=0:=Be p;have ne:∀ a∈l,Q≠a:=λa ha e=>nQ (e ▸ ha)
 have key:∀ a∈l,∃ b∈l,b≠a/\Am Q a b%p=0:=λa ha=>by
  have na:=h.nf a ha;obtain⟨m1,m2⟩:=jl hp nfQ na (ne a ha);have er:∀ b,b∈l.erase a->b≠a/\b∈l:=λb hb=>(FR h.nd).mp hb
  have pj:∀ b,b∈l.erase a->NF p (nrm p (crs a b))/\Pr p (nrm p (crs a b)) (crs a b):=λb hb=>jl hp na (h.nf b (er b hb).2) (CK (er b hb).1)
  have on:∀ b,b∈l.erase a->AC b (nrm p (crs a b))%p=0:=λb hb=>(IE hp (pj b hb).2).mpr (by rw[(NO a b).2];exact z0)
  have kn:((l.erase a).map λb=>nrm p (crs a b)).Nodup:=List.pairwise_map.mpr ((h.nd.erase a).imp_of_mem λ{b c} hb hc bc e=>by
   refine h.n3 a b c ha (er b hb).2 (er c hc).2 (CK (er b hb).1) (CK (er c hc).1) bc ?_;rw[<-IE hp (pj b hb).2,e];exact on c hc)
  have ks:∀ m∈(l.erase a).map λb=>nrm p (crs a b),m∈thr p a:=λm hm=>by
   obtain⟨b,hb,rfl⟩:=Bo.mp hm;exact CC.mpr ⟨(Ha hp).mpr (pj b hb).1,AU ((IE hp (pj b hb).2).mpr (by rw[(NO a b).1];exact z0))⟩
  have mt:nrm p (crs Q a)∈thr p a:=CC.mpr ⟨(Ha hp).mpr m1,AU ((IE hp m2).mpr (by rw[(NO Q a).2];exact z0))⟩
  have hk:nrm p (crs Q a)∈(l.erase a).map λb=>nrm p (crs a b):=BL λz=>by
   have le:=Q0 (BJ.mpr ⟨z,kn⟩) (l2:=thr p a) λx hx=>by
    rcases Au.mp hx with rfl|hx
    .exact mt
    .exact ks x hx
   rw[Bl,AV,FS ha]at le;have:=oX hp na;have:=hp.lo;omega
  obtain⟨b,hb,e⟩:=Bo.mp hk;refine⟨b,(er b hb).2,(er b hb).1,?_⟩;rw[<-IE hp m2,<-e];exact on b hb
 have ev:=To (λa b=>Am Q a b%p=0) (λa b r=>by rw[Q9];exact OR r) l.length l (A1 _) h.nd key (λa b c ha hb hc ba ca r1 r2=>BL λbc=>by
  obtain⟨m1,m2⟩:=jl hp nfQ (h.nf a ha) (ne a ha);refine h.n3 a b c ha hb hc (CK ba) (CK ca) bc (Ul hp (h.nf a ha) (h.nf b hb) (CK ba) (n:=nrm p (crs Q a)) (λz=>bT m1 ⟨IV (b:=(0:Ad)%p) z.1 z0,IV (b:=(0:Ad)%p) z.2.1 z0,IV (b:=(0:Ad)%p) z.2.2 z0⟩) ?_ ?_ ?_)
  .rw[Kv,IE hp m2,(NO Q a).2];exact z0
  .rw[Kv,IE hp m2];exact r1
  .rw[Kv,IE hp m2];exact r2)
 rcases hp with rfl|rfl|rfl|rfl<;>omega
end
noncomputable def Kg:Ss:=(.cons (.asg 4 Ae (.call 231 (.cons (.var 0) (.cons (.var 3) .nil)))) (.cons (.ife (.and (.cons (.cmp .NotIn (.var 4) (.var 2)) (.cons (.cmp .NotIn (.var 4) (.var 1)) .nil))) (.cons (.ret (.var 4)) .nil) .nil) .nil))
noncomputable def Kq:Df:=⟨5,Ae,(.cons (.asg 2 Ae (.call 235 (.cons (.var 0) (.cons (.var 1) .nil)))) (.cons (.fors 3 (.rng (.bin .Add (.bin .Add (.bin .Mult (.var 0) (.var 0)) (.var 0)) (.int 1))) Kg) (.cons (.ret .non) .nil)))⟩
noncomputable def LB:Df:=⟨4,Ae,(.cons (.expr (.call 194 (.cons (.var 1) .nil))) (.cons (.asg 2 Ae (.call 65 (.cons (.var 0) (.cons (.var 1) .nil)))) (.cons (.ife (.cmp .IsNot (.var 2) .non) (.cons (.ret (.tup (.cons (.str (By "line")) (.cons (.var 2) .nil)))) .nil) .nil) (.cons (.ife (.cmp .Eq (.bi .len (.cons (.var 1) .nil)) (.bin .Add (.var 0) (.int 1))) (.cons (.ret (.tup (.cons (.str (By "curve")) (.cons (.call 224 (.cons (.var 0) (.cons (.var 1) .nil))) .nil)))) .nil) .nil) (.cons (.asg 3 Ae (.call 223 (.cons (.var 0) (.cons (.var 1) .nil)))) (.cons (.ife (.cmp .Gt (.bi .len (.cons (.var 3) .nil)) (.int 0)) (.cons (.ret (.tup (.cons (.str (By "more")) (.cons (.idx (.var 3) (.int 0)) .nil)))) .nil) .nil) (.cons (.ret (.tup (.cons (.str (By "ends")) (.cons (.call 226 (.cons (.var 0) (.cons (.var 1) .nil))) .nil)))) .nil)))))))⟩
section
variable{Z:Gam}{p:Ad}{pts:Ac R3}
theorem UB(x:R3):∀(rest seen left:Ac R3),G0 p seen (rest++[x]) left=(G0 p seen rest left).filter (stq p (seen++rest) x)
 |[],seen,left=>by rw[Du];rfl
 |f::rest,seen,left=>by
  show G0 p (seen++[f]) (rest++[x]) _=_;rw[UB x rest,Yc];rfl
theorem vP(l:Ac R3)(x:R3):CT p (l++[x])=(CT p l).filter (stq p l x):=UB x l [] (Cf p)
theorem Ww{a b:R3}:∀{l:Ac R3},a∈l->b∈l->a≠b->(a,b)∈prL l\/(b,a)∈prL l
 |[],ha,_,_=>by cases ha
 |c::r,ha,hb,ne=>by
  rcases Au.mp ha with rfl|ha'
  .rcases Au.mp hb with rfl|hb'
   .exact absurd rfl ne
   .exact .inl (Fl _ (Bo.mpr ⟨b,hb',rfl⟩))
  .rcases Au.mp hb with rfl|hb'
   .exact .inr (Fl _ (Bo.mpr ⟨a,ha',rfl⟩))
   .exact(Ww ha' hb' ne).imp (Bw _) (Bw _)
theorem vO{l:Ac R3}(h:x∈CT p l)(a b:R3)(ha:a∈l)(hb:b∈l)(ne:a≠b):Am a b x%p≠0:=λz=>by
 rw[QL]at h;have k:=(CC.mp h).2;unfold JW at k;rw[Ap,YC]at k;have k2:=List.find?_eq_none.mp k.2;rcases Ww ha hb ne with m|m
 .exact k2 _ m (AU z)
 .refine k2 _ m (AU ?_);show Am b a x%p=0;rw[<-Ra,Q9,Ra];exact OR z
theorem Fre.n3(f:Fre p pts):N3 p pts:=n3Z f.nd f.nf f.z0
theorem Fre.add(hp:P4 p){l:Ac R3}(f:Fre p l)(hx:x∈CT p l):Fre p (l++[x]):=by
 have nx:=(Ha hp).mp (Nw hx);have nl:x∉l:=λh=>QE hx h rfl
 have dt:=vO hx;have n3:=f.n3.n3;have nd:(l++[x]).Nodup:=F6.mpr ⟨f.nd,by simp,λa ha b hb=>by rw[AR.mp hb];exact λz=>nl (z ▸ ha)⟩
 have nf:∀ y∈l++[x],NF p y:=λy hy=>by
  rcases Dv.mp hy with z|z
  .exact f.nf y z
  .rw[AR.mp z];exact nx
 have N:N3 p (l++[x]):=⟨nd,nf,λa b c ha hb hc ab ac bc=>by
  rcases Dv.mp ha with ha|ha<;>rcases Dv.mp hb with hb|hb<;>rcases Dv.mp hc with hc|hc
  .exact n3 a b c ha hb hc ab ac bc
  .rw[AR.mp hc];exact dt a b ha hb ab
  .rw[AR.mp hb,Q9];intro z;have:=OR z;rw[Int.neg_neg]at this;exact dt a c ha hc ac this
  .exact absurd ((AR.mp hb).trans (AR.mp hc).symm) bc
  .rw[AR.mp ha,Ra];exact dt b c hb hc bc
  .exact absurd ((AR.mp ha).trans (AR.mp hc).symm) ac
  .exact absurd ((AR.mp ha).trans (AR.mp hb).symm) ab
  .exact absurd ((AR.mp ha).trans (AR.mp hb).symm) ab⟩
 have ne:=gq hp N;have fl:=f.ln;rw[A4,Bq]at ne;exact⟨nf,nd,WZ nd λa ha b hb c hc ab ac bc=>N.n3 a b c ha hb hc ab ac bc,by rw[A4,Bq];omega⟩
noncomputable def grw(p:Ad):Ag->Ac R3->Ac R3
  |0,l=>l
  |n+1,l=>match CT p l with
    |[]=>l
    |x::_=>grw p n (l++[x])
theorem MA{l:Ac R3}(h:CT p l=[]):∀ n,grw p n l=l
 |0=>rfl
 |n+1=>by rw[grw,h]
theorem QA{l r:Ac R3}(h:CT p l=x::r):grw p (n+1) l=grw p n (l++[x]):=by rw[grw,h]
theorem OI(hp:P4 p){l:Ac R3}(f:Fre p l)(h:p+1<=(l.length:Ad)):CT p l=[]:=by
 cases e:CT p l with
 |nil=>rfl
 |cons x r=>
  have:=(f.add hp (x:=x) (by rw[e];exact Aw)).ln
  rw[A4,Bq]at this;omega
theorem Wh(hp:P4 p):∀(n:Ag)(l:Ac R3),Fre p l->p+1<=(l.length:Ad)+n->Fre p (grw p n l)/\CT p (grw p n l)=[]
 |0,l,f,h=>⟨f,OI (l:=l) hp f (by omega)⟩
 |n+1,l,f,h=>by
  cases e:CT p l with
  |nil=>rw[MA e];exact⟨f,e⟩
  |cons x r=>
   rw[QA e];exact Wh hp n _ (f.add hp (by rw[e];exact Aw)) (by rw[A4,Bq];omega)
theorem Sc(h:MG Z)(f2:Z.fr 222=Aa)(hp:P4 p){PT:D}:∀(f:Ag)(told left:Ac R3)(s4:Sl),Fre p told->CT p told=left->p+1<=(told.length:Ad)+f->∃ s4',Fw (whC Z Nu) (whB Z Qj) (f+1) [si p,sh PT,ow told,sh (At left),s4]=.next [si p,sh PT,ow (grw p f told),sh (At []),s4']
 | f,told,[],s4,_,e,_=>⟨s4,by
   rw[MA e];have l:biD .len [At []]=.ok (.int 0):=rfl;rw[Qp (by
    generalize At []=T at *;simp[whC,Nu,l])]⟩
 |0,told,x::r,s4,fr,e,hf=>by
  rw[OI hp fr (by omega)]at e
  cases e
 |f+1,told,x::r,s4,fr,e,hf=>by
  have mx:x∈CT p told:=by rw[e];exact Aw
  have fr':=fr.add hp mx;have nl:∀ y∈x::r,NF p y:=λy hy=>(Ha hp).mp (Nw (show y∈CT p told by rw[e];exact hy))
  have e1:Z.F 222 [.int p,.lst (told.map (Aj Aa)),Aj Aa x,At (x::r)]=.ok (.lst (((x::r).filter (stq p told x)).map (Aj Aa))):=h p told x (x::r) hp fr.nf (nl x Aw) (λz=>QE mx z rfl) nl
  have cl:G1 Aa (.lst (((x::r).filter (stq p told x)).map (Aj Aa)))=Aa:=Ny _;have fe:CT p (told++[x])=(x::r).filter (stq p told x):=by rw[vP,e]
  have l12:=JT hp fr;obtain⟨s4',ih⟩:=Sc h f2 hp (PT:=PT) f (told++[x]) ((x::r).filter (stq p told x)) (sh (Aj Aa x)) fr' fe (by rw[A4,Bq];omega)
  refine⟨s4',?_⟩;rw[QA e,<-ih];have l:biD .len [At (x::r)]=.ok (.int ((r.length:Ad)+1)):=by
   show R.ok (D.int ((((x::r).map (Aj Aa)).length:Ag):Ad))=_;simp
  have ix:Cr (At (x::r)) (.int 0)=.ok (Aj Aa x):=GW (pts:=x::r) (i:=0) (by simp)
  have sz:CN ((told.map (Aj Aa)).length+1)=Aa:=by rw[AV];exact CQ (by omega)
  have ap:(told.map (Aj Aa))++[Aj Aa x]=(told++[x]).map (Aj Aa):=by simp
  have pos:(0:Ad)<(r.length:Ad)+1:=by omega
  unfold ow;rw[<-ap];have e2:At ((x::r).filter (stq p told x))=.lst (((x::r).filter (stq p told x)).map (Aj Aa)):=rfl;rw[e2];generalize ((x::r).filter (stq p told x)).map (Aj Aa)=T3 at *;generalize told.map (Aj Aa)=TT at *;generalize At (x::r)=T at *;generalize Aj Aa x=X at *;generalize (r.length:Ad)+1=N at *;rw[Vi (Y':=[si p,sh PT,Ab (.lst (TT++[X]),Aa),sh (.lst T3),sh X]) (by simp[whC,Nu,l,pos]) (by simp[whB,Qj,ix,e1,f2,cl,C3,sz])]
theorem jJ(h:MG Z)(f2:Z.fr 222=Aa)(f3:G1 (Z.fr 223) (At (CT p pts))=Aa)(hf:XC Z)(hp:P4 p)(f:Fre p pts)(e0:Z.F 260 [.int p,At pts]=.ok .non):NQ.run Z [.int p,At pts]=.ok (At (grw p 4095 pts)):=by
 have l12:=JT hp f;have ph:=hp.hi;have e1:Z.F 223 [.int p,.lst (pts.map (Aj Aa))]=.ok (.lst ((CT p pts).map (Aj Aa))):=hf p pts hp f.nf f.nd (by omega)
 obtain⟨s4,e⟩:=Sc h f2 hp (PT:=At pts) 4095 pts (CT p pts) Af f rfl (by omega)
 have l0:biD .list [At pts]=.ok (.lst (pts.map (Aj Aa))):=rfl;have e2:At (CT p pts)=.lst ((CT p pts).map (Aj Aa)):=rfl;rw[e2]at e f3;unfold ow at e;show _=R.ok (D.lst ((grw p 4095 pts).map (Aj Aa)));have e':∀ x,x=4095+1->Fw _ _ x _=_:=λx hx=>hx ▸ e
 have e'':=e' LO rfl
 clear e e'
 generalize grw p 4095 pts=G at *;generalize (CT p pts).map (Aj Aa)=T3 at *;generalize G.map (Aj Aa)=TT at *;generalize pts.map (Aj Aa)=M at *;generalize At pts=T at *;simp[NQ,Df.run,Bv,e0,l0,Do,e1,f3,e'',isL]
theorem sF(hx:x∈Cf p):B7 .NotIn (Aj Aa x) (.dic (J2 p pts))=.ok (.bl (fpr p pts x).isNone):=by
 have g:=dic_get p pts hx;have a:((J2 p pts).any λq=>q.1==tri x)=(fpr p pts x).isSome:=by rw[Q1,g,YE]
 show R.ok (D.bl (!(J2 p pts).any λq=>q.1==tri x))=_
 rw[a];cases fpr p pts x<;>rfl
theorem ky{b1 b2:Al}(ex:Z.F 231 [.int p,.int i]=.ok X)(h1:B7 .NotIn X DC=.ok (.bl b1))(h2:B7 .NotIn X T=.ok (.bl b2)):AY Z 3 Kg (.int i) [si p,sh T,sh DC,s3,s4]=if (b1&&b2)=Aa then .ret X Ae else .next [si p,sh T,sh DC,si i,sh X]:=by
 cases b1<;>cases b2<;>simp[AY,Kg,ex,h1,h2,Do]
theorem Xs(hpt:LR Z)(hp:P4 p):∀(L:Ac Ag)(s3 s4:Sl),(∀ n∈L,(n:Ad)<p*p+p+1)->∃ s3' s4',B5 (AY Z 3 Kg) (L.map fun(n:Ag)=>D.int (0+(n:Ad))) [si p,sh (At pts),sh (.dic (J2 p pts)),s3,s4]=match (L.map fun(n:Ag)=>ptI p n).filter (JW p pts) with
  |[]=>.next [si p,sh (At pts),sh (.dic (J2 p pts)),s3',s4']
  |x::_=>.ret (Aj Aa x) Ae
 |[],s3,s4,_=>⟨s3,s4,rfl⟩
 |n::L,s3,s4,hL=>by
  have hn:=hL n Aw;have ex:=hpt p n hp;rw[AK (by omega) hn]at ex
  have hx:ptI p (n:Ad)∈Cf p:=Bo.mpr ⟨n,A5.mpr (by omega),rfl⟩
  have n2:=T7 (ptI p (n:Ad)) pts;have n1:=sF (pts:=pts) hx;obtain⟨s3',s4',ih⟩:=Xs hpt hp L (si n) (sh (Aj Aa (ptI p (n:Ad)))) λm hm=>hL m (Av _ hm)
  refine⟨s3',s4',?_⟩;rw[Bm,Bm,Db,DK];show (AY Z 3 Kg (.int n) _).turn _=_;rw[ky ex n1 n2];have fb:((fpr p pts (ptI p (n:Ad))).isNone && !decide (ptI p (n:Ad)∈pts))=JW p pts (ptI p (n:Ad)):=XQ _ _;rw[fb];cases hb:JW p pts (ptI p (n:Ad)) with
  |true=>rfl
  |false=>exact ih
noncomputable def Jp:Ac R3->D
 |[]=>.non
 |x::_=>Aj Aa x
theorem rR{Y':Rho}(m:DZ p p=Aa)(hN:p*p+p+1=N)(e:Z.F 235 [.int p,T]=.ok DC)(rN:CF 0 N=.ok RL)(lp:B5 (AY Z 3 Kg) RL [si p,sh T,sh DC,Af,Af]=.next Y'):Kq.run Z [.int p,T]=.ok .non:=by
 simp[Kq,Df.run,Bv,m,hN,e,rN,lp]
theorem rQ(m:DZ p p=Aa)(hN:p*p+p+1=N)(e:Z.F 235 [.int p,T]=.ok DC)(rN:CF 0 N=.ok RL)(lp:B5 (AY Z 3 Kg) RL [si p,sh T,sh DC,Af,Af]=.ret X Ae):Kq.run Z [.int p,T]=.ok X:=by
 simp[Kq,Df.run,Bv,m,hN,e,rN,lp]
def VS(Z:Gam):Prop:=∀(p:Ad)(pts:Ac R3),P4 p->(∀ x∈pts,NF p x)->pts.length<=15->Z.F 263 [.int p,At pts]=.ok (Jp (CT p pts))
theorem qQ(hd:VR Z)(h:LR Z)(hp:P4 p)(np:∀ x∈pts,NF p x)(hz:pts.length<=15):Kq.run Z [.int p,At pts]=.ok (Jp (CT p pts)):=by
 have N1:0<=p*p+p+1/\p*p+p+1<=1000:=by rcases hp with rfl|rfl|rfl|rfl<;>decide
 have ph:=hp.hi;have pl:=hp.lo;have m:DZ p p=Aa:=HZ (by omega) (by omega)
 have rN:CF 0 (p*p+p+1)=.ok (CJ 0 (p*p+p+1).toNat):=by
  have:=Ko (lo:=0) (hi:=p*p+p+1) (by decide) (by decide) (by omega) (by omega)
  rwa [E7]at this
 obtain⟨s3,s4,lp⟩:=Xs (pts:=pts) h hp (AZ (p*p+p+1).toNat) Af Af λk hk=>by have:=A5.mp hk;omega
 have ef:CT p pts=((AZ (p*p+p+1).toNat).map fun(n:Ag)=>ptI p n).filter (JW p pts):=QL p pts
 rw[<-ef]at lp;have hd':=hd p pts hp np hz;cases e:CT p pts with
 |nil=>rw[e]at lp;exact rR m rfl hd' rN lp
 |cons x r=>rw[e]at lp;exact rQ m rfl hd' rN lp
theorem sR{C:D}{n:Ad}(h:Z.F 194 [T]=.ok .non)(e:Z.F 65 [.int p,T]=.ok .non)(ln:biD .len [T]=.ok (.int n))(hn:n=p+1)(ec:Z.F 224 [.int p,T]=.ok C):LB.run Z [.int p,T]=.ok (.tup [.str (By "curve"),C]):=by
 subst hn;simp[LB,Df.run,Bv,h,e,ln,ec]
theorem sQ{L:D}{n:Ad}(h:Z.F 194 [T]=.ok .non)(e:Z.F 65 [.int p,T]=.ok .non)(ln:biD .len [T]=.ok (.int n))(hn:¬ n=p+1)(ef:Z.F 223 [.int p,T]=.ok L)(lm:biD .len [L]=.ok (.int 0))(ee:Z.F 226 [.int p,T]=.ok X):LB.run Z [.int p,T]=.ok (.tup [.str (By "ends"),X]):=by
 simp[LB,Df.run,Bv,h,e,ln,hn,ef,lm,ee]
end
noncomputable def Py:Df:=⟨12,Ae,(.cons (.asg 3 Aa (.lst (.cons (.lst (.cons (.int 1) (.cons (.int 0) (.cons (.int 0) .nil)))) (.cons (.lst (.cons (.int 0) (.cons (.int 1) (.cons (.int 0) .nil)))) (.cons (.lst (.cons (.int 0) (.cons (.int 0) (.cons (.int 1) .nil)))) .nil))))) (.cons (.fors 4 (.rng (.int 14)) HU) (.cons (.asg 8 Ae (.bin .Add (.int 1) (.bin .Mod (.call 228 (.cons (.var 1) (.cons (.bin .Add (.var 2) (.int 14)) .nil))) (.bin .Sub (.var 0) (.int 1))))) (.cons (.put 3 (.int 0) (.comp Ph 11 (.e (.idx (.var 3) (.int 0))) CM)) (.cons (.ret (.var 3)) .nil)))))⟩
theorem bv(hm:KH Z 228 ns)(p at_:Ad)(hp:P4 p)(ha:0<=at_):∃ a b c,GoodR p a b c/\Py.run Z [.int p,scr ns,.int at_]=.ok (Hd a b c):=by
 have p0:=hp.pos;have g0:GoodR p e0R e1R e2R:=(uY hp).1;have rg:CF 0 14=.ok (CJ 0 14):=rfl;obtain⟨Y',e,a,b,c,s4,s5,s6,s7,s8,g,rfl⟩:=QD (body:=AY Z 4 HU) (λY=>∃ a b c s4 s5 s6 s7 s8,GoodR p a b c/\Y=[si p,sh (scr ns),si at_,Ab (.lst (L3 a b c),Aa),s4,s5,s6,s7,s8,Af,Af,Af]) (CJ 0 14) [si p,sh (scr ns),si at_,Ab (.lst (L3 e0R e1R e2R),Aa),Af,Af,Af,Af,Af,Af,Af,Af] ⟨_,_,_,_,_,_,_,_,g0,rfl⟩ (by
  rintro x hx Y ⟨a,b,c,s4,s5,s6,s7,s8,g,rfl⟩;obtain⟨k,_,rfl⟩:=U_3 hx;obtain⟨a',b',c',v5,v6,v7,v8,g',e⟩:=oR (s4:=s4) (s5:=s5) (s6:=s6) (s7:=s7) (s8:=s8) hm g ha (k:=0+(k:Ad)) (by omega)
  exact⟨_,e,a',b',c',_,_,_,_,_,g',rfl⟩)
 obtain⟨m,m0,e2⟩:=hm (at_+14) (by omega)
 have q1:0<p-1:=by have:=hp.lo;omega
 have q2:1<p:=by have:=hp.lo;omega
 have t0:0<1+m%(p-1):=by have:=AS m (b:=p-1) (by omega);omega
 have t1:1+m%(p-1)<p:=by have:=AQ m q1;omega
 generalize ht:1+m%(p-1)=t at t0 t1;have tz:t%p≠0:=by rw[AK (by omega) t1];omega
 have mt:∀ x,DZ t x=Aa:=λx=>HZ (by omega) (by have:=hp.hi;omega)
 refine⟨scR p t a,b,c,g.of (k:=t) tz (fK p t a b c) ⟨ou p0 _ _,g.ib,g.ic⟩,?_⟩;have cp:BR (cG Z [si p,sh (scr ns),si at_,Ab (.lst (L3 a b c),Aa),s4,s5,s6,s7,si t,Af,Af,Af] 11 CM) (cF Z [si p,sh (scr ns),si at_,Ab (.lst (L3 a b c),Aa),s4,s5,s6,s7,si t,Af,Af,Af] 11 Ph) [.int a.1,.int a.2.1,.int a.2.2]=.ok [.int (a.1*t%p),.int (a.2.1*t%p),.int (a.2.2*t%p)]:=by
  refine Kl (φ:=λx=>x*t%p) [a.1,a.2.1,a.2.2] λx _=>⟨rfl,?_⟩
  simp[cF,Ph,mt,p0,BS]
 have e':B5 (AY Z 4 HU) (CJ 0 14) [si p,sh (scr ns),si at_,Ab (.lst [.lst [.int 1,.int 0,.int 0],.lst [.int 0,.int 1,.int 0],.lst [.int 0,.int 0,.int 1]],Aa),Af,Af,Af,Af,Af,Af,Af,Af]=_:=e;have g0':DH (L3 a b c) 0=.ok (.lst [.int a.1,.int a.2.1,.int a.2.2]):=rfl;have pl:plD (L3 a b c).length 0=Ab 0:=rfl;have out:D.lst ((L3 a b c).set 0 (.lst [.int (a.1*t%p),.int (a.2.1*t%p),.int (a.2.2*t%p)]))=Hd (scR p t a) b c:=rfl
 clear e
 rw[<-out]
 clear out
 generalize L3 a b c=LL at *;generalize CJ 0 14=RL at *;generalize scr ns=S at *;simp[Py,Df.run,Bv,Do,rg,e',e2,q1,q2,ht,QM,C3,g0',pl,cp]
noncomputable def Nh:E:=(.call 237 (.cons (.var 1) (.cons (.var 9) (.cons (.int 3) .nil))))
noncomputable def La:E:=(.cmp .IsNot (.var 6) .non)
noncomputable def Ng:Ss:=(.cons (.app 5 (.var 6)) (.cons (.asg 6 Ae (.call 263 (.cons (.var 1) (.cons (.var 5) .nil)))) .nil))
noncomputable def Ms:Df:=⟨10,Ae,(.cons (.asg 1 Ae (.call 229 (.cons (.var 0) .nil))) (.cons (.asg 2 Ae (.call 262 (.cons (.var 1) (.cons (.var 0) .nil)))) (.cons (.asg 3 Ae (.bi .list (.cons (.var 2) .nil))) (.cons (.asg 4 Aa (.call 261 (.cons (.var 1) (.cons (.var 3) .nil)))) (.cons (.lnd (.or (.cons (.no (.isi (.var 4) [.list])) (.cons (.cmp .NotEq (.var 3) (.var 2)) (.cons (.no (.bi .all (.cons (.comp Nh 9 (.e (.var 4)) CM) .nil))) .nil)))) (.cons (.ret (.bl Ae)) .nil) .nil) (.cons (.asg 5 Aa (.bi .list (.cons (.var 2) .nil))) (.cons (.asg 6 Ae (.call 263 (.cons (.var 1) (.cons (.var 5) .nil)))) (.cons (.whl La Ng) (.cons (.ife (.or (.cons (.cmp .NotEq (.var 4) (.var 5)) (.cons (.cmp .Gt (.bi .len (.cons (.var 4) .nil)) (.bin .Add (.var 1) (.int 1))) .nil))) (.cons (.ret (.bl Ae)) .nil) .nil) (.cons (.asg 7 Ae (.idx (.call 227 (.cons (.var 1) (.cons (.bi .list (.cons (.var 4) .nil)) .nil))) (.int 0))) (.cons (.ife (.or (.cons (.and (.cons (.cmp .NotEq (.var 7) (.str (By "curve"))) (.cons (.cmp .Eq (.bi .len (.cons (.var 4) .nil)) (.bin .Add (.var 1) (.int 1))) .nil))) (.cons (.and (.cons (.cmp .NotEq (.var 7) (.str (By "ends"))) (.cons (.cmp .Lt (.bi .len (.cons (.var 4) .nil)) (.bin .Add (.var 1) (.int 1))) .nil))) .nil))) (.cons (.ret (.bl Ae)) .nil) .nil) (.cons (.asg 8 Ae (.call 261 (.cons (.var 1) (.cons (.bi .list (.cons (.var 4) .nil)) .nil)))) (.cons (.app 4 (.tup (.cons (.int 7) (.cons (.int 7) (.cons (.int 7) .nil))))) (.cons (.ret (.and (.cons (.cmp .Eq (.var 8) (.var 5)) (.cons (.cmp .Eq (.var 3) (.var 2)) .nil)))) .nil))))))))))))))⟩
noncomputable def NR:Df:=⟨3,Ae,(.cons (.asg 2 Ae (.call 65 (.cons (.var 0) (.cons (.var 1) .nil)))) (.cons (.ife (.cmp .IsNot (.var 2) .non) (.cons (.rais 118 (.cons (.var 2) .nil)) .nil) .nil) .nil))⟩
section
variable{Z:Gam}{p:Ad}{pts:Ac R3}{ns:Ac Ad}
theorem VD(e:Z.F 65 [.int p,PP]=.ok .non):NR.run Z [.int p,PP]=.ok .non:=by
 simp[NR,Df.run,Bv,e]
theorem qH(e:Z.F 194 [PP]=.ok .non)(e':Z.F 109 [.int p,PP]=.ok .non):Np.run Z [.int p,PP]=.ok .non:=by
 simp[Np,Df.run,Bv,e,e']
theorem dB(hle:VS Z)(f3:Z.fr 263=Ae)(hp:P4 p){S PT HD:D}{FD:Sl}:∀(f:Ag)(due:Ac R3),Fre p due->p+1<=(due.length:Ad)+f->Fw (whC Z La) (whB Z Ng) (f+1) [sh S,si p,sh PT,sh HD,FD,ow due,sh (Jp (CT p due)),Af,Af,Af]=.next [sh S,si p,sh PT,sh HD,FD,ow (grw p f due),sh .non,Af,Af,Af]:=by
 intro f
 induction f with
 |zero=>
  intro due fr h;have e:=OI hp fr (by omega)
  rw[MA e,e];rw[Qp (by simp[whC,La,Jp])]
  rfl
 |succ f ih=>
  intro due fr h;cases e:CT p due with
  |nil=>
   rw[MA e];rw[Qp (by simp[whC,La,Jp])]
   rfl
  |cons x r=>
   have mx:x∈CT p due:=by rw[e];exact Aw
   have fr':=fr.add hp mx;have l12:=JT hp fr;rw[QA e,<-ih (due++[x]) fr' (by rw[A4,Bq];omega)]
   have l13:=JT hp fr';have e1:=hle p (due++[x]) hp fr'.nf (by omega)
   have cl:G1 Ae (Jp (CT p (due++[x])))=Aa:=by
    cases CT p (due++[x]) with
    |nil=>rfl
    |cons y r=>rfl
   have sz:CN ((due.map (Aj Aa)).length+1)=Aa:=by rw[AV];exact CQ (by omega)
   have ap:(due.map (Aj Aa))++[Aj Aa x]=(due++[x]).map (Aj Aa):=by simp
   have e1':Z.F 263 [.int p,.lst ((due++[x]).map (Aj Aa))]=.ok (Jp (CT p (due++[x]))):=e1
   clear e1
   unfold ow;rw[<-ap]at e1' ⊢;have iX:B7 .IsNot (Aj Aa x) .non=.ok (.bl Aa):=rfl;show Fw _ _ _ [sh S,si p,sh PT,sh HD,FD,Ab (.lst (due.map (Aj Aa)),Aa),sh (Aj Aa x),Af,Af,Af]=_;generalize Jp (CT p (due++[x]))=LX at *;generalize due.map (Aj Aa)=TT at *;generalize Aj Aa x=X at *;rw[Vi (Y':=[sh S,si p,sh PT,sh HD,FD,Ab (.lst (TT++[X]),Aa),sh LX,Af,Af,Af]) (by simp[whC,La,iX]) (by simp[whB,Ng,e1',f3,cl,C3,sz])]
theorem ox{S L0 W X:D}{PL GL BB:Ac D}(e1:Z.F 229 [S]=.ok (.int p))(e2:Z.F 262 [.int p,S]=.ok (.lst PL))(e3:Z.F 261 [.int p,.lst PL]=.ok (.lst GL))(fg:Z.fr 261=Aa)(cg:G1 Aa (.lst GL)=Aa)(cp:BR (cG Z [sh S,si p,sh (.lst PL),sh (.lst PL),sh (.lst GL),Af,Af,Af,Af,Af] 9 CM) (cF Z [sh S,si p,sh (.lst PL),sh (.lst PL),sh (.lst GL),Af,Af,Af,Af,Af] 9 Nh) GL=.ok BB)(al:GA BB=.ok Aa)(f3:Z.fr 263=Ae)(e5:Z.F 263 [.int p,.lst PL]=.ok L0)(c5:G1 Ae L0=Aa)(lp:Fw (whC Z La) (whB Z Ng) LO [sh S,si p,sh (.lst PL),sh (.lst PL),Ab (.lst GL,Aa),Ab (.lst PL,Aa),sh L0,Af,Af,Af]=.next [sh S,si p,sh (.lst PL),sh (.lst PL),Ab (.lst GL,Aa),Ab (.lst GL,Aa),sh .non,Af,Af,Af])(qP:eqDs PL PL=Aa)(qG:eqDs GL GL=Aa)(fP:∀ x∈PL,flD 4 x=Aa)(fG:∀ x∈GL,flD 4 x=Aa)(ln:(GL.length:Ad)<=p+1)(e7:Z.F 227 [.int p,.lst GL]=.ok (.tup [W,X]))(hW:W=.str (By (if (GL.length:Ad)=p+1 then "curve" else "ends")))(sz:CN (GL.length+1)=Aa)(e8:Z.F 261 [.int p,.lst GL]=.ok (.lst GL)):Ms.run Z [S]=.ok (.bl Aa):=by
 have lP:biD .list [.lst PL]=.ok (.lst PL):=rfl;have lG:biD .list [.lst GL]=.ok (.lst GL):=rfl;have ix:Cr (.tup [W,X]) (.int 0)=.ok W:=rfl;have iP:(∀ x,x∈PL->flD 4 x=Aa)=G9:=eq_true fP;have iG:(∀ x,x∈GL->flD 4 x=Aa)=G9:=eq_true fG;have nl:¬ p+1<(GL.length:Ad):=by omega
 by_cases h:(GL.length:Ad)=p+1
 .rw[AF h]at hW;subst hW;simp[Ms,Df.run,Bv,e1,e2,lP,e3,fg,cg,cp,al,f3,e5,c5,lp,qP,qG,iP,iG,e7,ix,h,e8,lG,Do,C3,sz,shA,shS]
 .rw[AN h]at hW;subst hW;simp[Ms,Df.run,Bv,e1,e2,lP,e3,fg,cg,cp,al,f3,e5,c5,lp,qP,qG,iP,iG,e7,ix,h,nl,e8,lG,Do,C3,sz,shA,shS]
theorem cA(L:Ac α):GA (L.map λ_=>D.bl Aa)=.ok Aa:=by
 induction L with
 |nil=>rfl
 |cons x L ih=>rw[Bm];show (GA (L.map λ_=>D.bl Aa)).bind _=_;rw[ih];rfl
theorem kI(l:Ac R3):G1 Ae (Jp l)=Aa:=by
 cases l with
 |nil=>rfl
 |cons x r=>rfl
theorem Xn(l:Ac R3):(∀ x∈l.map (Aj Aa),flD 4 x=Aa)/\eqDs (l.map (Aj Aa)) (l.map (Aj Aa))=Aa:=by
 have h:∀ x∈l.map (Aj Aa),flD 4 x=Aa:=λx hx=>by
  obtain⟨r,_,rfl⟩:=Bo.mp hx;rfl
 exact⟨h,UG 5 (.lst (l.map (Aj Aa))) (List.all_eq_true.mpr h)⟩
structure H75 (Z:Gam) (ns:Ac Ad):Prop where
 pr:∃ p,P4 p/\Z.F 229 [scr ns]=.ok (.int p)
 fs:∀ p,P4 p->∃ l,Fre p l/\Z.F 262 [.int p,scr ns]=.ok (At l)
 gr:∀(p:Ad)(pts:Ac R3),P4 p->Fre p pts->Z.F 261 [.int p,At pts]=.ok (At (grw p 4095 pts))
 fg:Z.fr 261=Aa
 le:VS Z
 f3:Z.fr 263=Ae
 lk:∀(p:Ad)(pts:Ac R3),P4 p->Fre p pts->CT p pts=[]->∃ X,Z.F 227 [.int p,At pts]=.ok (.tup [.str (By (if (pts.length:Ad)=p+1 then "curve" else "ends")),X])
 fd:∀(p:Ad)(x:R3),P4 p->NF p x->Z.F 237 [.int p,Aj Aa x,.int 3]=.ok (.bl Aa)
theorem gk(h:H75 Z ns):Ms.run Z [scr ns]=.ok (.bl Aa):=by
 obtain⟨p,hp,e1⟩:=h.pr;obtain⟨l,f,e2⟩:=h.fs p hp;have l12:=JT hp f;have ph:=hp.hi;obtain⟨g,en⟩:=Wh hp 4095 l f (by omega)
 have e3:=h.gr p l hp f;have e8:=h.gr p _ hp g;rw[MA en]at e8;have lp:=dB h.le h.f3 hp (S:=scr ns) (PT:=At l) (HD:=At l) (FD:=ow (grw p 4095 l)) 4095 l f (by omega)
 have lp':∀ x,x=4095+1->Fw _ _ x _=_:=λx hx=>hx ▸ lp
 have lp'':=lp' LO rfl
 clear lp lp'
 obtain⟨X,e7⟩:=h.lk p _ hp g en;have g12:=JT hp g;have e5:=h.le p l hp f.nf (by omega)
 generalize grw p 4095 l=G at *;have cp:=QH (g:=cG Z [sh (scr ns),si p,sh (At l),sh (At l),sh (At G),Af,Af,Af,Af,Af] 9 CM) (f:=cF Z [sh (scr ns),si p,sh (At l),sh (At l),sh (At G),Af,Af,Af,Af,Af] 9 Nh) (Aj Aa) (λ_=>Aa) (λ_=>D.bl Aa) G λx hx=>⟨rfl,λ_=>by
  have fd:=h.fd p x hp (g.nf x hx);generalize At G=TG;generalize At l=TL;generalize scr ns=SS;generalize Aj Aa x=X at *;simp[cF,Nh,fd]⟩
 obtain⟨fP,qP⟩:=Xn l;obtain⟨fG,qG⟩:=Xn G;exact ox (PL:=l.map (Aj Aa)) (GL:=G.map (Aj Aa)) e1 e2 e3 h.fg (Ny G) cp (cA _) h.f3 e5 (kI _) lp'' qP qG fP fG (by rw[AV];exact g.ln) e7 (by rw[AV]) (by rw[AV];exact CQ (by omega)) e8
end
noncomputable def eI:Ag->Ac Ag:=λ_=>[]
noncomputable def eG:Ag->Ac D->R Ex:=λ_ _=>.bad
noncomputable def Q75:Prg:=⟨Aa,fun
 |1=>Rl
 |9=>M3
 |17=>Nr
 |23=>PQ
 |24=>Rm
 |56=>OZ
 |57=>Rn
 |61=>P8
 |65=>K4
 |194=>Mt
 |109=>NR
 |69=>Up
 |104=>Qs
 |91=>P7
 |78=>Qi
 |98=>PF
 |105=>QQ
 |106=>PR
 |122=>Qk
 |123=>M5
 |126=>Mv
 |128=>Nd
 |131=>Pk
 |132=>QP
 |133=>NP
 |110=>QI
 |111=>Pq
 |112=>Mi
 |195=>Nj
 |196=>Pf
 |197=>Ni
 |198=>Na
 |221=>Nz
 |222=>O4
 |223=>NZ
 |224=>Km
 |225=>Mh
 |226=>ME
 |227=>LB
 |260=>Np
 |261=>NQ
 |228=>Md
 |229=>PB
 |288=>Pp
 |231=>fW
 |232=>PD
 |233=>Qr
 |234=>Px
 |235=>Mg
 |250=>Py
 |289=>PU
 |290=>M6
 |251=>Kf
 |236=>Pz
 |237=>PV
 |262=>Kh 2 120
 |263=>Kq
 |264=>Ms
 | _=>⟨0,Ae,.nil⟩,λ_=>.non,eI,eG⟩
theorem aU(ns:Ac Ad)(hl:ns.length<=63):(gam Q75 9).F 264 [scr ns]=.ok (.bl Aa):=by
 have gF:∀ n i ds,(gam Q75 (n+1)).F i ds=(Q75.defs i).run (gam Q75 n) ds:=λ_ _ _=>rfl
 have d65:Q75.defs 65=K4:=rfl;have d109:Q75.defs 109=NR:=rfl;have d112:Q75.defs 112=Mi:=rfl;have d123:Q75.defs 123=M5:=rfl;have d128:Q75.defs 128=Nd:=rfl;have d133:Q75.defs 133=NP:=rfl;have d194:Q75.defs 194=Mt:=rfl;have d223:Q75.defs 223=NZ:=rfl;have d224:Q75.defs 224=Km:=rfl;have d225:Q75.defs 225=Mh:=rfl;have d226:Q75.defs 226=ME:=rfl;have d227:Q75.defs 227=LB:=rfl;have d234:Q75.defs 234=Px:=rfl;have d235:Q75.defs 235=Mg:=rfl;have d251:Q75.defs 251=Kf:=rfl;have d260:Q75.defs 260=Np:=rfl;have d261:Q75.defs 261=NQ:=rfl;have d262:Q75.defs 262=Kh 2 120:=rfl;have d263:Q75.defs 263=Kq:=rfl;have d290:Q75.defs 290=M6:=rfl;have fa:∀ n i,(gam Q75 n).fr i=(Q75.defs i).fr:=λn i=>by cases n<;>rfl
 have rs:∀ n,Ib (gam Q75 (n+1)):=λn p m hp=>cb (gam Q75 n) p m hp
 have mi:∀ n,KH (gam Q75 (n+1)) 228 ns:=λn k hk=>cq (gam Q75 n) ns hl k hk
 have tu:∀ n,Qv (gam Q75 (n+2)):=λn p m hp z=>jI (rs n) p m hp z
 have fo:∀ n,NI (gam Q75 (n+3)):=λn p b xs l t hp e it=>qR (rs (n+1)) (tu n) hp e it
 have me:∀ n,Hw (gam Q75 (n+2)):=λn p q a b c hp ha hb hc=>qO (rs n) p q a b c hp ha hb hc
 have jo:∀ n,N5 (gam Q75 (n+4)):=λn p a b hp ia ib la lb ne=>cw (λa b ha hb ne=>TU (gam Q75 (n+2)) a b ha hb ne) (fo n) p a b hp ia ib la lb ne
 have ly:∀ n,WX (gam Q75 (n+2)):=λn p x y hp ix iy=>cv (rs n) p x y hp ix iy
 have on:∀ n,Rj (gam Q75 (n+3)):=λn p x y hp ix iy=>ck (ly n) p x y hp ix iy
 have an:∀ n,XE (gam Q75 (n+4)):=λn p x ls hp ix hl=>om (on n) x ls hp ix hl
 have st:∀ n,MG (gam Q75 (n+5)):=λn p pts f left hp np nf ni nl=>qF (jo n) (an n) pts f left hp np nf ni nl
 have tr:∀ n p,P4 p->(gam Q75 (n+1)).F 69 [.int p]=.ok (At (Cf p)):=λn p hp=>oi (gam Q75 n) p hp
 have ft:∀ n,XC (gam Q75 (n+6)):=λn p pts hp np nd hz=>by rw[gF,d223];exact cx (st n) (by rw[fa];rfl) (by rw[fa];rfl) (λp hp=>tr (n+4) p hp) pts hp np nd
 have fi:∀ n (p:Ad) (pts:Ac R3),P4 p->(∀ x∈pts,NF p x)->pts.length<=1000->(gam Q75 (n+3)).F 65 [.int p,At pts]=.ok ((z0_ p pts).getD .non):=λn p pts hp np hz=>by rw[gF,d65];exact mI (me n) hp (λx hx=>(np x hx).1) (by show pts.length<20000;omega)
 have tw2:∀ n,WU (gam Q75 (n+3)):=λn p pts x hp np ix=>by rw[gF,d225];exact br (me n) hp np ix
 have ee:∀ n (p:Ad) (pts:Ac R3),P4 p->(∀ x∈pts,NF p x)->(∀ x∈Cf p,x∉pts->∃ q,fpr p pts x=Ab q)->(gam Q75 (n+4)).F 226 [.int p,At pts]=.ok (OY p pts):=λn p pts hp np ha=>by rw[gF,d226];exact ol (λp hp=>tr (n+2) p hp) (tw2 n) hp np ha
 have tf:∀ n,N4 (gam Q75 (n+4)):=λn p t q a b c hp ha hb hc z l u e it=>bt (me (n+1)) (fo n) p t q a b c hp ha hb hc z l u e it
 have co:∀ n,ML (gam Q75 (n+1)):=λn=>cy _
 have su:∀ n,Ri (gam Q75 (n+2)):=λn=>bz (rs n)
 have cr:∀ n,VW (gam Q75 (n+2)):=λn=>qX (TU _)
 have ba:∀ n,Rk (gam Q75 (n+5)):=λn=>d5 (cr (n+2)) (co (n+3)) (tf n)
 have af:∀ n,VZ (gam Q75 (n+5)):=λn=>qY (co (n+3)) (su (n+2)) (tf n)
 have fq:∀ n,SZ (gam Q75 (n+5)):=λn=>eF (me (n+2)) (mE _) (co (n+3)) (tf n)
 have f4:∀ n,nW (gam Q75 (n+3)):=λn p a b c d hp ha hb hc hd h=>by rw[gF,d65,qT (me n) p a b c d hp ha hb hc hd h]
 have ask:∀ n,XD (gam Q75 (n+4)):=λn p a b c d hp ha hb hc hd h=>by rw[gF,d109,VD (f4 n p a b c d hp ha hb hc hd h)]
 have cf:∀ n,NX (gam Q75 (n+4)):=λn p b xs l t hp e it=>cz (rs (n+2)) (fo n) hp e it
 have va:∀ n,QT (gam Q75 (n+2)):=λn=>qD (rs n)
 have vb:∀ n,WT (gam Q75 (n+2)):=λn=>bq (rs n)
 have tw:∀ n,VP (gam Q75 (n+2)):=λn=>qE (rs n)
 have lm:∀ n,WW (gam Q75 (n+1)):=λn=>cu _
 have fc:∀ n,VV (gam Q75 (n+5)):=λn=>qW (jo n) (lm (n+3)) (vb (n+2)) (cf n)
 have ff:∀ n,VU (gam Q75 (n+3)):=λn=>qU (me n)
 have au:∀ n,Uz (gam Q75 (n+1)):=λn p C pts h=>by rw[gF,d194,show Mt=Nk from rfl,mL _ p C pts h]
 have mx:∀ n,WV (gam Q75 (n+3)):=λn=>cn (tw n) (su n)
 have cok:HC71 (gam Q75 6):=by
  refine⟨λp hp=>?_,λp C hp iC=>?_,λp f0 f1 f2 f3 g0 g1 g2 g3 hp F G=>?_,λp C a b c iC lC T=>?_,λp C pts hp iC lC h=>mC (au 4) (ff 2) (fc 0) p C pts hp iC lC h⟩
  .rw[gF,d123,mF (cf 1) p hp]
  .rw[gF,d128,qJ (λp hp=>tr 4 p hp) (va 3) p C hp iC]
  .obtain⟨a,b,c,T,e⟩:=mG (ask 1) (fq 0) (ba 0) (af 0) hp F G;exact⟨a,b,c,T,by rw[gF,d112,e]⟩
  .obtain⟨E,_,_,_,e⟩:=qN (ba 0) (co 4) (va 3) (mx 2) (cf 1) p C a b c iC lC T;exact⟨E,by rw[gF,d133,e]⟩
 have sm:∀ n,H9 (gam Q75 (n+1)):=λn p q q' a x p0 ha hx=>mD (gam Q75 n) p q q' a x p0 ha hx
 have cs:∀ n,Ix (gam Q75 (n+1)):=λn p q q' a x p0 ha hx=>mK (gam Q75 n) p q q' a x p0 ha hx
 have fm:∀ n,VT (gam Q75 (n+1)):=λn p b xs l t hp e it=>qS (gam Q75 n) hp e it
 have le:∀ n,UR (gam Q75 (n+2)):=λn p t q q' a b c x G hx lx=>mH (sm n) (fm n) p t q q' a b c x G hx lx
 have pt:∀ n,LR (gam Q75 (n+1)):=λn p m hp=>ce (gam Q75 n) p m hp
 have th:∀ n (p:Ad) (pts:Ac R3),P4 p->(∀ x∈pts,NF p x)->pts.length<=1000->(gam Q75 (n+2)).F 234 [.int p,At pts]=.ok ((z0_ p pts).getD .non):=λn p pts hp np hz=>by rw[gF,d234];exact mB (cs n) (sm n) hp (λx hx=>(np x hx).1) hz
 have rq:∀ n,VQ (gam Q75 (n+1)):=λn p xs hx=>qI (gam Q75 n) p xs hx
 have fd:∀ n (p:Ad) (x:R3),P4 p->NF p x->(gam Q75 (n+2)).F 237 [.int p,Aj Aa x,.int 3]=.ok (.bl Aa):=λn p x hp nx=>qV (rq n) p [x.1,x.2.1,x.2.2] hp.pos (by
  obtain⟨⟨h1,h2,h3⟩,_⟩:=nx;intro y hy;simp at hy;rcases hy with rfl|rfl|rfl<;>assumption) nx.2
 have fs:∀ n,HFs (gam Q75 (n+4)) ns:=λn=>⟨λp at_ hp ha=>bv (mi (n+2)) p at_ hp ha,λp a b c G=>by rw[gF,d290];exact ci (le (n+1)) p a b c G,λat_ L ha hL=>by
  obtain⟨M,pm,e⟩:=qM (mi (n+2)) at_ L ha hL;exact⟨M,pm,by rw[gF,d251];exact e⟩,mi (n+3),pt (n+3),by rw[fa];rfl,λp pts hp np hz=>th (n+2) p pts hp np hz⟩
 have pa:∀ n,VR (gam Q75 (n+2)):=λn p pts hp np hz=>by rw[gF,d235];exact qL (pt n) (cs n) (sm n) hp np hz
 have lk:∀(p:Ad)(pts:Ac R3),P4 p->Fre p pts->CT p pts=[]->∃ X,(gam Q75 (7+1)).F 227 [.int p,At pts]=.ok (.tup [.str (By (if (pts.length:Ad)=p+1 then "curve" else "ends")),X]):=λp pts hp f en=>by
  have ln:=Ml pts;have l12:=JT hp f;have e65:=fi 4 p pts hp f.nf (by omega)
  rw[f.z0]at e65;have e194:(gam Q75 7).F 194 [At pts]=.ok .non:=Xf (Z:=gam Q75 6) pts f.nd;by_cases hl:(pts.length:Ad)=p+1
  .obtain⟨C,eC⟩:=jK cok hp f.n3 hl;refine⟨Ck C,?_⟩;rw[AF hl,gF 7,d227];exact sR e194 e65 ln hl (by rw[gF 6,d224];exact eC)
  .have e223:=ft 1 p pts hp f.nf f.nd (by omega)
   rw[en]at e223;refine⟨OY p pts,?_⟩;rw[AN hl,gF 7,d227];exact sQ e194 e65 ln hl e223 rfl (ee 3 p pts hp f.nf (vN en))
 have as:∀(p:Ad)(pts:Ac R3),P4 p->Fre p pts->(gam Q75 (6+1)).F 260 [.int p,At pts]=.ok .non:=λp pts hp f=>by
  have l12:=JT hp f;have e:=fi 2 p pts hp f.nf (by omega)
  rw[f.z0]at e;have e9:(gam Q75 6).F 109 [.int p,At pts]=.ok .non:=VD e;rw[gF 6,d260];exact qH (Xf (Z:=gam Q75 5) pts f.nd) e9
 have gr:∀(p:Ad)(pts:Ac R3),P4 p->Fre p pts->(gam Q75 (7+1)).F 261 [.int p,At pts]=.ok (At (grw p 4095 pts)):=λp pts hp f=>by
  rw[gF 7,d261];exact jJ (st 2) (by rw[fa];rfl) (by rw[fa];exact Ny _) (ft 1) hp f (as p pts hp f)
 refine gk (Z:=gam Q75 8) ⟨qK (mi 6),λp hp=>?_,gr,by rw[fa];rfl,λp pts hp np hz=>by rw[gF 7,d263];exact qQ (pa 5) (pt 6) hp np hz,by rw[fa];rfl,lk,λp x hp nx=>fd 6 p x hp nx⟩
 obtain⟨l,f,hl,e⟩:=cY (fs 3) hp (j:=2) (t:=120) (by decide) (by decide)
 exact⟨l,f,by rw[gF 7,d262];exact e⟩
end OvC
namespace OvC
open PySem PySem.Spec PyProof.Rows Ov L2
variable{l:Gk}
noncomputable def Xl:Ac (An×Ag×Ag):=([("rest",1,2),("turned_over",9,2),("one_form",17,2),("crossed",23,2),("lies",24,3),("on",56,3),("join",57,3),("measure",61,4),("first_three",65,2),("ask_unlike",194,1),("ask_no_three",109,2),("triples",69,1),("columns",104,1),("sums_by",91,3),("table_of",78,2),("crossed_rows",98,1),("after",105,3),("table_back",106,2),("curve_of",122,2),("plain_curve",123,1),("value",126,3),("points_of",128,2),("twice_table",131,2),("mixed",132,4),("moved",133,3),("scaled",110,2),("frame_table",111,2),("frame_move",112,3),("first_four",195,2),("lines_multiplied",196,2)]:Ac (An×Ag×Ag))++([("five_curve",197,2),("curve_through",198,2),("on_any",221,3),("still_fitting",222,4),("fitting",223,2),("curve_on",224,2),("first_two",225,3),("end_rows",226,2),("look",227,2),("ask_set",260,2),("grown",261,2),("_law_mixed",228,2),("_law_prime",229,1),("_law_form",288,2),("_law_point",231,2),("_law_cross",232,3),("_law_sum",233,3),("_law_three",234,2),("_law_pairs",235,2),("_law_table",250,3),("_law_led",289,3),("_law_oval",290,2),("_law_order",251,3),("_law_rests",236,3),("_law_formed",237,3),("_law_free_set",262,2),("_law_least",263,2),("law",264,1)]:Ac (An×Ag×Ag))
noncomputable def SQ:Ac An:=["all", "any", "bool", "enumerate", "int", "isinstance", "len", "list", "max", "min", "range", "sum", "tuple", "zip"]
noncomputable def W2:Ac (An×Ag):=[]
noncomputable def Xo:Ac (An×Ag):=[]
noncomputable def Xh:Ac (An×Ag):=[]
noncomputable abbrev C75(h:Al)(n:Ag)(N:Ac An)(i d:Ag):Al:=Ii 80 h Xl SQ W2 Xo Xh (N.take n) N (tp75 i) (Q75.defs d)
theorem jv:C75 Ae 2 ["p", "n"] 10 1=Aa:=by decide+kernel
theorem ju:C75 Ae 2 ["p", "n", "turned"] 11 9=Aa:=by decide+kernel
theorem jt:C75 Ae 2 ["p", "numbers", "rests", "first", "factor", "#5", "#6"] 13 17=Aa:=by decide+kernel
theorem jr:C75 Ae 2 ["one", "other"] 14 23=Aa:=by decide+kernel
theorem jq:C75 Ae 3 ["p", "point", "line"] 15 24=Aa:=by decide+kernel
theorem jp:C75 Ae 3 ["p", "point", "line"] 17 56=Aa:=by decide+kernel
theorem jm:C75 Ae 3 ["p", "one", "other"] 18 57=Aa:=by decide+kernel
theorem jk:C75 Ae 4 ["p", "one", "other", "third"] 19 61=Aa:=by decide+kernel
theorem jj:C75 Ae 2 ["p", "points", "i", "one", "j", "k"] 20 65=Aa:=by decide+kernel
theorem ji:C75 Ae 1 ["points", "place", "point"] 21 194=Aa:=by decide+kernel
theorem xJ:C75 Ae 2 ["p", "points", "three"] 22 109=Aa:=by decide+kernel
theorem xI:C75 Ae 1 ["p", "told", "z", "y", "#4"] 23 69=Aa:=by decide+kernel
theorem xH:C75 Ae 1 ["rows"] 25 104=Aa:=by decide+kernel
theorem xG:C75 Ae 3 ["p", "rows", "numbers", "#3"] 26 91=Aa:=by decide+kernel
theorem xF:C75 Ae 2 ["p", "rows", "nine"] 27 78=Aa:=by decide+kernel
theorem xE:C75 Ae 1 ["table"] 28 98=Aa:=by decide+kernel
theorem xD:C75 Ae 3 ["p", "one", "other", "sides", "#4"] 29 105=Aa:=by decide+kernel
theorem xC:C75 Ae 2 ["p", "table"] 30 106=Aa:=by decide+kernel
theorem xB:C75 Ae 2 ["p", "numbers", "rests", "#3"] 32 122=Aa:=by decide+kernel
theorem xA:C75 Ae 1 ["p"] 33 123=Aa:=by decide+kernel
theorem wZ:C75 Ae 3 ["p", "curve", "point", "squares", "products"] 34 126=Aa:=by decide+kernel
theorem wY:C75 Ae 2 ["p", "curve", "#2"] 35 128=Aa:=by decide+kernel
theorem wX:C75 Ae 2 ["p", "curve"] 36 131=Aa:=by decide+kernel
theorem wW:C75 Ae 4 ["p", "curve", "one", "other", "sums"] 37 132=Aa:=by decide+kernel
theorem wV:C75 Ae 3 ["p", "curve", "table", "sides", "squares", "products", "#6"] 38 133=Aa:=by decide+kernel
theorem wU:C75 Ae 2 ["factor", "point", "#2"] 40 110=Aa:=by decide+kernel
theorem wT:C75 Ae 2 ["p", "four", "sides"] 41 111=Aa:=by decide+kernel
theorem wS:C75 Ae 3 ["p", "four", "goals"] 42 112=Aa:=by decide+kernel
theorem wQ:C75 Ae 2 ["p", "points", "place", "four"] 44 195=Aa:=by decide+kernel
theorem wP:C75 Ae 2 ["one", "other"] 45 196=Aa:=by decide+kernel
theorem wO:C75 Ae 2 ["p", "points", "one", "other", "by_one", "by_other", "#6", "#7"] 46 197=Aa:=by decide+kernel
theorem wN:C75 Ae 2 ["p", "points", "four"] 47 198=Aa:=by decide+kernel
theorem wM:C75 Ae 3 ["p", "point", "lines", "line"] 49 221=Aa:=by decide+kernel
theorem wL:C75 Ae 4 ["p", "points", "further_point", "left", "lines", "#5", "#6"] 50 222=Aa:=by decide+kernel
theorem wK:C75 Ae 2 ["p", "points", "left", "place", "point"] 51 223=Aa:=by decide+kernel
theorem wJ:C75 Ae 2 ["p", "points", "plain"] 52 224=Aa:=by decide+kernel
theorem uA:C75 Ae 3 ["p", "points", "point", "place", "one", "other"] 53 225=Aa:=by decide+kernel
theorem tZ:C75 Ae 2 ["p", "points", "#2"] 54 226=Aa:=by decide+kernel
theorem tY:C75 Ae 2 ["p", "points", "three", "left"] 55 227=Aa:=by decide+kernel
theorem tX:C75 Ae 2 ["p", "points"] 56 260=Aa:=by decide+kernel
theorem tW:C75 Ae 2 ["p", "points", "told", "left", "point"] 57 261=Aa:=by decide+kernel
theorem tV:C75 Ae 2 ["_law_script", "_law_k", "_law_cell", "_law_step"] 59 228=Aa:=by decide+kernel
theorem tU:C75 Ae 1 ["_law_script"] 60 229=Aa:=by decide+kernel
theorem tT:C75 Ae 2 ["_law_p", "_law_numbers", "_law_rests_here", "_law_first", "_law_back", "#5", "#6", "#7", "#8"] 61 288=Aa:=by decide+kernel
theorem tS:C75 Ae 2 ["_law_p", "_law_number"] 62 231=Aa:=by decide+kernel
theorem tR:C75 Ae 3 ["_law_p", "_law_one", "_law_other", "_law_x", "_law_y", "_law_z"] 63 232=Aa:=by decide+kernel
theorem uX:C75 Ae 3 ["_law_p", "_law_one", "_law_other"] 64 233=Aa:=by decide+kernel
theorem uW:C75 Ae 2 ["_law_p", "_law_points", "_law_i", "_law_j", "_law_line", "_law_k"] 65 234=Aa:=by decide+kernel
theorem uV:C75 Ae 2 ["_law_p", "_law_points", "_law_pairs_here", "_law_every", "_law_i", "_law_j", "_law_line", "_law_point_here", "#8"] 66 235=Aa:=by decide+kernel
theorem uU:C75 Ae 3 ["_law_p", "_law_script", "_law_at", "_law_rows", "_law_k", "_law_number", "_law_i", "_law_j", "_law_many", "#9", "#10", "#11"] 67 250=Aa:=by decide+kernel
theorem uT:C75 Ae 3 ["_law_p", "_law_rows", "_law_point_here", "#3"] 68 289=Aa:=by decide+kernel
theorem uS:C75 Ae 2 ["_law_p", "_law_rows", "_law_points", "_law_t"] 69 290=Aa:=by decide+kernel
theorem uR:C75 Ae 3 ["_law_script", "_law_at", "_law_things", "_law_told", "_law_k", "_law_spot"] 70 251=Aa:=by decide+kernel
theorem uQ:C75 Ae 3 ["_law_p", "_law_found", "_law_many", "#3"] 71 236=Aa:=by decide+kernel
theorem uP:C75 Ae 3 ["_law_p", "_law_found", "_law_many", "#3"] 72 237=Aa:=by decide+kernel
theorem uO:C75 Ae 2 ["_law_p", "_law_script", "_law_way", "_law_many", "_law_points", "_law_k", "_law_point_here"] 73 262=Aa:=by decide+kernel
theorem uN:C75 Ae 2 ["_law_p", "_law_points", "_law_pairs_here", "_law_number", "_law_point_here"] 74 263=Aa:=by decide+kernel
theorem V7:C75 Ae 1 ["_law_script", "_law_p", "_law_points", "_law_handed", "_law_found", "_law_due", "_law_least_here", "_law_word", "_law_again", "#9"] 75 264=Aa:=by decide+kernel
set_option maxHeartbeats 0 in
theorem all75{w:AD}{K:Fg}{h:AJ}{mg:An->Aq Ai}{fa f0 f1 f2 f3 f4 f5 f6 f7 f8 f9 f10 f11 f12 f13 f14 f15 f16 f17 f18 f19 f20 f21 f22 f23 f24 f25 f26 f27 f28 f29 f30 f31 f32 f33 f34 f35 f36 f37 f38 f39 f40 f41 f42 f43 f44 f45 f46 f47 f48 f49 f50 f51 f52 f53 f54 f55 f56 f57:Ak}(X:K.In h)(G:h.Ns Bh mg)(hfa:mg "law" = Ab (.ref fa))(a0:FnI K f0 "rest" (tp75 10))(a1:FnI K f1 "turned_over" (tp75 11))(a2:FnI K f2 "one_form" (tp75 13))(a3:FnI K f3 "crossed" (tp75 14))(a4:FnI K f4 "lies" (tp75 15))(a5:FnI K f5 "on" (tp75 17))(a6:FnI K f6 "join" (tp75 18))(a7:FnI K f7 "measure" (tp75 19))(a8:FnI K f8 "first_three" (tp75 20))(a9:FnI K f9 "ask_unlike" (tp75 21))(a10:FnI K f10 "ask_no_three" (tp75 22))(a11:FnI K f11 "triples" (tp75 23))(a12:FnI K f12 "columns" (tp75 25))(a13:FnI K f13 "sums_by" (tp75 26))(a14:FnI K f14 "table_of" (tp75 27))(a15:FnI K f15 "crossed_rows" (tp75 28))(a16:FnI K f16 "after" (tp75 29))(a17:FnI K f17 "table_back" (tp75 30))(a18:FnI K f18 "curve_of" (tp75 32))(a19:FnI K f19 "plain_curve" (tp75 33))(a20:FnI K f20 "value" (tp75 34))(a21:FnI K f21 "points_of" (tp75 35))(a22:FnI K f22 "twice_table" (tp75 36))(a23:FnI K f23 "mixed" (tp75 37))(a24:FnI K f24 "moved" (tp75 38))(a25:FnI K f25 "scaled" (tp75 40))(a26:FnI K f26 "frame_table" (tp75 41))(a27:FnI K f27 "frame_move" (tp75 42))(a28:FnI K f28 "first_four" (tp75 44))(a29:FnI K f29 "lines_multiplied" (tp75 45))(a30:FnI K f30 "five_curve" (tp75 46))(a31:FnI K f31 "curve_through" (tp75 47))(a32:FnI K f32 "on_any" (tp75 49))(a33:FnI K f33 "still_fitting" (tp75 50))(a34:FnI K f34 "fitting" (tp75 51))(a35:FnI K f35 "curve_on" (tp75 52))(a36:FnI K f36 "first_two" (tp75 53))(a37:FnI K f37 "end_rows" (tp75 54))(a38:FnI K f38 "look" (tp75 55))(a39:FnI K f39 "ask_set" (tp75 56))(a40:FnI K f40 "grown" (tp75 57))(a41:FnI K f41 "_law_mixed" (tp75 59))(a42:FnI K f42 "_law_prime" (tp75 60))(a43:FnI K f43 "_law_form" (tp75 61))(a44:FnI K f44 "_law_point" (tp75 62))(a45:FnI K f45 "_law_cross" (tp75 63))(a46:FnI K f46 "_law_sum" (tp75 64))(a47:FnI K f47 "_law_three" (tp75 65))(a48:FnI K f48 "_law_pairs" (tp75 66))(a49:FnI K f49 "_law_table" (tp75 67))(a50:FnI K f50 "_law_led" (tp75 68))(a51:FnI K f51 "_law_oval" (tp75 69))(a52:FnI K f52 "_law_order" (tp75 70))(a53:FnI K f53 "_law_rests" (tp75 71))(a54:FnI K f54 "_law_formed" (tp75 72))(a55:FnI K f55 "_law_free_set" (tp75 73))(a56:FnI K f56 "_law_least" (tp75 74))(a57:FnI K f57 "law" (tp75 75))(z0:B8 K Bh "all" = Ab Af)(z1:B8 K Bh "any" = Ab Af)(z2:B8 K Bh "bool" = Ab Af)(z3:B8 K Bh "enumerate" = Ab Af)(z4:B8 K Bh "int" = Ab Af)(z5:B8 K Bh "isinstance" = Ab Af)(z6:B8 K Bh "len" = Ab Af)(z7:B8 K Bh "list" = Ab Af)(z8:B8 K Bh "max" = Ab Af)(z9:B8 K Bh "min" = Ab Af)(z10:B8 K Bh "range" = Ab Af)(z11:B8 K Bh "sum" = Ab Af)(z12:B8 K Bh "tuple" = Ab Af)(z13:B8 K Bh "zip" = Ab Af):
    ∃ fd:Cv,(∀(s:As)(v:Ai),HJ s fd ⟨[v],[]⟩ [("_law_script",v)])/\∀ base:AJ,K.In base->base.Ns Bh mg->FnOk l.prog w K mg base (CXR l.prog w) 9 fa fd ["_law_script"] (MO K):=by
  obtain⟨_,F,e⟩:=a57;obtain⟨_,_,_,_,_,_,_,_,_,rfl,_,_⟩:=F.ex;cases hfa.symm.trans (Jv X G e);have T:Tab K mg (λ_=>Af) Xl SQ W2 Xo Xh Q75 80:=⟨oH λ_ _=>rfl,all_cons (BQ X G z0) (all_cons (BQ X G z1) (all_cons (BQ X G z2) (all_cons (BQ X G z3) (all_cons (BQ X G z4) (all_cons (BQ X G z5) (all_cons (BQ X G z6) (all_cons (BQ X G z7) (all_cons (BQ X G z8) (all_cons (BQ X G z9) (all_cons (BQ X G z10) (all_cons (BQ X G z11) (all_cons (BQ X G z12) (all_cons (BQ X G z13) (QR)))))))))))))),QR,all_cons (DL 2 1 X G a0 rfl jv λ_ _ _ _ _ _ _ _=>rfl) (all_cons (DL 2 9 X G a1 rfl ju λ_ _ _ _ _ _ _ _=>rfl) (all_cons (DL 2 17 X G a2 rfl jt λ_ _ _ _ _ _ _ _=>rfl) (all_cons (DL 2 23 X G a3 rfl jr λ_ _ _ _ _ _ _ _=>rfl) (all_cons (FW 3 24 X G a4 rfl jq λ_ _ _ _ _ _ _ _ _=>rfl) (all_cons (FW 3 56 X G a5 rfl jp λ_ _ _ _ _ _ _ _ _=>rfl) (all_cons (FW 3 57 X G a6 rfl jm λ_ _ _ _ _ _ _ _ _=>rfl) (all_cons (R9 4 61 X G a7 rfl jk λ_ _ _ _ _ _ _ _ _ _=>rfl) (all_cons (DL 2 65 X G a8 rfl jj λ_ _ _ _ _ _ _ _=>rfl) (all_cons (KN 1 194 X G a9 rfl ji λ_ _ _ _ _ _ _=>rfl) (all_cons (DL 2 109 X G a10 rfl xJ λ_ _ _ _ _ _ _ _=>rfl) (all_cons (KN 1 69 X G a11 rfl xI λ_ _ _ _ _ _ _=>rfl) (all_cons (KN 1 104 X G a12 rfl xH λ_ _ _ _ _ _ _=>rfl) (all_cons (FW 3 91 X G a13 rfl xG λ_ _ _ _ _ _ _ _ _=>rfl) (all_cons (DL 2 78 X G a14 rfl xF λ_ _ _ _ _ _ _ _=>rfl) (all_cons (KN 1 98 X G a15 rfl xE λ_ _ _ _ _ _ _=>rfl) (all_cons (FW 3 105 X G a16 rfl xD λ_ _ _ _ _ _ _ _ _=>rfl) (all_cons (DL 2 106 X G a17 rfl xC λ_ _ _ _ _ _ _ _=>rfl) (all_cons (DL 2 122 X G a18 rfl xB λ_ _ _ _ _ _ _ _=>rfl) (all_cons (KN 1 123 X G a19 rfl xA λ_ _ _ _ _ _ _=>rfl) (all_cons (FW 3 126 X G a20 rfl wZ λ_ _ _ _ _ _ _ _ _=>rfl) (all_cons (DL 2 128 X G a21 rfl wY λ_ _ _ _ _ _ _ _=>rfl) (all_cons (DL 2 131 X G a22 rfl wX λ_ _ _ _ _ _ _ _=>rfl) (all_cons (R9 4 132 X G a23 rfl wW λ_ _ _ _ _ _ _ _ _ _=>rfl) (all_cons (FW 3 133 X G a24 rfl wV λ_ _ _ _ _ _ _ _ _=>rfl) (all_cons (DL 2 110 X G a25 rfl wU λ_ _ _ _ _ _ _ _=>rfl) (all_cons (DL 2 111 X G a26 rfl wT λ_ _ _ _ _ _ _ _=>rfl) (all_cons (FW 3 112 X G a27 rfl wS λ_ _ _ _ _ _ _ _ _=>rfl) (all_cons (DL 2 195 X G a28 rfl wQ λ_ _ _ _ _ _ _ _=>rfl) (all_cons (DL 2 196 X G a29 rfl wP λ_ _ _ _ _ _ _ _=>rfl) (all_cons (DL 2 197 X G a30 rfl wO λ_ _ _ _ _ _ _ _=>rfl) (all_cons (DL 2 198 X G a31 rfl wN λ_ _ _ _ _ _ _ _=>rfl) (all_cons (FW 3 221 X G a32 rfl wM λ_ _ _ _ _ _ _ _ _=>rfl) (all_cons (R9 4 222 X G a33 rfl wL λ_ _ _ _ _ _ _ _ _ _=>rfl) (all_cons (DL 2 223 X G a34 rfl wK λ_ _ _ _ _ _ _ _=>rfl) (all_cons (DL 2 224 X G a35 rfl wJ λ_ _ _ _ _ _ _ _=>rfl) (all_cons (FW 3 225 X G a36 rfl uA λ_ _ _ _ _ _ _ _ _=>rfl) (all_cons (DL 2 226 X G a37 rfl tZ λ_ _ _ _ _ _ _ _=>rfl) (all_cons (DL 2 227 X G a38 rfl tY λ_ _ _ _ _ _ _ _=>rfl) (all_cons (DL 2 260 X G a39 rfl tX λ_ _ _ _ _ _ _ _=>rfl) (all_cons (DL 2 261 X G a40 rfl tW λ_ _ _ _ _ _ _ _=>rfl) (all_cons (DL 2 228 X G a41 rfl tV λ_ _ _ _ _ _ _ _=>rfl) (all_cons (KN 1 229 X G a42 rfl tU λ_ _ _ _ _ _ _=>rfl) (all_cons (DL 2 288 X G a43 rfl tT λ_ _ _ _ _ _ _ _=>rfl) (all_cons (DL 2 231 X G a44 rfl tS λ_ _ _ _ _ _ _ _=>rfl) (all_cons (FW 3 232 X G a45 rfl tR λ_ _ _ _ _ _ _ _ _=>rfl) (all_cons (FW 3 233 X G a46 rfl uX λ_ _ _ _ _ _ _ _ _=>rfl) (all_cons (DL 2 234 X G a47 rfl uW λ_ _ _ _ _ _ _ _=>rfl) (all_cons (DL 2 235 X G a48 rfl uV λ_ _ _ _ _ _ _ _=>rfl) (all_cons (FW 3 250 X G a49 rfl uU λ_ _ _ _ _ _ _ _ _=>rfl) (all_cons (FW 3 289 X G a50 rfl uT λ_ _ _ _ _ _ _ _ _=>rfl) (all_cons (DL 2 290 X G a51 rfl uS λ_ _ _ _ _ _ _ _=>rfl) (all_cons (FW 3 251 X G a52 rfl uR λ_ _ _ _ _ _ _ _ _=>rfl) (all_cons (FW 3 236 X G a53 rfl uQ λ_ _ _ _ _ _ _ _ _=>rfl) (all_cons (FW 3 237 X G a54 rfl uP λ_ _ _ _ _ _ _ _ _=>rfl) (all_cons (DL 2 262 X G a55 rfl uO λ_ _ _ _ _ _ _ _=>rfl) (all_cons (DL 2 263 X G a56 rfl uN λ_ _ _ _ _ _ _ _=>rfl) (all_cons (KN 1 264 X G ⟨_,F,e⟩ rfl V7 λ_ _ _ _ _ _ _=>rfl) (QR))))))))))))))))))))))))))))))))))))))))))))))))))))))))))⟩
  exact⟨_,λs v=>.of_eq rfl,λbase _ _=>sA (WM T (Q8 T 8) (Xi F) rfl V7) aU⟩
theorem walk75{q:AT}{loose:Ac An}{XP:(An->Aq Ai)->AJ->Prop}{YP:AD->AJ->Prop}{d:DefRec}{K:Ma->Fg}(hn:l.most=Ab 63)(hdf:d.params.defaults=[])(hY:∀(w:AD)(h:AJ),YP w h->(K w.params).In h)(F:∀(w:AD)(mg:An->Aq Ai)(fa:Ak)(h:AJ),(K w.params).In h->h.Ns Bh mg->mg d.name=Ab (.ref fa) ->
   ∃ fd:Cv,(∀(s:As)(u:Ai),HJ s fd ⟨[u],[]⟩ [("_law_script",u)])/\∀ base:AJ,(K w.params).In base->base.Ns Bh mg->FnOk l.prog w (K w.params) mg base (CXR l.prog w) 9 fa fd ["_law_script"] (MO (K w.params))):ZX q loose XP YP l.row.toRowW d [] (λf vs=>KY f vs):=
 L2.walk_of (n:=63) (k:=9) (x := "_law_script") (CX:=λw=>CXR l.prog w) (sp:=λw=>MO (K w.params)) hn (by decide) hdf ⟨rfl,by decide,by decide,rfl⟩ hY F (λ_ H a ns hl _ hS=>⟨a,ns,rfl,hl,hS,λ_ _ z=>z⟩) λ_ _ _ _ _ z=>di z
end OvC
open PySem PySem.W PyProof.Rows
set_option hygiene false
set_option maxRecDepth 100000 in
set_option maxHeartbeats 0 in
theorem PySem.Challenge.cw_ovalfield_k75_whole_grown_holds : PySem.Challenge.rw_ovalfield_k75_whole_grown.Holds := by
 refine OvC.hold75.go OvC.reck75_1 OvC.reck75_2 OvC.reck75_3 OvC.reck75_4 OvC.reck75_5 OvC.reck75_6 OvC.reck75_7 OvC.reck75_8 OvC.reck75_9 OvC.reck75_10 OvC.reck75_11 ?_;intro said;refine OvC.walk75 (l:=PySem.Challenge.rw_ovalfield_k75_whole_grown) rfl rfl (λw h Y_=>ZZ Y_) ?F
 case F=>
  intro w mg fa h KX G hmg
  refine' OvC.all75 KX G hmg ?a0 ?a1 ?a2 ?a3 ?a4 ?a5 ?a6 ?a7 ?a8 ?a9 ?a10 ?a11 ?a12 ?a13 ?a14 ?a15 ?a16 ?a17 ?a18 ?a19 ?a20 ?a21 ?a22 ?a23 ?a24 ?a25 ?a26 ?a27 ?a28 ?a29 ?a30 ?a31 ?a32 ?a33 ?a34 ?a35 ?a36 ?a37 ?a38 ?a39 ?a40 ?a41 ?a42 ?a43 ?a44 ?a45 ?a46 ?a47 ?a48 ?a49 ?a50 ?a51 ?a52 ?a53 ?a54 ?a55 ?a56 ?a57 ?z0 ?z1 ?z2 ?z3 ?z4 ?z5 ?z6 ?z7 ?z8 ?z9 ?z10 ?z11 ?z12 ?z13
  case a0|a1|a2|a3|a4|a5|a6|a7|a8|a9|a10|a11|a12|a13|a14|a15|a16|a17|a18|a19|a20|a21|a22|a23|a24|a25|a26|a27|a28|a29|a30|a31|a32|a33|a34|a35|a36|a37|a38|a39|a40|a41|a42|a43|a44|a45|a46|a47|a48|a49|a50|a51|a52|a53|a54|a55|a56|a57=>(refine' Ov.fni ?a ?l ?c ?k;(case a=>k_is);(case l=>k_is);(case c=>k_is);(case k=>k_is))
  case z0|z1|z2|z3|z4|z5|z6|z7|z8|z9|z10|z11|z12|z13=>k_is
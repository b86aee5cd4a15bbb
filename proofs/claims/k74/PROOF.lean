import PyProof.Rows.All
import Wide.All
import OpenK.AllK
import Wide.FinOn
import PyProof.EqAt
import KE.KSortTup
import PyProof.EqKinds
import PyProof.TupleCall
import Lean
import PySem.Challenge.RW_ovalfield_k74_whole_one_of_four
set_option Elab.async false
set_option linter.all false
set_option maxRecDepth 100000
set_option maxHeartbeats 4000000
open Bool renaming true→Aa,false→Ae,and_eq_true→Ap,false_ne_true→AY,not_eq_true'→Cb,eq_iff_iff→C8,or_eq_true→C9,false_eq_true→FN,and_false→FS,or_false→Gd,and_true→Xj
open Option renaming some→Ab,none→Af,bind_eq_some_iff→DX,map_some→Ef,map→GI,getD_none→X5
open _root_ renaming List→Ac,Int→Ad,Nat→Ag,Bool→Ak,Option→Aq,if_pos→AO,if_neg→AW,Array→A1,decide_eq_true_eq→Bh,False→BF,of_decide_eq_true→BG,or_false→BQ,beq_iff_eq→BR,decide_eq_false→B5,decide_eq_true→CD,dif_neg→CH,beq_eq_false_iff_ne→Du,String→Dy,not_or→DB,beq_self_eq_true→EG,decide_eq_false_iff_not→F0,Decidable→Gy,if_false→Ha,True→Ix,if_true→IY,Unit→Ji,and_true→KJ,bne_iff_ne→KS,beq_false_of_ne→n5,not_false_eq_true→n6
open PySem renaming wpAny_bind→Ah,Value→Ai,Addr→Am,Str→An,Expr→Ao,Shared→As,wpAny_pure→Aw,wpAny→AC,World→AH,starEach→AI,Heap→AM,Program→AU,Pos→A6,Around→Bc,mainGlobals→Bg,wpAny_field→Bl,Stmt→BA,wpAny_seqItems→BX,wpAny_holding→Cc,wpAny_setField_rec→Cf,wpAny_callSpecial?_slot→Cm,cLine→Cs,rawInt→Cw,Scope→Cz,FuncData→CA,binaryOp→CB,assignEach→CG,wpAny_newObj_type→CO,backTo→CU,wpAny_call_entry→CW,wpAny_mono→CY,Env→C1,compareOp→C3,wpAny_truthy_bool→C4,mem_of_lookup→C5,Obj→Di,foldedSetIterable→Dr,bootBuiltins→Dx,cellsFrom→DH,CmpOp→DI,Tok→DO,codeAny_builtin→DP,swapsWith→DU,wpAny_onRaise→DV,pyNext→D0,Keyword→Eg,wpAny_pyIter_list→En,sizeLine_eq→Ew,NameKind→ED,wpAny_pyIter_tuple→ET,IsPair→E7,intKind→E9,GenState→Ff,IsTupleKey→Fh,wpAny_attempt→Fq,codeAny→Fu,sliceBounds→Fv,wpAny_passesOwn→FK,wpAny_updateSeq→FM,wpAny_setField→FW,wpAny_letGo→Gc,attributeBase→Gh,plainId_quiet→Gi,swappedStores→Gj,Operator→Gn,PassesOwn→GA,IsZip→GK,codeAny_mono→GM,letOwnedTupleGo→GN,wpAny_rule→GO,wpAny_specialOf→GP,wpAny_updateSeq_pair→GQ,keywordEach→Hc,pushCells→Hh,wpAny_Call_Name_kw→Hi,Sem→Hk,behindInMarks→Hl,swapsWithSole→Hm,wpAny_standAt→Hn,wpAny_setState_of→HC,BindsTo→HF,callerA→HG,IsPart→HN,Paired→HP,pushCells_keeps→Iu,OsState→IR,isTrue→IU,newFunctionEnv→IV,notedBy→IW,wpAny_newTuple→IX,Drawn→Jb,backToKw→Jc,bindC→Jd,bindL→Je,builtinsNs→Jf,call_meets→Jg,numAt→Jh,Comprehension→JA,Result→JH,callType_new→JK,concat_meets→JL,lastMarks→JM,noteFrame→JN,preSum→JO,pyIter→JP,seqIndex_neg→JQ,updateSeq→JR,Model→J6,UnaryOp→J7,getItem→J8,standAt→J9,hashByValue→Kc,seqIndex_of→Kd,call→KO,sysModules→KP,typeLookup→KQ,wpAny_Name→KR,IntMulOk→LY,Params→LZ,SetTable→L4,bindArgs→L5,intItems→L6,builtinLookup_eq_fast→Zu,call_sum_walkG→Zv,checkBuiltinCall→Zw,codeAny_of_tree→Zx,firstArgMember→Zy,isSubtype_stop→Zz,isSubtype_type→ZA,noFill_tuple_add→ZB,recursionLimit→ZC,slot_list_getitem→ZD,typeLookup_type→ZE,wpAny_assign_Name→ZF,wpAny_comprehension_free→ZG,wpAny_execs_nil→ZH,wpAny_isInstance→ZI,wpAny_pyIter_enum→ZJ,wpAny_pyIter_zip→ZK,wpAny_pyNext_list_end→ZL,wpAny_pyNext_list_item→ZM,wpAny_runValue→ZN
open PySem.Heap renaming get?_push_of_some→Ar,get?_push_size→AB,lt_size→AE,size_push→Bk,get?_update_self→Ci,get?_update_other→Cp,SameBut→EC,get?_none_of_le→GJ,ExtBut→Iw,get?_push_cases→Y_3
open List renaming mem_cons_of_mem→At,mem_cons→Av,mem_cons_self→Ax,size_toArray→AD,not_mem_nil→AR,range→AT,length_map→AV,mem_range→A3,mem_map→Bb,getElem?_eq_some_iff→Be,map_cons→Bq,mem_append_right→Bt,length_cons→BE,length_set→BH,nodup_cons→BM,getElem?_eq_getElem→BP,length_append→BU,mem_singleton→BY,lookup_cons→B6,getD_eq_getElem?_getD→Cj,mem_filter→Cr,exists_of_findSome?_eq_some→Ct,length_erase_of_mem→Cu,getElem_mem→Dd,getElem?_set_self→Dv,append_nil→DK,map_map→DL,mem_of_getElem?→DM,getElem?_map→DS,getElem_of_mem→DY,map_congr_left→DZ,forIn_nil→D4,take_of_length_le→D6,forIn_cons→Eb,length_singleton→Ec,isEmpty_eq_false_iff→Ep,mem_append_left→Er,filter_cons→Ey,length_take→Ez,getElem?_cons_succ→EI,getElem?_cons_zero→EJ,range_succ_eq_map→EU,length_range→E0,take_append_drop→E3,all_eq_true→Fd,length_drop→Fe,findSome?_eq_none_iff→Fo,drop_eq_getElem_cons→FG,getElem?_append_left→FH,map_append→FI,getElem?_set_self'→FX,any_eq_true→Gk,zipIdx_cons→Gm,getElem?_toArray→Gz,getElem?_set_ne→GB,map_nil→GC,mem_append→GD,toArray→GE,zipIdx_nil→GF,filterMap_cons→GY,findSome?_cons→GZ,nodup_nil→G2,replicate→G3,zip_cons_cons→He,all_cons→Hj,getElem?_set→Hy,take_sublist→Hz,getElem_inj→HK,isEmpty_iff→HL,of_mem_zip→Iq,any_cons→Jy,map→Ke,any_eq_false→Xv,any_map→Xx,contains_eq_mem→Xy,drop_eq_nil_of_le→Xz,drop_zero→XB,ext_getElem?→XC,getElem?_append_right→XD,getElem?_of_mem→XE,getElem?_replicate→XF,length→XG,length_pos_of_mem→XH,length_replicate→XI,lookup→XJ,lookup_cons_self→XM,map_drop→XN,map_take→XO,mem_erase_of_ne→XQ,mem_map_of_mem→XS,pairwise_map→XU,perm_middle→XV,range_succ→XX,reverse_cons→XY,set_set→XZ,take_left'→X0
open PySem.Str renaming ofString→Az
open Int renaming emod_lt_of_pos→AF,emod_eq_of_lt→AG,emod_nonneg→AJ,emod_emod_of_dvd→AS,mul_emod→Bm,dvd_refl→Bu,zero_emod→Bv,mul_comm→BS,mul_zero→CP,one_mul→CS,zero_add→C0,mul_one→DJ,toNat_natCast→El,sub_zero→E1,zero_mul→E2,mul_assoc→Ge,mul_nonneg→G1,le_refl→Hb,le_trans→JE,mul_pos→Ka,add_emod→Xk,dvd_neg→Xl,dvd_of_emod_eq_zero→Xm,ediv_nonneg→Xn,emod_eq_zero_of_dvd→Xo,mul_le_mul→Xp,ne_of_gt→Xq,sub_emod→Xr,toNat_of_nonneg→Xs,zero_sub→Xu
open Nat renaming lt_of_lt_of_le→AK,ne_of_lt→AZ,le_refl→A5,lt_irrefl→Bw,le_trans→Cv,lt_succ_of_lt→CN,ne_of_gt→De,le_add_right→DC,lt_of_le_of_lt→D7,ble→Ed,le_of_ble_eq_true→Ee,pow_le_pow_right→Et,lt_succ_self→EA,ble_eq_true_of_le→E4,le_of_lt→E5,zero_le→Fs,zero_add→FO,not_lt→FT,not_lt_zero→GH,add_le_add_left→G0,lt_or_gt_of_ne→Hf,min_eq_left→Ir,le_of_eq→JF,lt_trans→X1,min_eq_right→X2,min_self→X3,pow_succ→X4
open PySem.Builtin.SmallTypes renaming nextOf→A2,ownedTupleIsFree→A4,ownedTupleHandOut→Dg
open PySem.W.Fast renaming te10274390034422433532→A7,te14082659384304107361→A8,te14289696077712309145→A9,te14364793385576792824→Ba,te1435165496053646825→Bf
open Prod renaming ext→Bp
open Ne renaming symm→Br
open Option.some renaming inj→BJ,injEq→Cn
open PySem.W renaming mg_none_of→BN,nsIn→BZ,findIn→C2,fencedOpening→Dk,emptyDict→Dq,keepIn→DG,fnOf→D8,instObj→Eh,openEnds→EV,topFrom→Ft,codeIn→FV,OpenLaw→Gb,methodObj→HB,lookIn→IT,mg_of→JC,WalkO→Zo,cellsFrom_some→Zp,kIn_of→Zq,kitOne→Zr,plainGet→Zs,subIn→Zt
open List.Nodup renaming mem_erase_iff→BO
open Array renaming getElem?_eq_getElem→BV,getElem?_eq_some_iff→CC,length_toList→EH,getElem?_push→GX,forIn_toList→Hd,toList→JD,getElem_mem→Xe,mem_iff_getElem→Xf,mem_toList_iff→Xg,size_push→Xh,toArray_toList→Xi
open Classical renaming byContradiction→B4,choose_spec→DE,choose→HJ
open PyProof.Rows renaming callWith_type1→Ce,envOfC→Fp,AllBare→FU,boot_tuple→FZ,IntsAre→HE,Call_→Ja,IsTup→J5,boot_list→X7,boot_zip→X8,callWith_builtin1→X9,slicePart_none→Yb,slot_tuple_getitem→Yc,subscriptTail_builtinR→Yd
open PySem.NameKind renaming cell→Ck,free→Ej
open PySem.F renaming slot_zip_next→CF,slot_tuple_iterator_next→Ei,args_zip_next_1→Em,entry_zip_next→EB,plainAttrs_list→EK,slot_list_extend→E6,plain_extend_loop→Fw,args_list_extend_2→YM,args_object_init_2→YN,args_tuple_add_2→YO,args_tuple_iterator_next_1→YQ,called_zip→YR,entry_extend_loop→YS,entry_list_extend→YT,entry_tuple_add→YU,entry_tuple_iterator_next→YV,entry_zip_new→YW,plain_list_iadd→YX,plain_tuple_new→YY,slot_tuple_add→YZ,slot_zip_iter→Y_0,type_list_extend→Y_1
open PySem.Obj renaming mapSeq→CV,data_mapFields→DF,isFreed_of_fields→E8,mapFields→Gf,cls_mapFields→Y_4
open PySem.Value renaming none→Da,ref→Dt,type→Fi,bool→Zj,int→Zk,str→Zl
open PySem.Builtin.Tuple renaming tupleExact→Dh
open PySem.Around renaming under_plainId→Dl
open PySem.Builtin.List renaming listTooLong→DN,listExtendWith→Yh,listSameRef→Yi
open PySem.SetTable renaming insertAt→DT,bits→Gg,below→IS,fits→JB,has→JJ,runEnd→Y_8,slot→Y_9
open False renaming elim→Eo
open PySem.Builtin.Slice renaming slicePlaces→Eu,sliceAdjust→FJ,sliceApplied→Yj
open ForInStep renaming yield→ES
open PySem.Heap.SameBut renaming update→Fx,refl→Y_2
open PyProof.Rows.F renaming plain_set_update_loop→FY,entry_set_update_loop→X6
open PySem.Calls renaming spliced_nil→F1,spliced_cons→Hg,Name_function_global→Yk
open PySem.Shared renaming heap→Ga,TypeIs→Za
open PySem.SeqAt renaming EqAt→GL,RcNeAt→JI,RcAt→KM
open Function renaming comp_def→Hx
open PySem.SetTable.probe renaming go→HA
open Sum renaming inl→HH,inr→HI
open Nat.succ renaming inj→HM
open List.cons renaming injEq→Ip
open Eq renaming trans→IZ,symm→M5
open Prod.mk renaming injEq→Jz
open PyProof.Rows.IsTup renaming new→JG
open PySem.Walks renaming tuple→Kb,list→KN
open NeZero renaming ne→LV
open PySem.Data renaming cell→LW,seq→LX
open PySem.AutoSeq1 renaming wpAny_loadPart'→Ye
open PySem.Builtin.Int renaming intBits→Yg
open PySem.EntryCells renaming newEntry→Yl
open PySem.Expr renaming Attribute→Ym,BinOp→Yo,BoolOp→Yq,Call→Ys,Compare→Yu,Constant→Yw,List→Yy,ListComp→YA,Name→YC,Slice→YE,Subscript→YG,Tuple→YI,UnaryOp→YK
open PySem.Expr.Attribute renaming elim→Yn
open PySem.Expr.BinOp renaming elim→Yp
open PySem.Expr.BoolOp renaming elim→Yr
open PySem.Expr.Call renaming elim→Yt
open PySem.Expr.Compare renaming elim→Yv
open PySem.Expr.Constant renaming elim→Yx
open PySem.Expr.List renaming elim→Yz
open PySem.Expr.ListComp renaming elim→YB
open PySem.Expr.Name renaming elim→YD
open PySem.Expr.Slice renaming elim→YF
open PySem.Expr.Subscript renaming elim→YH
open PySem.Expr.Tuple renaming elim→YJ
open PySem.Expr.UnaryOp renaming elim→YL
open PySem.Paired renaming length→Y_5
open PySem.SeqAt.EqAt renaming of_refs→Y_6,same→Y_7
open PySem.Stmt renaming Assign→Zb,Expr→Zd,Return→Zh
open PySem.Stmt.Assign renaming elim→Zc
open PySem.Stmt.Expr renaming elim→Ze
open PySem.Stmt.For renaming elim→Zf
open PySem.Stmt.If renaming elim→Zg
open PySem.Stmt.Return renaming elim→Zi
open PySem.W.WData renaming int→Zm
open PySem.W.WShape renaming has→Zn
abbrev Fg:=PySem.W.Frag
abbrev Pn:=Ac (PySem.Addr×PySem.Obj)
abbrev Vq:=PySem.Value->PySem.Shared->Prop
set_option genSizeOfSpec false
section
open PySem PySem.W PyProof.Rows
namespace OvC
set_option genInjectivity false in
structure Eleven (P:Prop) where
 (α1 α2 α3 α4 α5 α6 α7 α8 α9 α10 α11:Type)
 (l1 r1:AH->α1)
 (l2 r2:AH->α2)
 (l3 r3:AH->α3)
 (l4 r4:AH->α4)
 (l5 r5:AH->α5)
 (l6 r6:AH->α6)
 (l7 r7:AH->α7)
 (l8 r8:AH->α8)
 (l9 r9:AH->α9)
 (l10 r10:AH->α10)
 (l11 r11:AH->α11)
 X:Prop
 go:(∀ w,l1 w=r1 w)->(∀ w,l2 w=r2 w)->(∀ w,l3 w=r3 w)->(∀ w,l4 w=r4 w)->(∀ w,l5 w=r5 w)->(∀ w,l6 w=r6 w)->(∀ w,l7 w=r7 w)->(∀ w,l8 w=r8 w)->(∀ w,l9 w=r9 w)->(∀ w,l10 w=r10 w)->(∀ w,l11 w=r11 w)->X->P
theorem map_pair{Y α β:Type}{A:Y->α}{B:Y->β}{r:Aq Y}{a:α}{b:β}(h1:GI A r=Ab a)(h2:GI B r=Ab b):GI (λs=>(A s,B s)) r=Ab (a,b):=by
 cases r with
 |none=>cases h1
 |some s=>cases h1;cases h2;rfl
theorem map_take{Y α:Type}{B:Y->Ac α}{r:Aq Y}{v:Ac α}(n:Ag)(h1:GI (λs=>(B s).take n) r=Ab (v.take n))(h2:GI (λs=>(B s).drop n) r=Ab (v.drop n)):GI B r=Ab v:=by
 cases r with
 |none=>cases h1
 |some s=>
  have e1:(B s).take n=v.take n:=by injection h1
  have e2:(B s).drop n=v.drop n:=by injection h2
  show Ab (B s)=Ab v;rw[<-E3 n (B s),<-E3 n v,e1,e2]
end OvC
namespace OvC
noncomputable def tp74(i:Ag):BA:=PySem.Challenge.pw_ovalfield_k74_whole_one_of_four.main.body.getD i (.Pass ⟨0,0,0,0⟩)
end OvC
noncomputable def OvC.view74:PySem.Program:={ PySem.Challenge.pw_ovalfield_k74_whole_one_of_four with main:={PySem.Challenge.pw_ovalfield_k74_whole_one_of_four.main with body:=[OvC.tp74 1,OvC.tp74 2,OvC.tp74 3,OvC.tp74 4,OvC.tp74 5,OvC.tp74 6,OvC.tp74 7,OvC.tp74 8,OvC.tp74 10,OvC.tp74 11,OvC.tp74 13,OvC.tp74 14,OvC.tp74 15,OvC.tp74 17,OvC.tp74 18,OvC.tp74 19,OvC.tp74 20,OvC.tp74 21,OvC.tp74 22,OvC.tp74 23,OvC.tp74 25,OvC.tp74 26,OvC.tp74 27,OvC.tp74 28,OvC.tp74 29,OvC.tp74 30,OvC.tp74 32,OvC.tp74 33,OvC.tp74 34,OvC.tp74 35,OvC.tp74 36,OvC.tp74 37,OvC.tp74 38,OvC.tp74 40,OvC.tp74 41,OvC.tp74 42,OvC.tp74 44,OvC.tp74 45,OvC.tp74 46,OvC.tp74 47,OvC.tp74 49,OvC.tp74 50,OvC.tp74 51,OvC.tp74 52,OvC.tp74 53,OvC.tp74 54,OvC.tp74 55,OvC.tp74 57,OvC.tp74 58,OvC.tp74 59,OvC.tp74 60,OvC.tp74 61,OvC.tp74 62,OvC.tp74 63,OvC.tp74 64,OvC.tp74 65,OvC.tp74 66,OvC.tp74 67,OvC.tp74 68,OvC.tp74 69,OvC.tp74 70,OvC.tp74 71,OvC.tp74 72,OvC.tp74 73,OvC.tp74 74,OvC.tp74 75,OvC.tp74 76,OvC.tp74 77,OvC.tp74 78,OvC.tp74 79]} }
set_option hygiene false
local macro_rules | `(tactic| o_head $H)=>`(tactic| refine holds_open (q:=OvC.view74) (loose:=[]) (Xt:=fun s=>xlAt OvC.view74 [] s&&recOk (RowW.records (OpenRow.toRowW (PySem.Challenge.rw_ovalfield_k74_whole_one_of_four.row))) s) (XP:=XL OvC.view74 []) (Yf:=Hook.obs $H) (Ya:=Hook.val $H) (YP:=Hook.says $H) (N:=7462) ?hl (Hook.of $H) (Hook.keeps $H) (fun s e=>xl_of s (Bool.and_eq_true_iff.mp e).1) XL.keeps (by rfl) (by rfl) (by rfl) (fun s e=>recFacts_of (Bool.and_eq_true_iff.mp e).2) (by rfl) (by first|assumption|decide +kernel) (by decide +kernel) ⟨rfl,rfl,rfl,rfl,rfl,by decide +kernel⟩ ?hw ?hc)
set_option maxRecDepth 100000 in
set_option maxHeartbeats 0 in
noncomputable def OvC.hold74:OvC.Eleven PySem.Challenge.rw_ovalfield_k74_whole_one_of_four.Holds:=by
 refine' ⟨_,_,_,_,_,_,_,_,_,_,_,_,_,_,_,_,_,_,_,_,_,_,_,_,_,_,_,_,_,_,_,_,_,_,λg1 g2 g3 g4 g5 g6 g7 g8 g9 g10 g11 x=>_⟩
 rotate_right
 w_on;refine holds_law (by decide+kernel) λsaid=>?_;k_head
 (case hl=>intro w;refine OvC.map_pair ?p1 (OvC.map_take 100 ?p2 ?p3);(case p1=>rw[PySem.W.Fast.te4187177175401517315];unfold PySem.W.Fast.tw4187177175401517315 openGood;refine OvC.map_pair ?q1 (OvC.map_pair ?q2 (OvC.map_pair ?q3 (OvC.map_pair ?q4 (OvC.map_pair ?q5 (OvC.map_pair ?q6 (OvC.map_pair ?q7 (OvC.map_pair ?q8 ?q9)))))));(case q1=>unfold EV Dk Ft;rw[A7,Ba,Bf,A9,A8];exact g1 w);(case q2=>unfold EV Dk Ft;rw[A7,Ba,Bf,A9,A8];exact g2 w);(case q3=>unfold EV Dk Ft;rw[A7,Ba,Bf,A9,A8];exact g3 w);(case q4=>unfold EV Dk Ft;rw[A7,Ba,Bf,A9,A8];exact g4 w);(case q5=>unfold EV Dk Ft;rw[A7,Ba,Bf,A9,A8];exact g5 w);(case q6=>unfold EV Dk Ft;rw[A7,Ba,Bf,A9,A8];exact g6 w);(case q7=>unfold EV Dk Ft;rw[A7,Ba,Bf,A9,A8];exact g7 w);(case q8=>unfold EV Dk Ft;rw[A7,Ba,Bf,A9,A8];exact g8 w);(case q9=>unfold EV Dk Ft;rw[A7,Ba,Bf,A9,A8];exact g9 w);skip);(case p2=>unfold EV Dk Ft;rw[A7,Ba,Bf,A9,A8];exact g10 w);(case p3=>unfold EV Dk Ft;rw[A7,Ba,Bf,A9,A8];exact g11 w))
 (case hw=>w_witness2)
 k_fill
 revert said
 exact x
theorem OvC.reck74_1(w:AH):OvC.hold74.l1 w=OvC.hold74.r1 w:=by kernel_rfl
theorem OvC.reck74_2(w:AH):OvC.hold74.l2 w=OvC.hold74.r2 w:=by kernel_rfl
theorem OvC.reck74_3(w:AH):OvC.hold74.l3 w=OvC.hold74.r3 w:=by kernel_rfl
theorem OvC.reck74_4(w:AH):OvC.hold74.l4 w=OvC.hold74.r4 w:=by kernel_rfl
theorem OvC.reck74_5(w:AH):OvC.hold74.l5 w=OvC.hold74.r5 w:=by kernel_rfl
theorem OvC.reck74_6(w:AH):OvC.hold74.l6 w=OvC.hold74.r6 w:=by kernel_rfl
theorem OvC.reck74_7(w:AH):OvC.hold74.l7 w=OvC.hold74.r7 w:=by kernel_rfl
theorem OvC.reck74_8(w:AH):OvC.hold74.l8 w=OvC.hold74.r8 w:=by kernel_rfl
theorem OvC.reck74_9(w:AH):OvC.hold74.l9 w=OvC.hold74.r9 w:=by kernel_rfl
theorem OvC.reck74_10(w:AH):OvC.hold74.l10 w=OvC.hold74.r10 w:=by kernel_rfl
theorem OvC.reck74_11(w:AH):OvC.hold74.l11 w=OvC.hold74.r11 w:=by kernel_rfl
end
-- CHANGE: your row's module here,as the last of these rows
namespace L2
open PySem PySem.Spec PyProof.Rows
abbrev Key:=Sum Ad An
noncomputable def WP:Key->Ai->Ak
 |.inl k,v=>Value.isInt k v
 |.inr x,v=>Value.isStrOf x v
noncomputable def bN(w:AH):Key->Ad
 |.inl k=>hashInt k
 |.inr x=>hashStr w x
theorem Jk:∀{k:Key}{v:Ai},WP k v=Aa->(∃ i t,k=HH i/\v=Zk i t)\/(∃ x t,k=HI x/\v=Zl x t)
 |.inl i,v,h=>by
  obtain⟨t,e⟩:=Value.isInt_shape (k:=i) (v:=v) h;exact .inl ⟨i,t,rfl,e⟩
 |.inr x,v,h=>by
  obtain⟨t,e⟩:=Value.isStrOf_shape (x:=x) (v:=v) h;exact .inr ⟨x,t,rfl,e⟩
theorem yF(a b:Ad):decide ((HH a:Key)=HH b)=(a==b):=by
 by_cases e:a=b
 .subst e;simp
 .have h:¬ (HH a:Key)=HH b:=λq=>e (Sum.inl.inj q)
  rw[B5 h];exact(Du.mpr e).symm
theorem yC(a b:An):decide ((HI a:Key)=HI b)=decide (a=b):=by
 by_cases e:a=b
 .subst e;simp
 .have h:¬ (HI a:Key)=HI b:=λq=>e (Sum.inr.inj q)
  rw[B5 h,B5 e]
theorem yE(a:Ad)(b:An):decide ((HH a:Key)=HI b)=Ae:=B5 (λq=>nomatch q)
theorem yD(a:An)(b:Ad):decide ((HI a:Key)=HH b)=Ae:=B5 (λq=>nomatch q)
noncomputable def Q6(prog:AU)(w:AH):PySem.KeyKind prog w Key where
 is:=WP
 hash:=bN w
 inj:=λv a b ha hb=>by
  rcases Jk ha with ⟨i,t,rfl,rfl⟩|⟨x,t,rfl,rfl⟩
  .rcases Jk hb with ⟨j,u,rfl,e⟩|⟨y,u,rfl,e⟩
   .injection e with e1 _;rw[e1]
   .exact nomatch e
  .rcases Jk hb with ⟨j,u,rfl,e⟩|⟨y,u,rfl,e⟩
   .exact nomatch e
   .injection e with e1 _;rw[e1]
 byValue:=λk v h=>by
  rcases Jk h with ⟨i,t,rfl,rfl⟩|⟨x,t,rfl,rfl⟩<;>rfl
 pyHash:=λhv h=>by
  rcases Jk hv with ⟨i,t,rfl,rfl⟩|⟨x,t,rfl,rfl⟩
  .exact wpAny_pyHash_int h
  .exact wpAny_pyHash_str h
 eqBool:=λhu hv h=>by
  rcases Jk hu with ⟨i,t,rfl,rfl⟩|⟨x,t,rfl,rfl⟩
  .rcases Jk hv with ⟨j,u,rfl,rfl⟩|⟨y,u,rfl,rfl⟩
   .rw[yF]at h;exact wpAny_eqBool_int h
   .rw[yE]at h;exact SeqAt.EqAt.int_str i t y u _ _ _ _ h
  .rcases Jk hv with ⟨j,u,rfl,rfl⟩|⟨y,u,rfl,rfl⟩
   .rw[yD]at h;exact SeqAt.EqAt.str_int x t j u _ _ _ _ h
   .rw[yC]at h;exact wpAny_eqBool_str h
 «strs»:=λk x t v h=>by
  rcases Jk h with ⟨i,u,rfl,e⟩|⟨y,u,rfl,e⟩
  .exact nomatch e
  .injection e with e1 _
   subst e1;cases v<;>rfl
end L2
namespace L2
open PySem PySem.Spec PyProof.Rows
variable{us:Ac Ai}{a b it dx:Am}{P:AU}{h:AM}{o:Di}{g':A1 Ff}{t' i k n:Ag}{d':Jb}{ch fp:Ac Am}{x qual:An}{M:J6}{u:Ai}{Q:Ji->As->Prop}{e tg:Ao}{s:As}{pos p:A6}{pI:Pn}{es:Ac Ao}{body:Ac BA}{f:Ai->Ai->Hk Ai}{g:Ad->Ad->Ad}{op:DI}{mA:An->Aq Ai}{fd:CA}{ps:Ac An}{scope:Cz}
inductive V where
 |non|bl (b:Ak)|int (i:Ad)|str (x:An)|byt (b:A1 UInt8)|flt (b:UInt64)|ref (a:Am)|ty (n:Dy)
 deriving DecidableEq
variable{xs vs:Ac V}{v:V}
def Ca:V->Ai->Prop
 |.non,u=>u=Da
 |.bl b,u=>u=Zj b
 |.int i,u=>∃ t,u=Zk i t
 |.str x,u=>∃ t,u=Zl x t
 |.byt b,u=>∃ t,u=Value.bytes b t
 |.flt b,u=>∃ t,u=Value.float b t
 |.ref a,u=>u=Dt a
 |.ty n,u=>u=Fi n
noncomputable abbrev Bj:Ac V->Ac Ai->Prop:=HP Ca
theorem Bj.length(r:Bj xs us):xs.length=us.length:=Y_5 r
theorem Bj.get:∀{xs:Ac V}{us:Ac Ai}{i:Ag}{x:V},Bj xs us->xs[i]?=Ab x->∃ u,us[i]?=Ab u/\Ca x u
 |_,_,_,_,.nil,e=>by simp at e
 |_,_,0,_,.cons r _,e=>by simp at e;subst e;exact⟨_,rfl,r⟩
 |_,_,i+1,x,.cons _ t,e=>by
  obtain⟨u,h1,h2⟩:=Bj.get (i:=i) (x:=x) t (by simpa using e)
  exact⟨u,by simpa using h1,h2⟩
theorem Bj.set{x:V}{u:Ai}(r:Ca x u):∀{xs:Ac V}{us:Ac Ai}(i:Ag),Bj xs us->Bj (xs.set i x) (us.set i u)
 |_,_,_,.nil=>.nil
 |_,_,0,.cons _ t=>.cons r t
 |_,_,i+1,.cons q t=>.cons q (Bj.set r i t)
theorem Bj.append:∀{xs ys:Ac V}{us ws:Ac Ai},Bj xs us->Bj ys ws->Bj (xs++ys) (us++ws)
 |_,_,_,_,.nil,s=>s
 |_,_,_,_,.cons r t,s=>.cons r (Bj.append t s)
theorem Bj.take:∀{xs:Ac V}{us:Ac Ai}(n:Ag),Bj xs us->Bj (xs.take n) (us.take n)
 |_,_,0,_=>.nil
 |_,_,_+1,.nil=>.nil
 |_,_,n+1,.cons r t=>.cons r (Bj.take n t)
theorem Bj.drop:∀{xs:Ac V}{us:Ac Ai}(n:Ag),Bj xs us->Bj (xs.drop n) (us.drop n)
 |_,_,0,r=>r
 |_,_,_+1,.nil=>.nil
 |_,_,n+1,.cons _ t=>Bj.drop n t
def SJ:Aq V->Aq Ai->Prop
 |some v,Ab u=>Ca v u
 |none,Af=>Ix
 |_,_=>BF
def KV{κ:Type}:Ac (κ×V)->Ac (κ×Ai)->Prop:=HP fun(p:κ×V)(q:κ×Ai)=>p.1=q.1/\Ca p.2 q.2
noncomputable def kV:Key->V
 |.inl i=>.int i
 |.inr x=>.str x
inductive HO where
 /-- a list -/
 |lst (xs:Ac V)
 /-- a tuple (never changes) -/
 |tup (xs:Ac V)
 /-- a dict whose keys are ints and texts;one whose keys are tuples of ints and texts (the empty one is both) -/
 |dK (kvs:Ac (Key×V))|dT (kvs:Ac (Ac Key×V))
 /-- a set of ints: its members,its size -/
 |set (S:Ad->Ak) (n:Ag)
 /-- an instance of the class at C,its dict at dx,its attributes -/
 |ins (C dx:Am) (fs:Ac (An×V))
 /-- the dict of the instance at x -/
 |own (x:Am)
 /-- the dict of an exception -/
 |xd (fs:Ac (An×V))
 /-- a bound method,f of x -/
 |met (f x:Am)
 /-- a range object lo,lo+1,.. below hi -/
 |rng (lo hi:Ad)
 /-- a thing that is known to the object (the script;a dict while a loop walks it): read,never written while it is so -/
 |frz (o:Di) (u:HO)
 /-- a code object's table -/
 |tbl (ps:A1 Ai)
 /-- any other thing,by what is Aa of its one object (a def of one's own: SetO a S n:=HO.ext fun h=>..) -/
 |ext (φ:AM->Prop)
abbrev Hp:=Am->Aq HO
variable{H:Hp}
noncomputable def upd(H:Hp)(a:Am)(o:HO):Hp:=λb=>if b=a then Ab o else H b
theorem Jm{o:HO}:upd H a o a=Ab o:=by unfold upd;rw[AO rfl]
theorem Dz{o:HO}(h:b≠a):upd H a o b=H b:=by unfold upd;rw[AW h]
theorem Go{o:HO}(h:H a=Ab o)(h':H b=Af):a≠b:=by
 intro e;subst e;rw[h]at h';cases h'
section
variable(P:AU)(w:AH)
def ObjOk(H:Hp)(h:AM)(a:Am):HO->Prop
  |.lst xs=>xs.length<=sizeLine/\∃(its:Ac Ai)(n:Ag),Bj xs its/\h.get? a=Ab { cls:=.type "list",data:=.seq its.toArray n }
  |.tup xs=>xs.length<=sizeLine/\∃ its:Ac Ai,Bj xs its/\J5 h a its.toArray
  |.dK kvs=>kvs.length<=sizeLine/\(a==KP)=Ae/\∃ vs,KV kvs vs/\h.DictOf (Q6 P w) a vs
  |.dT kvs=>kvs.length<=sizeLine/\(a==KP)=Ae/\∃ xs:Ac (Ac Key×Am×Ai),
      HP (fun(p:Ac Key×V)(q:Ac Key×Am×Ai)=>p.1=q.1/\H q.2.1=Ab (.tup (p.1.map kV))/\Ca p.2 q.2.2) kvs xs /\
      ∃ o es ep,h.get? a=Ab o/\o.ExactDict/\o.data=.dict es ep/\es.toList=xs.map (entryOfKey (tupleKind (Q6 P w)))/\(xs.map (·.1)).Nodup
  |.set S n=>h.SetOf (E9 P w) a S n
  |.ins C dx fs=>H dx=Ab (.own a)/\fs.length<=1000/\dx≠a/\h.get? a=Ab (Eh C dx) /\
      ∃ mA,h.Ns1 dx mA/\(∀ f,SJ (fs.lookup f) (mA f))/\PySem.Within mA (fs.map (·.1))
  |.own _=>∃ o,h.get? a=Ab o
  |.xd fs=>∃ mA,h.Ns1 a mA/\∀ f,SJ (fs.lookup f) (mA f)
  |.rng lo hi=>∃ t u v,h.get? a=Ab { cls:=.type "range",data:=.fields #[.int lo t,.int hi u,.int 1 v] }
  |.frz o u=>h.get? a=Ab o/\ObjOk H h a u
  |.tbl ps=>h.get? a=Ab {cls:=.none,data:=.fields ps}
  |.met f x=>h.get? a=Ab (HB (.ref f) (.ref x))
  |.ext φ=>φ h/\(∃ o,h.get? a=Ab o)/\∀ h1 h2:AM,φ h1->(∀ o,h1.get? a=Ab o->h2.get? a=Ab o)->φ h2
def HOk(H:Hp)(h:AM):Prop:=∀ a o,H a=Ab o->ObjOk P w H h a o
end
section
variable{P:AU}{w:AH}{H H':Hp}{h h':AM}{a:Am}{o:HO}
theorem ObjOk.lt(x:ObjOk P w H h a o):a<h.objs.size:=by
 cases o with
 |lst xs=>obtain⟨_,_,_,_,e⟩:=x;exact AE e
 |tup xs=>obtain⟨_,_,_,p⟩:=x;exact p.lt
 |dK kvs=>obtain⟨_,_,_,_,o,_,_,e,_⟩:=x;exact AE e
 |dT kvs=>obtain⟨_,_,_,_,o,_,_,e,_⟩:=x;exact AE e
 |set S n=>obtain⟨o,_,_,_,e,_⟩:=x;exact AE e
 |ins C dx fs=>obtain⟨_,_,_,e,_⟩:=x;exact AE e
 |own y=>obtain⟨_,e⟩:=x;exact AE e
 |xd fs=>obtain⟨_,⟨_,_,_,e,_⟩,_⟩:=x;exact AE e
 |rng lo hi=>obtain⟨_,_,_,e⟩:=x;exact AE e
 |frz ob u=>obtain⟨e,_⟩:=x;exact AE e
 |tbl ps=>exact AE (show h.get? a=Ab _ from x)
 |met f y=>exact AE (show h.get? a=Ab _ from x)
 |ext φ=>obtain⟨_,⟨_,e⟩,_⟩:=x;exact AE e
theorem HP.mapP{α β:Type}{F G:α->β->Prop}:∀{l₁:Ac α}{l₂:Ac β},HP F l₁ l₂->(∀ a b,F a b->G a b)->HP G l₁ l₂
 |_,_,.nil,_=>.nil
 |_,_,.cons r t,f=>.cons (f _ _ r) (HP.mapP t f)
theorem ObjOk.stay(x:ObjOk P w H h a o)(k:∀ b u,(b=a\/H b=Ab (.own a))->h.get? b=Ab u->h'.get? b=Ab u)(ho:∀ b,H b=Ab (.own a)->H' b=Ab (.own a))(ht:∀ b xs,H b=Ab (.tup xs)->H' b=Ab (.tup xs)):ObjOk P w H' h' a o:=by
 induction o with
 |lst xs=>obtain⟨z,its,n,r,e⟩:=x;exact⟨z,its,n,r,k _ _ (.inl rfl) e⟩
 |tup xs=>obtain⟨z,its,r,ob,e,c⟩:=x;exact⟨z,its,r,ob,k _ _ (.inl rfl) e,c⟩
 |dK kvs=>obtain⟨z,y,vs,r,ob,es,ep,e,c⟩:=x;exact⟨z,y,vs,r,ob,es,ep,k _ _ (.inl rfl) e,c⟩
 |dT kvs=>
  obtain⟨z,y,xs,r,ob,es,ep,e,c⟩:=x;exact⟨z,y,xs,HP.mapP r λp q z=>⟨z.1,ht _ _ z.2.1,z.2.2⟩,ob,es,ep,k _ _ (.inl rfl) e,c⟩
 |set S n=>obtain⟨ob,es,ep,t,e,c⟩:=x;exact⟨ob,es,ep,t,k _ _ (.inl rfl) e,c⟩
 |ins C dx fs=>
  obtain⟨d,z,ne,e,mA,⟨od,es,ep,e2,c⟩,r⟩:=x;exact⟨ho _ d,z,ne,k _ _ (.inl rfl) e,mA,⟨od,es,ep,k _ _ (.inr d) e2,c⟩,r⟩
 |own y=>obtain⟨ob,e⟩:=x;exact⟨ob,k _ _ (.inl rfl) e⟩
 |xd fs=>obtain⟨mA,⟨od,es,ep,e,c⟩,r⟩:=x;exact⟨mA,⟨od,es,ep,k _ _ (.inl rfl) e,c⟩,r⟩
 |rng lo hi=>obtain⟨t,u,v,e⟩:=x;exact⟨t,u,v,k _ _ (.inl rfl) e⟩
 |frz ob u ih=>obtain⟨e,q⟩:=x;exact⟨k _ _ (.inl rfl) e,ih q⟩
 |tbl ps=>
  have e:h.get? a=Ab {cls:=.none,data:=.fields ps}:=x;show h'.get? a=Ab {cls:=.none,data:=.fields ps};exact k a _ (.inl rfl) e
 |met f y=>
  have e:h.get? a=Ab (HB (.ref f) (.ref y)):=x;show h'.get? a=Ab (HB (.ref f) (.ref y));exact k a _ (.inl rfl) e
 |ext φ=>obtain⟨p,⟨o,e⟩,st⟩:=x;exact⟨st _ _ p λo q=>k _ _ (.inl rfl) q,⟨o,k _ _ (.inl rfl) e⟩,st⟩
theorem HOk.lt(x:HOk P w H h)(e:H a=Ab o):a<h.objs.size:=(x a o e).lt
theorem HOk.fresh(x:HOk P w H h)(e:h.objs.size<=a):H a=Af:=by
 cases q:H a with
 |none=>rfl
 |some u=>exact absurd (AK (x.lt q) e) (Bw _)
theorem HOk.kept(x:HOk P w H h)(k:∀ b u,h.get? b=Ab u->h'.get? b=Ab u):HOk P w H h':=λa o e=>
 (x a o e).stay (λb u _ q=>k b u q) (λ_ q=>q) λ_ _ q=>q
theorem HOk.laid(x:HOk P w H h)(k:∀ b u,h.get? b=Ab u->h'.get? b=Ab u)(hp:h.objs.size<=a)(new:ObjOk P w (upd H a o) h' a o):HOk P w (upd H a o) h':=λb u e=>by
 have hn:=x.fresh hp;by_cases hb:b=a
 .subst hb;rw[Jm]at e;cases e;exact new
 .rw[Dz hb]at e;exact(x b u e).stay (λc v _ q=>k c v q) (λc q=>by rw[Dz (Go q hn)];exact q) λc xs q=>by rw[Dz (Go q hn)];exact q
end
def Rd(H:Hp)(a:Am)(u:HO):Prop:=H a=Ab u\/∃ o,H a=Ab (.frz o u)
theorem Rd.ok{w:AH}{u:HO}(r:Rd H a u)(x:HOk P w H h):ObjOk P w H h a u:=by
 rcases r with r|⟨o,r⟩
 .exact x a u r
 .obtain⟨_,q⟩:=x a _ r;exact q
def Mut:Aq HO->Prop
 |some (.lst _)=>Ix
 |some (.dK _)=>Ix
 |some (.dT _)=>Ix
 |some (.set _ _)=>Ix
 |some (.ins _ _ _)=>Ix
 |some (.ext _)=>Ix
 |_=>BF
section
variable{P:AU}{w:AH}{H:Hp}{h h':AM}{x e:Am}{o':HO}
theorem HOk.write(ok:HOk P w H h)(mu:Mut (H x))(he:e=x\/H e=Ab (.own x))(k:∀ b u,b≠e->h.get? b=Ab u->h'.get? b=Ab u)(heo:∃ u,h'.get? e=Ab u)(new:ObjOk P w (upd H x o') h' x o'):HOk P w (upd H x o') h':=λb u q=>by
 have nown:∀ c y,H c=Ab (.own y)->c≠x:=λc y r z=>by subst z;rw[r]at mu;exact mu
 have ntup:∀ c xs,H c=Ab (.tup xs)->c≠x:=λc xs r z=>by subst z;rw[r]at mu;exact mu
 by_cases hb:b=x
 .subst hb;rw[Jm]at q;cases q;exact new
 .rw[Dz hb]at q;by_cases hbe:b=e
  .have q':H b=Ab (.own x):=by
    rcases he with z|z
    .exact absurd (hbe.trans z) hb
    .rw[hbe];exact z
   rw[q]at q';cases q';obtain⟨v,hv⟩:=heo;exact⟨v,by rw[hbe];exact hv⟩
  .refine(ok b u q).stay (λc v hc r=>k c v ?_ r) (λc r=>by rw[Dz (nown c b r)];exact r) λc xs r=>by rw[Dz (ntup c xs r)];exact r
   rcases hc with rfl|hc
   .exact hbe
   .rintro rfl;rcases he with z|z
    .exact nown c b hc z
    .rw[hc]at z;cases z;exact hb rfl
end
structure Un (fs ex:Ac Am) (H H':Hp) (h h':AM):Prop where
 keep:∀ b o,h.get? b=Ab o->H b=Af->b∉fs->b∉ex->h'.get? b=Ab o
 slot:∀ b o,h.get? b=Ab o->H b=Af->b∈fs->b∉ex->∃ sl,h'.get? b=Ab {o with slots:=sl}
 free:∀ b o,h.get? b=Ab o->H b=Af->b∉ex->H' b=Af
 there:∀ b o,h.get? b=Ab o->b∉ex->∃ o',h'.get? b=Ab o'
 tups:∀ b xs,H b=Ab (.tup xs)->H' b=Ab (.tup xs)
 frzs:∀ b o u,H b=Ab (.frz o u)->H' b=Ab (.frz o u)
 tbls:∀ b ps,H b=Ab (.tbl ps)->∃ more,H' b=Ab (.tbl (ps++more))
section
variable{fs fs' ex ex':Ac Am}{H H1 H2:Hp}{h h1 h2 h':AM}{a x e:Am}{o:HO}
theorem Un.any(u:Un fs ex H H1 h h1){ob:Di}(q:h.get? b=Ab ob)(n:H b=Af)(hx:b∉ex):∃ sl,h1.get? b=Ab {ob with slots:=sl}:=by
 by_cases hb:b∈fs
 .exact u.slot b ob q n hb hx
 .exact⟨ob.slots,u.keep b ob q n hb hx⟩
theorem Un.kept(k:∀ b u,h.get? b=Ab u->h'.get? b=Ab u):Un fs ex H H h h':=
 ⟨λb ob q _ _ _=>k b ob q,λb ob q _ _ _=>⟨ob.slots,k b ob q⟩,λ_ _ _ n _=>n,λb ob q _=>⟨ob,k b ob q⟩,λ_ _ q=>q,λ_ _ _ q=>q,λ_ ps q=>⟨#[],by rw[q];simp⟩⟩
theorem Un.refl:Un fs ex H H h h:=Un.kept λ_ _ q=>q
theorem Un.laid(k:∀ b u,h.get? b=Ab u->h'.get? b=Ab u)(hp:h.objs.size<=a)(hn:H a=Af):Un fs ex H (upd H a o) h h' where
 keep:=λb u q _ _ _=>k b u q
 slot:=λb u q _ _ _=>⟨u.slots,k b u q⟩
 free:=λb u q n _=>by rw[Dz (AZ (AK (AE q) hp))];exact n
 there:=λb u q _=>⟨u,k b u q⟩
 tups:=λb xs q=>by rw[Dz (Go q hn)];exact q
 frzs:=λb u xs q=>by rw[Dz (Go q hn)];exact q
 tbls:=λb ps q=>⟨#[],by rw[Dz (Go q hn),q];simp⟩
theorem Un.write(mu:Mut (H x))(he:e=x\/H e=Ab (.own x))(k:∀ b u,b≠e->h.get? b=Ab u->h'.get? b=Ab u)(heo:∃ u,h'.get? e=Ab u):Un fs ex H (upd H x o) h h':=by
 have hx:∀ b,H b=Af->b≠x:=λb n z=>by subst z;rw[n]at mu;exact mu
 have hb:∀ b,H b=Af->b≠e:=λb n z=>by
  subst z;rcases he with r|r
  .exact hx b n r
  .rw[n]at r;cases r
 have hm:∀ b u,H b=Ab u->¬ Mut (Ab u)->b≠x:=λb u q nm z=>by subst z;rw[q]at mu;exact nm mu
 refine⟨λb u q n _ _=>k b u (hb b n) q,λb u q n _ _=>⟨u.slots,k b u (hb b n) q⟩,λb u q n _=>by rw[Dz (hx b n)];exact n,λb u q _=>?_,
  λb xs q=>by rw[Dz (hm b _ q λz=>z)];exact q,λb u xs q=>by rw[Dz (hm b _ q λz=>z)];exact q,λb ps q=>⟨#[],by rw[Dz (hm b _ q λz=>z),q];simp⟩⟩
 by_cases hbe:b=e
 .subst hbe;exact heo
 .exact⟨u,k b u hbe q⟩
end
noncomputable def trk(h:AM)(H:Hp):Ac Am:=(AT h.objs.size).filter λa=>(H a).isSome
noncomputable def Ju(h:AM)(H:Hp):AM:=PySem.W.hideAll h (trk h H)
theorem fY(h:AM)(H:Hp):(Ju h H).objs.size=h.objs.size:=PySem.W.hideAll_size _ _
theorem jS(e:h.get? b=Ab o)(n:H b=Af):(Ju h H).get? b=Ab o:=
 PySem.W.hideAll_get _ e λhm=>by
  have q:(H b).isSome=Aa:=(Cr.mp hm).2;rw[n]at q;simp at q
theorem nZ(e:(Ju h H).get? b=Ab o):h.get? b=Ab o/\H b=Af:=by
 have e':h.get? b=Ab o:=PySem.W.of_hideAll (trk h H) e;refine⟨e',?_⟩;cases q:H b with
 |none=>rfl
 |some x=>
  have hm:b∈trk h H:=Cr.mpr ⟨A3.mpr (AE e'),by simp[q]⟩
  have z:(Ju h H).get? b=Af:=PySem.W.hideAll_none (trk h H) hm;rw[z]at e;cases e
noncomputable def sD(g h:AM)(L:Am):Pn:=(AT h.objs.size).filterMap λa=>if a=L\/(g.get? a).isSome=Aa then Af else (h.get? a).map λo=>(a,o)
noncomputable def rest(g h:AM)(L d:Am):Pn:=(sD g h L).filter λp=>decide (p.1≠d)
structure Mod (K:Fg) (mg:An->Aq Ai) (base:AM):Prop where
 kin:K.In base
 glob:base.Ns Bg mg
 blt:∃ mb,base.Ns Jf mb/\∀ x:An,x≠"__name__"->mb x=Dx x
 nolimit:base.NoLimit
structure Cx where
 prog:AU
 w:AH
 K:Fg
 mg:An->Aq Ai
 base:AM
 A:Bc
 N:Ac An
 s₀:As
 H₀:Hp
 env:C1
 outer:Ac C1
 stack:Ac C1
 ex:Ac Am
 fn:An->Ak
 calm:Ak
 pn:Pn
 xe:Ai->As->Prop
variable{X:Cx}
noncomputable def frs(l:Ac C1):Ac Am:=l.filterMap (·.frame)
noncomputable abbrev Cx.fs(X:Cx):Ac Am:=frs X.outer
def Vis(sc:Cz)(x:An):Prop:=sc.names.lookup x=Ab .local\/sc.names.lookup x=Ab .cell\/sc.names.lookup x=Ab .free
def Loc(sc:Cz)(x:An):Prop:=sc.names.lookup x=Ab .local\/sc.names.lookup x=Ab .cell
noncomputable def bH(env:C1)(h:AM)(m:An->Aq Ai)(x:An)(u:Ai):Prop:=
 (env.kindOf x=Ab .local/\m x=Ab u)\/((env.kindOf x=Ab .cell\/env.kindOf x=Ab .free)/\∃ c,env.cells.lookup x=Ab c/\h.IsCell c (Ab u))
structure Cx.Ok (X:Cx):Prop where
 mod:Mod X.K X.mg X.base
 kind:X.env.scope.kind=.function
 glob:X.env.globals=Bg
 blt:X.env.builtins=Jf
 above:X.s₀.heap.objs.size<=X.env.locals
 inj:∀ x y c,X.env.cells.lookup x=Ab c->X.env.cells.lookup y=Ab c->x=y
 has:∀ x,(X.env.kindOf x=Ab .cell\/X.env.kindOf x=Ab .free)->∃ c,X.env.cells.lookup x=Ab c
 cab:∀ x c,X.fn x=Aa->X.env.cells.lookup x=Ab c->X.s₀.heap.objs.size<=c
 hd:X.calm=Aa->X.A.handled=Af
 frames:X.A.frames=Ab X.stack
 stk:X.stack=X.outer\/(X.stack=X.env::X.outer/\X.env.frame=Ab X.env.locals)
 exf:∀ b∈X.ex,b≠X.env.locals/\∀ x c,X.env.cells.lookup x=Ab c->c≠b
 bs:∀ b o,X.base.get? b=Ab o->X.s₀.heap.get? b=Ab o/\X.H₀ b=Af
 bsz:X.base.objs.size<=X.s₀.heap.objs.size
 noex:∀ b o,X.base.get? b=Ab o->b∉X.ex
 exfs:∀ b∈X.ex,b∉X.fs
 funs:X.s₀.heap.FunFrames X.base X.outer
 frf:∀ b∈X.fs,X.H₀ b=Af
structure Inv (X:Cx) (pI:Pn) (Y:Ac (Aq V)) (H:Hp) (s:As):Prop where
 ok:X.Ok
 os:s.os=X.s₀.os
 bare:FU s.gens
 base:Un X.fs X.ex X.H₀ H X.s₀.heap s.heap
 loc:∃ m,s.heap.Ns X.env.locals m/\∀(i:Ag)(x:An)(v:V),X.N[i]?=Ab x->Y[i]?=Ab (Ab v)->Vis X.env.scope x->∃ u,Ca v u/\bH X.env s.heap m x u
 cell:∀ x c,X.env.cells.lookup x=Ab c->∃ v,s.heap.IsCell c v
 free:H X.env.locals=Af
 freeC:∀ x c,X.env.cells.lookup x=Ab c->H c=Af
 pin:∀ p∈X.pn++pI,s.heap.get? p.1=Ab p.2/\H p.1=Af/\p.1≠X.env.locals/\p.1∉X.fs/\∀ v,p.2.data≠.cell v
 hok:HOk X.prog X.w H s.heap
 len:Y.length=X.N.length
section
variable{X:Cx}{pI:Pn}{Y:Ac (Aq V)}{H H':Hp}{s:As}{h':AM}
theorem Cx.Ok.nofr(ok:X.Ok)(e:X.base.get? b=Ab o):b∉X.fs:=λhb=>by
 have:=(ok.funs.mem hb).1;rw[e]at this;cases this
theorem Inv.bs(I:Inv X pI Y H s):∀ b o,X.base.get? b=Ab o->s.heap.get? b=Ab o/\H b=Af:=λb o e=>
 ⟨I.base.keep b o (I.ok.bs b o e).1 (I.ok.bs b o e).2 (I.ok.nofr e) (I.ok.noex b o e),I.base.free b o (I.ok.bs b o e).1 (I.ok.bs b o e).2 (I.ok.noex b o e)⟩
theorem Inv.bk(I:Inv X pI Y H s):∀ b o,X.base.get? b=Ab o->s.heap.get? b=Ab o:=λb o e=>(I.bs b o e).1
theorem Inv.mod(I:Inv X pI Y H s):Mod X.K X.mg X.base:=I.ok.mod
theorem Inv.kIn(I:Inv X pI Y H s):X.K.In s.heap:=I.ok.mod.kin.keeps I.bk
theorem Inv.lt(I:Inv X pI Y H s):X.env.locals<s.heap.objs.size:=let ⟨_,hn,_⟩:=I.loc;hn.lt
theorem Inv.sz(I:Inv X pI Y H s):X.s₀.heap.objs.size<=s.heap.objs.size:=Cv I.ok.above (E5 I.lt)
theorem Inv.nofs(I:Inv X pI Y H s)(h:s.heap.objs.size<=a):a∉X.fs:=λhb=>by
 obtain⟨_,o,ho,_⟩:=I.ok.funs.mem hb;exact absurd (AK (AE ho) (Cv I.sz h)) (Bw _)
theorem Inv.cne(I:Inv X pI Y H s):∀ x c,X.env.cells.lookup x=Ab c->c≠X.env.locals:=λx c e z=>by
 obtain⟨v,o,ho,hd⟩:=I.cell x c e;obtain⟨m,⟨o',es,ep,ho',hd',_⟩,_⟩:=I.loc;rw[z,ho']at ho;cases ho;rw[hd']at hd;cases hd
theorem Inv.funs(I:Inv X pI Y H s):s.heap.FunFrames X.base X.outer:=by
 have all:∀(l:Ac C1),(∀ b∈frs l,b∈X.fs)->X.s₀.heap.FunFrames X.base l->s.heap.FunFrames X.base l:=by
  intro l
  induction l with
  |nil=>intro _ _;trivial
  |cons env r ih=>
   intro hs hl;obtain⟨hk,⟨L,o,hf,hn,ho,hd⟩,hr⟩:=hl;have hL:L∈X.fs:=hs L (by unfold frs;rw[GY,hf];exact Ax)
   obtain⟨sl,e⟩:=I.base.slot L o ho (I.ok.frf L hL) hL λz=>I.ok.exfs L z hL
   exact⟨hk,⟨L,_,hf,hn,e,hd⟩,ih (λb hb=>hs b (by unfold frs;rw[GY,hf];exact At _ hb)) hr⟩
 exact all X.outer (λ_ hb=>hb) I.ok.funs
theorem Inv.stack(I:Inv X pI Y H s):s.heap.FunFrames X.base X.stack:=by
 rcases I.ok.stk with e|⟨e,hf⟩
 .rw[e];exact I.funs
 .rw[e];obtain⟨m,hn,_⟩:=I.loc;refine .cons (by rw[I.ok.kind];decide) hf hn ?_ I.funs
  exact GJ (Cv I.ok.bsz I.ok.above)
theorem Inv.stkSub(I:Inv X pI Y H s):∀ b∈frs X.stack,b∈X.env.locals::X.fs:=λb hb=>by
 rcases I.ok.stk with e|⟨e,hf⟩
 .rw[e]at hb;exact At _ hb
 .rw[e]at hb;unfold frs at hb;rw[GY,hf]at hb;exact hb
theorem Inv.stkFree(I:Inv X pI Y H s):∀ b∈frs X.stack,H b=Af:=λb hb=>by
 rcases Av.mp (I.stkSub b hb) with e|hb
 .rw[e];exact I.free
 .obtain⟨_,o,ho,_⟩:=I.ok.funs.mem hb;exact I.base.free b o ho (I.ok.frf b hb) λz=>I.ok.exfs b z hb
theorem Inv.step(I:Inv X pI Y H s)(hch:∀ b∈ch,(b∈X.ex\/X.s₀.heap.objs.size<=b)/\b≠X.env.locals/\(∀ x c,X.env.cells.lookup x=Ab c->c≠b)/\∀ p∈X.pn++pI,p.1≠b)(keep:∀ b o,b≠X.env.locals->b∉X.fs->b∉ch->s.heap.get? b=Ab o->H b=Af->h'.get? b=Ab o)(slot:∀ b o,b≠X.env.locals->b∈X.fs->b∉ch->s.heap.get? b=Ab o->H b=Af->∃ sl,h'.get? b=Ab {o with slots:=sl})(free:∀ b o,b∉ch->s.heap.get? b=Ab o->H b=Af->H' b=Af)(there:∀ b o,b∉ch->s.heap.get? b=Ab o->∃ o',h'.get? b=Ab o')(tups:∀ b xs,H b=Ab (.tup xs)->H' b=Ab (.tup xs))(frzs:∀ b o u,H b=Ab (.frz o u)->H' b=Ab (.frz o u))(tbls:∀ b ps,H b=Ab (.tbl ps)->∃ more,H' b=Ab (.tbl (ps++more)))(ns:∀ m,s.heap.Ns X.env.locals m->h'.Ns X.env.locals m)(hok:HOk X.prog X.w H' h')(hg:FU g'):Inv X pI Y H' {s with heap:=h',gens:=g',drawn:=d',toks:=t'}:=by
 have neL:∀ b o,X.s₀.heap.get? b=Ab o->b≠X.env.locals:=λb o e=>AZ (AK (AE e) I.ok.above)
 have neC:∀ b o,X.s₀.heap.get? b=Ab o->b∉X.ex->b∉ch:=λb o e hx hb=>by
  rcases (hch b hb).1 with z|z
  .exact hx z
  .exact absurd (AK (AE e) z) (Bw _)
 have cellK:∀ x c,X.env.cells.lookup x=Ab c->∀ v,s.heap.IsCell c v->h'.IsCell c v:=λx c e v ⟨o,ho,hd⟩=>by
  have nch:c∉ch:=λz=>(hch c z).2.2.1 x c e rfl
  by_cases hc:c∈X.fs
  .obtain⟨sl,q⟩:=slot c o (I.cne x c e) hc nch ho (I.freeC x c e);exact⟨_,q,hd⟩
  .exact⟨o,keep c o (I.cne x c e) hc nch ho (I.freeC x c e),hd⟩
 refine⟨I.ok,I.os,hg,⟨λb o e n hb hx=>?_,λb o e n hb hx=>?_,λb o e n hx=>?_,λb o e hx=>?_,λb xs e=>tups b xs (I.base.tups b xs e),λb o xs e=>frzs b o xs (I.base.frzs b o xs e),λb ps e=>?_⟩,?_,λx c e=>?_,?_,λx c e=>?_,λp hp=>?_,hok,I.len⟩
 .exact keep b o (neL b o e) hb (neC b o e hx) (I.base.keep b o e n hb hx) (I.base.free b o e n hx)
 .obtain⟨sl,e1⟩:=I.base.slot b o e n hb hx;obtain⟨sl',e2⟩:=slot b _ (neL b o e) hb (neC b o e hx) e1 (I.base.free b o e n hx);exact⟨sl',e2⟩
 .obtain⟨o',e1⟩:=I.base.there b o e hx;exact free b o' (neC b o e hx) e1 (I.base.free b o e n hx)
 .obtain⟨o',e1⟩:=I.base.there b o e hx;exact there b o' (neC b o e hx) e1
 .obtain⟨m1,e1⟩:=I.base.tbls b ps e;obtain⟨m2,e2⟩:=tbls b _ e1;exact⟨m1++m2,by rw[e2,Array.append_assoc]⟩
 .obtain⟨m,hn,hl⟩:=I.loc;refine⟨m,ns m hn,λi x v e1 e2 e3=>?_⟩
  obtain⟨u,r,l⟩:=hl i x v e1 e2 e3;refine⟨u,r,?_⟩;rcases l with l|⟨k,c,e,z⟩
  .exact .inl l
  .exact .inr ⟨k,c,e,cellK x c e _ z⟩
 .obtain⟨v,z⟩:=I.cell x c e;exact⟨v,cellK x c e v z⟩
 .obtain⟨m,⟨o,_,_,ho,_⟩,_⟩:=I.loc;exact free _ o (λz=>(hch _ z).2.1 rfl) ho I.free
 .obtain⟨v,o,ho,hd⟩:=I.cell x c e;exact free c o (λz=>(hch c z).2.2.1 x c e rfl) ho (I.freeC x c e)
 .obtain⟨e,n,ne,nf,d⟩:=I.pin p hp;have nch:p.1∉ch:=λz=>(hch p.1 z).2.2.2 p hp rfl
  exact⟨keep p.1 p.2 ne nf nch e n,free p.1 p.2 nch e n,ne,nf,d⟩
theorem Inv.un(I:Inv X pI Y H s)(u:Un X.fs [] H H' s.heap h')(hok:HOk X.prog X.w H' h'):Inv X pI Y H' {s with heap:=h',toks:=t'}:=by
 obtain⟨m,⟨o,es,ep,ho,r⟩,_⟩:=id I.loc;obtain⟨sl,hL⟩:=u.any ho I.free (by simp)
 exact I.step (g':=s.gens) (d':=s.drawn) (ch:=[]) (λ_ z=>nomatch z) (λb o _ hb _ e n=>u.keep b o e n hb (by simp)) (λb o _ hb _ e n=>u.slot b o e n hb (by simp)) (λb o _ e n=>u.free b o e n (by simp)) (λb o _ e=>u.there b o e (by simp)) u.tups u.frzs u.tbls (λm' hm=>by
  obtain⟨o',es',ep',ho',r'⟩:=hm;rw[ho]at ho';cases ho';exact⟨_,es',ep',hL,r'⟩) hok I.bare
theorem Inv.call(I:Inv X pI Y H s)(u:Un (frs X.stack) ch H H' s.heap h')(hok:HOk X.prog X.w H' h')(hg:FU g')(hch:∀ b∈ch,(b∈X.ex\/X.s₀.heap.objs.size<=b)/\b≠X.env.locals/\(∀ x c,X.env.cells.lookup x=Ab c->c≠b)/\∀ p∈X.pn++pI,p.1≠b):Inv X pI Y H' {s with heap:=h',gens:=g',drawn:=d',toks:=t'}:=by
 obtain⟨m,⟨o,es,ep,ho,r⟩,_⟩:=id I.loc;obtain⟨sl,hL⟩:=u.any ho I.free λz=>(hch _ z).2.1 rfl
 exact I.step (ch:=ch) hch (λb o hL hb hc e n=>u.keep b o e n (λz=>(Av.mp (I.stkSub b z)).elim hL hb) hc) (λb o _ _ hc e n=>u.any e n hc) (λb o hc e n=>u.free b o e n hc) (λb o hc e=>u.there b o e hc) u.tups u.frzs u.tbls (λm' hm=>by
  obtain⟨o',es',ep',ho',r'⟩:=hm;rw[ho]at ho';cases ho';exact⟨_,es',ep',hL,r'⟩) hok hg
theorem Inv.turned(I:Inv X pI Y H s)(k:∀ b o,b≠it->s.heap.get? b=Ab o->h'.get? b=Ab o)(hn:H it=Af)(hL:it≠X.env.locals)(h1:it∈X.ex\/X.s₀.heap.objs.size<=it)(h2:∀ x c,X.env.cells.lookup x=Ab c->c≠it)(h3:∀ p∈X.pn++pI,p.1≠it):Inv X pI Y H {s with heap:=h',toks:=t'}:=by
 have nit:∀ b u,H b=Ab u->b≠it:=λb u e z=>by rw[z,hn]at e;cases e
 refine I.step (g':=s.gens) (d':=s.drawn) (ch:=[it]) (λb hb=>?_) (λb o _ _ hc e _=>k b o (λz=>hc (by simp[z])) e) (λb o _ _ hc e _=>⟨o.slots,k b o (λz=>hc (by simp[z])) e⟩) (λ_ _ _ _ n=>n)
  (λb o hc e=>⟨o,k b o (λz=>hc (by simp[z])) e⟩) (λ_ _ e=>e) (λ_ _ _ e=>e) (λb ps e=>⟨#[],by rw[e];simp⟩) (λm hm=>?_) (λb u e=>?_) I.bare
 .have e:b=it:=by simpa using hb
  subst e;exact⟨h1,hL,h2,h3⟩
 .obtain⟨o,es,ep,ho,r⟩:=hm;exact⟨o,es,ep,k _ o (Br hL) ho,r⟩
 .refine(I.hok b u e).stay (λc v hc q=>k c v ?_ q) (λ_ q=>q) λ_ _ q=>q
  rcases hc with z|z
  .rw[z];exact nit b u e
  .exact nit c _ z
theorem Inv.tok(I:Inv X pI Y H s)(t:Ag):Inv X pI Y H {s with toks:=t}:=I.un (h':=s.heap) (t':=t) Un.refl I.hok
theorem Inv.kept{t':Ag}(I:Inv X pI Y H s)(k:∀ b u,s.heap.get? b=Ab u->h'.get? b=Ab u):Inv X pI Y H {s with heap:=h',toks:=t'}:=I.un (Un.kept k) (I.hok.kept k)
theorem Inv.laid{a:Am}{o:HO}{t':Ag}(I:Inv X pI Y H s)(k:∀ b u,s.heap.get? b=Ab u->h'.get? b=Ab u)(hp:s.heap.objs.size<=a)(new:ObjOk X.prog X.w (upd H a o) h' a o):Inv X pI Y (upd H a o) {s with heap:=h',toks:=t'}:=I.un (Un.laid k hp (I.hok.fresh hp)) (I.hok.laid k hp new)
theorem Inv.write{x e:Am}{o:HO}{t':Ag}(I:Inv X pI Y H s)(mu:Mut (H x))(he:e=x\/H e=Ab (.own x))(k:∀ b u,b≠e->s.heap.get? b=Ab u->h'.get? b=Ab u)(heo:∃ u,h'.get? e=Ab u)(new:ObjOk X.prog X.w (upd H x o) h' x o):Inv X pI Y (upd H x o) {s with heap:=h',toks:=t'}:=I.un (Un.write mu he k heo) (I.hok.write mu he k heo new)
theorem Inv.pins_of{pins':Pn}(I:Inv X pI Y H s)(h:∀ p∈pins',s.heap.get? p.1=Ab p.2/\H p.1=Af/\p.1≠X.env.locals/\p.1∉X.fs/\∀ v,p.2.data≠.cell v):Inv X pins' Y H s:=
 ⟨I.ok,I.os,I.bare,I.base,I.loc,I.cell,I.free,I.freeC,λp hp=>(GD.mp hp).elim (λz=>I.pin p (Er _ z)) (h p),I.hok,I.len⟩
theorem UW{N:Ac An}(hN:N.Nodup){j:Ag}(a:N[i]?=Ab x)(b:N[j]?=Ab x):i=j:=by
 obtain⟨h1,e1⟩:=Be.mp a;obtain⟨h2,e2⟩:=Be.mp b;exact(HK hN).mp (e1.trans e2.symm)
theorem TH{A:Bc}{E:Vq}(I:Inv X pI Y H s)(hN:X.N.Nodup)(hi:X.N[i]?=Ab x)(hx:Loc X.env.scope x)(r:Ca v u)(h:∀ s',Inv X pI (Y.set i (Ab v)) H s'->(∃ a,EC a s.heap s'.heap/\(a=X.env.locals\/X.env.cells.lookup x=Ab a))->Q () s')(hf:X.fn x=Aa\/X.env.scope.names.lookup x=Ab .local:=by first|exact .inl rfl|exact .inr rfl|assumption):AC M A (storeName X.env x u) Q E s:=by
 obtain⟨m,hn,hl⟩:=id I.loc;have hcls:(X.env.scope.kind==.class||(X.env.scope.kind==.module&&X.env.locals != X.env.globals))=Ae:=by rw[I.ok.kind];rfl
 have hiσ:i<Y.length:=by rw[I.len];exact(Be.mp hi).1
 have cne:=I.cne;have tracked:∀{a:Am}{h':AM},(∃ o,s.heap.get? a=Ab o/\H a=Af)->EC a s.heap h'->HOk X.prog X.w H h':=λ{a h'} ha hs b ob e=>by
  obtain⟨_,_,hfree⟩:=ha;refine(I.hok b ob e).stay (λc w' hc q=>(hs.2 c ?_).trans q) (λ_ q=>q) λ_ _ q=>q
  rintro rfl;rcases hc with rfl|hc
  .rw[hfree]at e;cases e
  .rw[hfree]at hc;cases hc
 rcases hx with hk|hk
 .refine wpAny_storeName_local hk hn (λh' hn' hs=>?_) hcls
  obtain⟨oL,_,_,hoL,_⟩:=id hn;refine h _ ⟨I.ok,I.os,I.bare,⟨λb o e n hb hx=>?_,λb o e n hb hx=>?_,I.base.free,λb o e hx=>?_,I.base.tups,I.base.frzs,I.base.tbls⟩,⟨_,hn',λj y v' e1 e2 e3=>?_⟩,λy c e=>?_,I.free,I.freeC,λp hp=>?_,tracked ⟨oL,hoL,I.free⟩ hs,by simpa using I.len⟩ ⟨_,hs,.inl rfl⟩
  .exact(hs.2 b (AZ (AK (AE e) I.ok.above))).trans (I.base.keep b o e n hb hx)
  .obtain⟨sl,e1⟩:=I.base.slot b o e n hb hx;exact⟨sl,(hs.2 b (AZ (AK (AE e) I.ok.above))).trans e1⟩
  .obtain⟨o',e1⟩:=I.base.there b o e hx;exact⟨o',(hs.2 b (AZ (AK (AE e) I.ok.above))).trans e1⟩
  .by_cases hj:j=i
   .subst hj;rw[hi]at e1;cases e1;rw[Dv hiσ]at e2;cases e2;exact⟨u,r,.inl ⟨hk,by simp⟩⟩
   .rw[GB (Br hj)]at e2;obtain⟨u',r',q⟩:=hl j y v' e1 e2 e3;refine⟨u',r',?_⟩;rcases q with ⟨k,e⟩|⟨k,c,e,z⟩
    .refine .inl ⟨k,?_⟩;have:y≠x:=λe=>hj (UW hN e1 (e ▸ hi))
     simp[this,e]
    .exact .inr ⟨k,c,e,z.sameBut hs (cne y c e)⟩
  .obtain⟨w',z⟩:=I.cell y c e;exact⟨w',z.sameBut hs (cne y c e)⟩
  .obtain⟨e,n,ne,nf,d⟩:=I.pin p hp;exact⟨(hs.2 p.1 ne).trans e,n,ne,nf,d⟩
 .have hfn:X.fn x=Aa:=by
   rcases hf with z|z
   .exact z
   .rw[z]at hk;cases hk
  obtain⟨c,hc⟩:=I.ok.has x (.inl hk);obtain⟨w',z⟩:=I.cell x c hc;refine wpAny_storeName_cell I.ok.kind hk hc z (λh' hc' hs=>?_)
  obtain⟨oc,hoc,hocd⟩:=id z;refine h {s with heap:=h'} ⟨I.ok,I.os,I.bare,⟨λb o e n hb hx=>?_,λb o e n hb hx=>?_,I.base.free,λb o e hx=>?_,I.base.tups,I.base.frzs,I.base.tbls⟩,⟨m,hn.sameBut hs (Br (cne x c hc)),λj y v' e1 e2 e3=>?_⟩,λy c' e=>?_,I.free,I.freeC,λp hp=>?_,tracked ⟨oc,hoc,I.freeC x c hc⟩ hs,by simpa using I.len⟩ ⟨c,hs,.inr hc⟩
  .exact(hs.2 b (AZ (AK (AE e) (I.ok.cab x c hfn hc)))).trans (I.base.keep b o e n hb hx)
  .obtain⟨sl,e1⟩:=I.base.slot b o e n hb hx;exact⟨sl,(hs.2 b (AZ (AK (AE e) (I.ok.cab x c hfn hc)))).trans e1⟩
  .obtain⟨o',e1⟩:=I.base.there b o e hx;exact⟨o',(hs.2 b (AZ (AK (AE e) (I.ok.cab x c hfn hc)))).trans e1⟩
  .by_cases hj:j=i
   .subst hj;rw[hi]at e1;cases e1;rw[Dv hiσ]at e2;cases e2;exact⟨u,r,.inr ⟨.inl hk,c,hc,hc'⟩⟩
   .rw[GB (Br hj)]at e2;obtain⟨u',r',q⟩:=hl j y v' e1 e2 e3;refine⟨u',r',?_⟩;rcases q with q|⟨k,c',e,z'⟩
    .exact .inl q
    .refine .inr ⟨k,c',e,z'.sameBut hs ?_⟩;rintro rfl;exact hj (UW hN e1 (I.ok.inj _ _ _ e hc ▸ hi))
  .by_cases hcc:c'=c
   .subst hcc;exact⟨_,hc'⟩
   .obtain⟨w2,z2⟩:=I.cell y c' e;exact⟨w2,z2.sameBut hs hcc⟩
  .obtain⟨e,n,ne,nf,d⟩:=I.pin p hp;refine⟨(hs.2 p.1 ?_).trans e,n,ne,nf,d⟩;intro q;rw[q,hoc]at e;have q':oc=p.2:=BJ e;exact d w' (by rw[<-q'];exact hocd)
theorem Ug{A:Bc}{E:Vq}(I:Inv X pI Y H s)(hN:X.N.Nodup)(hi:X.N[i]?=Ab x)(hx:Loc X.env.scope x)(r:Ca v u)(h:∀ s',Inv X pI (Y.set i (Ab v)) H s'->Q () s')(hf:X.fn x=Aa\/X.env.scope.names.lookup x=Ab .local:=by first|exact .inl rfl|exact .inr rfl|assumption):AC M A (storeName X.env x u) Q E s:=
 TH I hN hi hx r (λs' I' _=>h s' I') hf
theorem Inv.call'{s':As}(I:Inv X pI Y H s)(ho:s'.os=s.os)(u:Un (frs X.stack) ch H H' s.heap s'.heap)(hok:HOk X.prog X.w H' s'.heap)(hg:FU s'.gens)(hch:∀ b∈ch,(b∈X.ex\/X.s₀.heap.objs.size<=b)/\b≠X.env.locals/\(∀ x c,X.env.cells.lookup x=Ab c->c≠b)/\∀ p∈X.pn++pI,p.1≠b):Inv X pI Y H' s':=by
 obtain⟨h',g',d',t',o'⟩:=s';have e:o'=s.os:=ho;subst e;exact I.call (g':=g') (t':=t') (d':=d') u hok hg hch
end
abbrev XK:=Ai->Aq Am->Hp->Prop
abbrev St:=Ac (Aq V)
variable{Y:St}
abbrev VK:=V->Hp->Prop
abbrev TE:=St->Hp->VK->Prop
variable{te:TE}
abbrev TT:=St->Hp->(Ak->Hp->Prop)->Prop
abbrev TA:=St->Hp->(Ac V->Hp->Prop)->Prop
variable{ta:TA}
structure Ends where
 nx:St->Hp->Prop
 rt:VK
 bk:St->Hp->Prop:=λ_ _=>BF
 ct:St->Hp->Prop:=λ_ _=>BF
abbrev TS:=Ends->St->Hp->Prop
def EP(X:Cx)(pI:Pn)(Y:St)(Q:VK)(u:Ai)(s':As):Prop:=∃ v H',Inv X pI Y H' s'/\Ca v u/\Q v H'
def TP(X:Cx)(pI:Pn)(Y:St)(Q:Ak->Hp->Prop)(b:Ak)(s':As):Prop:=∃ H',Inv X pI Y H' s'/\Q b H'
def AP(X:Cx)(pI:Pn)(Y:St)(Q:Ac V->Hp->Prop)(us:Ac Ai)(s':As):Prop:=∃ vs H',Inv X pI Y H' s'/\Bj vs us/\Q vs H'
noncomputable def SP(X:Cx)(pI:Pn)(D:Ends)(f:Flow)(s':As):Prop:=
  match f with
  |.next=>∃ Y' H',Inv X pI Y' H' s'/\D.nx Y' H'
  |.brk=>∃ Y' H',Inv X pI Y' H' s'/\D.bk Y' H'
  |.cont=>∃ Y' H',Inv X pI Y' H' s'/\D.ct Y' H'
  |.ret u=>∃ v Y' H',Inv X pI Y' H' s'/\Ca v u/\D.rt v H'
noncomputable def PE(X:Cx)(e:Ao)(t:TE):Prop:=
 ∀(pI:Pn)(s:As)(Y:St)(H:Hp)(Q:VK),Inv X pI Y H s->t Y H Q->AC (model X.prog X.w) X.A (eval e X.env) (EP X pI Y Q) X.xe s
noncomputable def PT(X:Cx)(e:Ao)(t:TT):Prop:=
 ∀(pI:Pn)(s:As)(Y:St)(H:Hp)(Q:Ak->Hp->Prop),Inv X pI Y H s->t Y H Q->AC (model X.prog X.w) X.A (IU e X.env (eval e X.env)) (TP X pI Y Q) X.xe s
noncomputable def PW(X:Cx)(e:Ao)(t:TT):Prop:=
 ∀(whole:Hk Ai)(pI:Pn)(s:As)(Y:St)(H:Hp)(Q:Ak->Hp->Prop),Inv X pI Y H s->t Y H Q->AC (model X.prog X.w) X.A (IU e X.env whole) (TP X pI Y Q) X.xe s
theorem PW.pt{t:TT}(h:PW X e t):PT X e t:=h _
noncomputable def PA(X:Cx)(es:Ac Ao)(t:TA):Prop:=
 ∀(pos:A6)(pI:Pn)(s:As)(Y:St)(H:Hp)(Q:Ac V->Hp->Prop),Inv X pI Y H s->t Y H Q->AC (model X.prog X.w) X.A (spliced (CU pos (AI es X.env))) (AP X pI Y Q) X.xe s
noncomputable def PS(X:Cx)(st:BA)(t:TS):Prop:=
 ∀(pI:Pn)(s:As)(Y:St)(H:Hp)(D:Ends),Inv X pI Y H s->t D Y H->AC (model X.prog X.w) X.A (exec st X.env) (SP X pI D) X.xe s
noncomputable def PSs(X:Cx)(st:Ac BA)(t:TS):Prop:=
 ∀(pI:Pn)(s:As)(Y:St)(H:Hp)(D:Ends),Inv X pI Y H s->t D Y H->AC (model X.prog X.w) X.A (execs st X.env) (SP X pI D) X.xe s
theorem thn{α:Type}{t:Hk α}{Q Q':α->As->Prop}{A:Bc}{E:Vq}(h:AC M A t Q E s)(hQ:∀ a s,Q a s->Q' a s):AC M A t Q' E s:=CY h hQ λ_ _ x=>x
section
variable{X:Cx}
def IQ(i:Ag):TE:=λY H Q=>∃ v,Y[i]?=Ab (Ab v)/\Q v H
def tC(v:V):TE:=λ_ H Q=>Q v H
theorem zU(hN:X.N[i]?=Ab x)(hv:Vis X.env.scope x)(hd:(x==("__debug__" : An))=Ae:=by decide)(hcd:(x==("__classdict__" : An))=Ae:=by decide):PE X (.Name x pos) (IQ i):=by
 intro pI s Y H Q I h;obtain⟨v,e,h⟩:=h;obtain⟨m,hn,hl⟩:=I.loc;obtain⟨u,r,l⟩:=hl i x v hN e hv;have fin:EP X pI Y Q u s:=⟨v,H,I,r,h⟩;rcases l with ⟨hk,hm⟩|⟨hk,c,hc,hcell⟩
 .exact KR (wpAny_loadName_local I.ok.kind hk hn hm fin) hd
 .rcases hk with hk|hk
  .exact KR (wpAny_loadName_cell I.ok.kind hk hc hcell fin) hd
  .exact KR (wpAny_loadName_free I.ok.kind hk hc hcell fin hcd) hd
theorem ae{i j pos}:PE X (.Constant (.int i) j pos) (tC (.int i)):=λ_ _ _ H _ I h=>wpAny_Constant_int ⟨.int i,H,I.tok _,⟨_,rfl⟩,h⟩
theorem k6{b j pos}:PE X (.Constant (.bool b) j pos) (tC (.bl b)):=λ_ _ _ H _ I h=>Constant_bool ⟨.bl b,H,I,rfl,h⟩
theorem zZ{j pos}:PE X (.Constant .none j pos) (tC .non):=λ_ _ _ H _ I h=>Constant_none ⟨.non,H,I,rfl,h⟩
theorem zW{x j pos}:PE X (.Constant (.str x) j pos) (tC (.str x)):=λ_ _ _ H _ I h=>Calls.Constant_str ⟨.str x,H,I.tok _,⟨_,rfl⟩,h⟩
def Gl(X:Cx)(x:An):Prop:=X.env.kindOf x=Ab .globalImplicit
theorem rY{E:Vq}{Q:Vq}(I:Inv X pI Y H s)(hg:Gl X x)(hm:X.mg x=Ab u)(h:Q u s)(hd:(x==("__debug__" : An))=Ae:=by decide):AC (model X.prog X.w) X.A (eval (.Name x pos) X.env) Q E s:=
 Yk I.ok.kind hg (Calls.loadGlobal_global (by rw[I.ok.glob];exact I.mod.glob.keeps I.bk) hm h) hd
theorem HY{E:Vq}{Q:Vq}(I:Inv X pI Y H s)(hg:Gl X x)(hm:X.mg x=Af)(hv:Dx x=Ab u)(h:Q u s)(hn:x≠"__name__" := by decide)(hd:(x==("__debug__" : An))=Ae:=by decide):AC (model X.prog X.w) X.A (eval (.Name x pos) X.env) Q E s:=by
 obtain⟨mb,h1,h2⟩:=I.mod.blt;exact Yk I.ok.kind hg (Calls.loadGlobal_builtin (by rw[I.ok.glob];exact I.mod.glob.keeps I.bk) hm (by rw[I.ok.blt];exact h1.keeps I.bk) ((h2 x hn).trans hv) h) hd
theorem oJ(hg:Gl X x)(hm:X.mg x=Af)(hv:Dx x=Ab u)(r:Ca v u)(hn:x≠"__name__" := by decide)(hd:(x==("__debug__" : An))=Ae:=by decide):PE X (.Name x pos) (tC v):=
 λ_ _ _ H _ I h=>HY I hg hm hv ⟨v,H,I,r,h⟩ hn hd
variable{a b:Ao}{ta tb:TE}{pos:A6}
variable{tA tB':TT}{rest:Ac Ao}
def cV(t u:TT):TT:=λY H Q=>t Y H λc H1=>if c=Aa then u Y H1 Q else Q Ae H1
def tOr(t u:TT):TT:=λY H Q=>t Y H λc H1=>if c=Aa then Q Aa H1 else u Y H1 Q
def cP(t:TT):TT:=λY H Q=>t Y H λc H1=>Q (!c) H1
theorem qC(ha:PT X a tA):PW X (.BoolOp .And [a] pos) tA:=by
 intro wh pI s Y H Q I h;refine isTrue_and (thn (ha pI s Y H Q I h) λc s1 e=>?_)
 cases c with
 |true=>exact isTrue_and_nil e
 |false=>exact e
theorem zF(ha:PT X a tA):PW X (.BoolOp .Or [a] pos) tA:=by
 intro wh pI s Y H Q I h;refine isTrue_or (thn (ha pI s Y H Q I h) λc s1 e=>?_)
 cases c with
 |false=>exact isTrue_or_nil e
 |true=>exact e
theorem zG(ha:PT X a tA)(hb:PW X (.BoolOp .And (b::rest) pos) tB'):PW X (.BoolOp .And (a::b::rest) pos) (cV tA tB'):=by
 intro wh pI s Y H Q I h;refine isTrue_and (thn (ha pI s Y H _ I h) λc s1 ⟨H1,I1,q1⟩=>?_)
 cases c with
 |true=>exact hb wh pI s1 Y H1 Q I1 q1
 |false=>exact⟨H1,I1,q1⟩
theorem ju(ha:PT X a tA)(hb:PW X (.BoolOp .Or (b::rest) pos) tB'):PW X (.BoolOp .Or (a::b::rest) pos) (tOr tA tB'):=by
 intro wh pI s Y H Q I h;refine isTrue_or (thn (ha pI s Y H _ I h) λc s1 ⟨H1,I1,q1⟩=>?_)
 cases c with
 |true=>exact⟨H1,I1,q1⟩
 |false=>exact hb wh pI s1 Y H1 Q I1 q1
theorem zH(ha:PT X a tA):PT X (.UnaryOp .Not a pos) (cP tA):=by
 intro pI s Y H Q I h;exact isTrue_not (ha pI s Y H (λc H1=>Q (!c) H1) I h)
def j4(ta tb:TE):TE:=λY H Q=>ta Y H λx H1=>∃ c,x=.bl c/\if c=Aa then tb Y H1 Q else Q (.bl Ae) H1
def cO(ta tb:TE):TE:=λY H Q=>ta Y H λx H1=>∃ c,x=.bl c/\if c=Aa then Q (.bl Aa) H1 else tb Y H1 Q
def eh(ta:TE):TE:=λY H Q=>ta Y H λx H1=>∃ c,x=.bl c/\Q (.bl (!c)) H1
theorem zX{op}{t:TE}(h:PE X a t):PE X (.BoolOp op [a] pos) t:=λpI s Y H Q I hw=>BoolOp_one (h pI s Y H Q I hw)
theorem yH(ha:PE X a ta)(hb:PE X (.BoolOp .And (b::rest) pos) tb):PE X (.BoolOp .And (a::b::rest) pos) (j4 ta tb):=by
 intro pI s Y H Q I h;refine BoolOp_and (thn (ha pI s Y H _ I h) λv s1 ⟨x,H1,I1,r1,q1⟩=>?_)
 obtain⟨c,rfl,q1⟩:=q1;cases r1;refine C4 ?_;cases c with
 |true=>exact hb pI s1 Y H1 Q I1 q1
 |false=>exact⟨.bl Ae,H1,I1,rfl,q1⟩
theorem jz(ha:PE X a ta)(hb:PE X (.BoolOp .Or (b::rest) pos) tb):PE X (.BoolOp .Or (a::b::rest) pos) (cO ta tb):=by
 intro pI s Y H Q I h;refine BoolOp_or (thn (ha pI s Y H _ I h) λv s1 ⟨x,H1,I1,r1,q1⟩=>?_)
 obtain⟨c,rfl,q1⟩:=q1;cases r1;refine C4 ?_;cases c with
 |false=>exact hb pI s1 Y H1 Q I1 q1
 |true=>exact⟨.bl Aa,H1,I1,rfl,q1⟩
theorem zY(ha:PE X a ta):PE X (.UnaryOp .Not a pos) (eh ta):=by
 intro pI s Y H Q I h;refine UnaryOp_ (thn (ha pI s Y H _ I h) λv s1 ⟨x,H1,I1,r1,q1⟩=>?_)
 obtain⟨c,rfl,q1⟩:=q1;cases r1;exact not_of (C4 ⟨.bl (!c),H1,I1,rfl,q1⟩)
end
noncomputable def SqL(K:Fg)(H:Hp)(a:Am)(xs:Ac V):Prop:=
 Rd H a (.lst xs) \/
  ∃(o:Di)(its:A1 Ai)(n:Ag),K.lookup a=Ab o/\o.cls=.type "list"/\o.dict=Af/\o.data=.seq its n/\its.size<=sizeLine/\Bj xs its.toList
noncomputable def SqT(K:Fg)(H:Hp)(a:Am)(xs:Ac V):Prop:=
 Rd H a (.tup xs) \/
  ∃(o:Di)(its:A1 Ai)(n:Ag),K.lookup a=Ab o/\o.cls=.type "tuple"/\o.data=.seq its n/\its.size<=sizeLine/\Bj xs its.toList
noncomputable def bA:Ai->Aq V
 |.none=>Ab .non
 |.bool b=>Ab (.bl b)
 |.int i _=>Ab (.int i)
 |.str x _=>Ab (.str x)
 |.bytes b _=>Ab (.byt b)
 |.float b _=>Ab (.flt b)
 |.ref a=>Ab (.ref a)
 |.type n=>Ab (.ty n)
 |_=>Af
theorem Ca.abs{x:V}(r:Ca x u):bA u=Ab x:=by
 cases x with
 |non=>cases r;rfl
 |bl _=>cases r;rfl
 |int _=>obtain⟨t,rfl⟩:=r;rfl
 |str _=>obtain⟨t,rfl⟩:=r;rfl
 |byt _=>obtain⟨t,rfl⟩:=r;rfl
 |flt _=>obtain⟨t,rfl⟩:=r;rfl
 |ref _=>cases r;rfl
 |ty _=>cases r;rfl
theorem Ca.inj{x y:V}(r:Ca x u)(q:Ca y u):x=y:=BJ (r.abs.symm.trans q.abs)
theorem Bj.inj:∀{xs ys:Ac V}{us:Ac Ai},Bj xs us->Bj ys us->xs=ys
 |_,_,_,.nil,.nil=>rfl
 |_,_,_,.cons r t,.cons r' t'=>by rw[r.inj r',Bj.inj t t']
section
variable{X:Cx}{pI:Pn}{Y:St}{H:Hp}{s:As}{a:Am}{xs ys:Ac V}
theorem SqL.of{K:Fg}(h:H a=Ab (.lst xs)):SqL K H a xs:=.inl (.inl h)
theorem SqT.of{K:Fg}(h:H a=Ab (.tup xs)):SqT K H a xs:=.inl (.inl h)
theorem Inv.list(I:Inv X pI Y H s)(h:SqL X.K H a xs):∃ its:Ac Ai,Bj xs its/\PlainL s.heap a its.toArray/\xs.length<=sizeLine:=by
 rcases h with h|⟨o,its,n,hk,hc,hd,hs,hz,r⟩
 .obtain⟨z,its,n,r,e⟩:=h.ok I.hok;exact⟨its,r,⟨_,n,e,rfl,rfl,rfl⟩,z⟩
 .refine⟨its.toList,r,⟨o,n,I.kIn a o hk,hc,hd,by simpa using hs⟩,?_⟩
  have e:=r.length;simp only[EH]at e;omega
theorem Inv.tuple(I:Inv X pI Y H s)(h:SqT X.K H a xs):∃ its:Ac Ai,Bj xs its/\J5 s.heap a its.toArray/\xs.length<=sizeLine:=by
 rcases h with h|⟨o,its,n,hk,hc,hs,hz,r⟩
 .obtain⟨z,its,r,p⟩:=h.ok I.hok;exact⟨its,r,p,z⟩
 .refine⟨its.toList,r,⟨o,I.kIn a o hk,hc,n,by simpa using hs⟩,?_⟩
  have e:=r.length;simp only[EH]at e;omega
theorem Inv.list_inj(I:Inv X pI Y H s)(h:SqL X.K H a xs)(h':SqL X.K H a ys):xs=ys:=by
 obtain⟨its,r,⟨o,n,e,_,_,d⟩,_⟩:=I.list h;obtain⟨its',r',⟨o',n',e',_,_,d'⟩,_⟩:=I.list h';rw[e]at e';cases e';rw[d]at d'
 injection d' with d1 _
 have:its=its':=by simpa using congrArg JD d1
 subst this;exact r.inj r'
theorem Inv.tuple_inj(I:Inv X pI Y H s)(h:SqT X.K H a xs)(h':SqT X.K H a ys):xs=ys:=by
 obtain⟨its,r,⟨o,e,_,n,d⟩,_⟩:=I.tuple h;obtain⟨its',r',⟨o',e',_,n',d'⟩,_⟩:=I.tuple h';rw[e]at e';cases e';rw[d]at d'
 injection d' with d1 _
 have:its=its':=by simpa using congrArg JD d1
 subst this;exact r.inj r'
end
noncomputable abbrev Cx.wish(X:Cx)(E:Vq):Cx:={X with xe:=E}
noncomputable abbrev Cx.nox(X:Cx):Cx:=X.wish λ_ _=>BF
theorem Cx.Ok.wish(ok:X.Ok)(E:Vq):(X.wish E).Ok:=
 ⟨ok.mod,ok.kind,ok.glob,ok.blt,ok.above,ok.inj,ok.has,ok.cab,ok.hd,ok.frames,ok.stk,ok.exf,ok.bs,ok.bsz,ok.noex,ok.exfs,ok.funs,ok.frf⟩
theorem Cx.Ok.unwish{E:Vq}(ok:(X.wish E).Ok):X.Ok:=
 ⟨ok.mod,ok.kind,ok.glob,ok.blt,ok.above,ok.inj,ok.has,ok.cab,ok.hd,ok.frames,ok.stk,ok.exf,ok.bs,ok.bsz,ok.noex,ok.exfs,ok.funs,ok.frf⟩
section
variable{X:Cx}{pI:Pn}{Y:St}{H:Hp}{s:As}{E:Vq}
theorem Inv.wish(I:Inv X pI Y H s)(E:Vq):Inv (X.wish E) pI Y H s:=⟨I.ok.wish E,I.os,I.bare,I.base,I.loc,I.cell,I.free,I.freeC,I.pin,I.hok,I.len⟩
theorem Inv.unwish(I:Inv (X.wish E) pI Y H s):Inv X pI Y H s:=⟨I.ok.unwish,I.os,I.bare,I.base,I.loc,I.cell,I.free,I.freeC,I.pin,I.hok,I.len⟩
theorem SP.unwish{D:Ends}{f:Flow}{s':As}(h:SP (X.wish E) pI D f s'):SP X pI D f s':=by
 cases f with
 |next=>obtain⟨Y',H',I,q⟩:=h;exact⟨Y',H',I.unwish,q⟩
 |brk=>obtain⟨Y',H',I,q⟩:=h;exact⟨Y',H',I.unwish,q⟩
 |cont=>obtain⟨Y',H',I,q⟩:=h;exact⟨Y',H',I.unwish,q⟩
 |ret u=>obtain⟨v,Y',H',I,r,q⟩:=h;exact⟨v,Y',H',I.unwish,r,q⟩
theorem PSs.nox{st:Ac BA}{t:TS}(h:PSs X.nox st t):PSs X st t:=λpI s Y H D I hw=>
 CY (h pI s Y H D (I.wish _) hw) (λ_ _ q=>q.unwish) λ_ _ z=>Eo z
end
section
variable{X:Cx}{st:BA}{rest:Ac BA}{t u:TS}{e:Ao}{te:TE}{pos:A6}
def ii:TS:=λD Y H=>D.nx Y H
def cK(t u:TS):TS:=λD Y H=>t {D with nx:=u D} Y H
theorem oA:PSs X [] ii:=λ_ _ Y H _ I h=>ZH ⟨Y,H,I,h⟩
theorem jZ(h1:PS X st t)(h2:PSs X rest u):PSs X (st::rest) (cK t u):=by
 intro pI s Y H D I h;refine wpAny_execs_cons (thn (h1 pI s Y H {D with nx:=u D} I h) λf s1 q=>?_)
 cases f with
 |next=>
  obtain⟨Y',H',I',q⟩:=q;exact h2 pI s1 Y' H' D I' q
 |ret v=>exact q
 |brk=>exact q
 |cont=>exact q
theorem Inv.quiet(I:Inv X pI Y H s):interactive X.env=Ae:=by simp[interactive,I.ok.kind]
def io(te:TE):TS:=λD Y H=>te Y H λ_ H1=>D.nx Y H1
theorem ME(he:PE X e te)(hs:DU e Af pos.line X.env=pure Ae:=by rfl):PS X (.Expr e pos) (io te):=by
 intro pI s Y H D I h;exact wpAny_Expr_any (thn (he pI s Y H _ I h) λv s1 ⟨x,H1,I1,r1,q1⟩=>⟨Y,H1,I1,q1⟩) I.quiet hs
def cN(te:TE):TS:=λD Y H=>te Y H D.rt
theorem Q7(he:PE X e te):PS X (.Return (Ab e) pos) (cN te):=by
 intro pI s Y H D I h;exact wpAny_Return_some (thn (he pI s Y H _ I h) λv s1 ⟨x,H1,I1,r1,q1⟩=>⟨x,Y,H1,I1,r1,q1⟩)
def cS(c:TT)(t u:TS):TS:=λD Y H=>c Y H λb H1=>if b=Aa then t D Y H1 else u D Y H1
theorem jw{c:Ao}{a b:Ac BA}{tc:TT}(hc:PT X c tc)(ha:PSs X a t)(hb:PSs X b u):PS X (.If c a b pos) (cS tc t u):=by
 intro pI s Y H D I h;refine wpAny_If (thn (hc pI s Y H _ I h) λd s1 ⟨H1,I1,q1⟩=>?_)
 cases d with
 |true=>exact ha pI s1 Y H1 D I1 q1
 |false=>exact hb pI s1 Y H1 D I1 q1
end
abbrev TG:=V->St->Hp->(St->Hp->Prop)->Prop
abbrev TGs:=Ac V->St->Hp->(St->Hp->Prop)->Prop
noncomputable def PG(X:Cx)(target:Ao)(t:TG):Prop:=
 ∀(pI:Pn)(s:As)(Y:St)(H:Hp)(v:V)(u:Ai)(Q:St->Hp->Prop),Inv X pI Y H s->Ca v u->t v Y H Q ->
  AC (model X.prog X.w) X.A (assign target X.env u) (λ_ s'=>∃ Y' H',Inv X pI Y' H' s'/\Q Y' H') X.xe s
noncomputable def PGs(X:Cx)(ts:Ac Ao)(t:TGs):Prop:=
 ∀(pI:Pn)(s:As)(Y:St)(H:Hp)(vs:Ac V)(us:Ac Ai)(Q:St->Hp->Prop),Inv X pI Y H s->Bj vs us->t vs Y H Q ->
  AC (model X.prog X.w) X.A (assignInOrder ((CG ts X.env).map (·.2)) us) (λ_ s'=>∃ Y' H',Inv X pI Y' H' s'/\Q Y' H') X.xe s
abbrev O2:=V->V->V->Hp->(Hp->Prop)->Prop
noncomputable def SK(X:Cx)(t:O2):Prop:=
 ∀(pI:Pn)(s:As)(Y:St)(H:Hp)(o i v:V)(ov iv u:Ai)(Q:Hp->Prop),Inv X pI Y H s->Ca o ov->Ca i iv->Ca v u->t o i v H Q ->
  AC (model X.prog X.w) X.A (setItem ov iv u) (λ_ s'=>∃ H',Inv X pI Y H' s'/\Q H') X.xe s
section
variable{X:Cx}{pos:A6}
def FC(i:Ag):TG:=λv Y H Q=>Q (Y.set i (Ab v)) H
theorem MF(hN:X.N.Nodup)(hi:X.N[i]?=Ab x)(hx:Loc X.env.scope x)(hf:X.fn x=Aa\/X.env.scope.names.lookup x=Ab .local:=by first|exact .inl rfl|exact .inr rfl|assumption):PG X (.Name x pos) (FC i):=by
 intro pI s Y H v u Q I r h;exact ZF (Ug I hN hi hx r (λs' I'=>⟨_,H,I',h⟩) hf)
def Il:TGs:=λvs Y H Q=>vs=[]/\Q Y H
def Ia(t:TG)(u:TGs):TGs:=λvs Y H Q=>∃ v r,vs=v::r/\t v Y H λY' H'=>u r Y' H' Q
theorem U_8:PGs X [] Il:=by
 intro pI s Y H vs us Q I r h;obtain⟨e,h⟩:=h;subst e;cases r;exact assignInOrder_nil ⟨Y,H,I,h⟩
theorem UO{t:TG}{u:TGs}(h1:PG X e t)(h2:PGs X es u)(hs:(CG (e::es) X.env).map (·.2)=assign e X.env::(CG es X.env).map (·.2):=by rfl):PGs X (e::es) (Ia t u):=by
 intro pI s Y H vs us Q I r h;obtain⟨v,vr,e1,h⟩:=h;subst e1;cases r with
 |cons r rr=>
  rw[hs];refine assignInOrder_cons (thn (h1 pI s Y H _ _ _ I r h) λ_ s1 ⟨Y1,H1,I1,q1⟩=>?_)
  exact h2 pI s1 Y1 H1 _ _ Q I1 rr q1
def LP(K:Fg)(n:Ag)(t:TGs):TG:=λv Y H Q=>∃ a xs,v=.ref a/\SqT K H a xs/\xs.length=n/\t xs Y H Q
theorem Q9{t:TGs}(hc:X.calm=Aa)(h:PGs X es t)(hn:(CG es X.env).length=n:=by rfl)(hst:(CG es X.env).findIdx? (·.1)=Af:=by rfl):PG X (.Tuple es k pos) (LP X.K n t):=by
 intro pI s Y H v u Q I r hw;obtain⟨a,xs,e1,hq,hl,hw⟩:=hw;subst e1;cases r;obtain⟨its,rv,ht,hz⟩:=I.tuple hq;refine assign_Tuple_tuple (I.ok.hd hc) ht (by simp[hn,<-hl,rv.length]) hst λh' hx=>?_
 have I1:Inv X pI Y H {s with heap:=h'}:=I.kept (t':=s.toks) λb o e=>hx b o (AZ (AE e)) e
 exact h pI _ Y H xs _ Q I1 (by simpa using rv) hw
def bS(to ti:TE)(t:O2):TG:=λv Y H Q=>to Y H λo H1=>ti Y H1 λi H2=>t o i v H2 λH3=>Q Y H3
theorem zT{o i:Ao}{to ti:TE}{t:O2}(ho:PE X o to)(hi:PE X i ti)(hs:SK X t)(ha:∀ v,assign (.Subscript o i pos) X.env v=(do
   let ov <-holding [v] (eval o X.env)
   let iv <-holding [v,ov] (eval i X.env)
   J9 pos
   holding [v,ov,iv] (setItem ov iv v)
   release [v,ov,iv] []):=by intro _;rfl):PG X (.Subscript o i pos) (bS to ti t):=by
 intro pI s Y H v u Q I r h;rw[ha];refine Ah (Cc (thn (ho pI s Y H _ I h) λov s1 ⟨x,H1,I1,r1,q1⟩=>?_))
 refine Ah (Cc (thn (hi pI s1 Y H1 _ I1 q1) λiv s2 ⟨y,H2,I2,r2,q2⟩=>?_))
 refine Ah (Hn (Ah (Cc (thn (hs pI s2 Y H2 x y v ov iv u _ I2 r1 r2 r q2) λ_ s3 ⟨H3,I3,q3⟩=>?_))))
 exact wpAny_release ⟨Y,H3,I3,q3⟩
def OM(te:TE)(g:TG):TS:=λD Y H=>te Y H λx H1=>g x Y H1 D.nx
theorem WF{g:TG}(he:PE X e te)(hg:PG X tg g)(hs:Hm [tg] e pos.line X.env=pure Ae:=by rfl)(hw:Gj [tg] e X.env=pure Af:=by rfl)(h1:(CG [tg] X.env).map (·.2)=[assign tg X.env]:=by rfl):PS X (.Assign [tg] e pos) (OM te g):=by
 intro pI s Y H D I h;refine wpAny_Assign_stores (thn (he pI s Y H _ I h) λv s1 ⟨x,H1,I1,r1,q1⟩=>?_) hs hw
 rw[h1];exact thn (hg pI s1 Y H1 x v _ I1 r1 q1) λ_ s2 q=>q
theorem zK{pos':A6}(hN:X.N.Nodup)(hi:X.N[i]?=Ab x)(hx:Loc X.env.scope x)(he:PE X e te)(hs:DU e (Ab (.Name x pos')) pos.line X.env=pure Ae:=by rfl)(hf:X.fn x=Aa\/X.env.scope.names.lookup x=Ab .local:=by first|exact .inl rfl|exact .inr rfl|assumption):PS X (.Assign [.Name x pos'] e pos) (OM te (FC i)):=by
 intro pI s Y H D I h;refine wpAny_Assign_Name (thn (he pI s Y H _ I h) λv s1 ⟨y,H1,I1,r1,q1⟩=>?_) hs
 exact Ug I1 hN hi hx r1 (λs2 I2=>⟨_,H1,I2,q1⟩) hf
end
section
variable{X:Cx}{pos:A6}
end
structure It where
 go:Ag->Hp->Prop
 yld:Ag->Hp->V->Hp->Prop
 stop:Ag->Hp->Prop
noncomputable def G9(X:Cx)(pI:Pn)(H:Hp)(b:Am):Prop:=
 H b=Af/\b≠X.env.locals/\b∉X.fs/\(b∈X.ex\/X.s₀.heap.objs.size<=b)/\(∀ x c,X.env.cells.lookup x=Ab c->c≠b)/\∀ p∈X.pn++pI,p.1≠b
theorem Inv.fpOk{H':Hp}(I:Inv X pI Y H s)(hb:s.heap.objs.size<=b)(hn:H' b=Af):G9 X pI H' b:=by
 refine⟨hn,De (AK I.lt hb),I.nofs hb,.inr (Cv I.sz hb),λx c e z=>?_,λp hp z=>?_⟩
 .obtain⟨v,q⟩:=I.cell x c e;exact absurd (AK q.lt (by rw[z];exact hb)) (Bw _)
 .exact absurd (AK (AE (I.pin p hp).1) (by rw[z];exact hb)) (Bw _)
structure Turn (P:AU) (w:AH) (K:Fg) (tg:Ao) (J:It) (fp:Ac Am) (it:Am) (tn:Ag->AM->Prop):Prop where
 mem:it∈fp
 obj:∀ i h,tn i h->∀ b∈fp,∃ o,h.get? b=Ab o/\∀ v,o.data≠.cell v
 keep:∀ i h h',tn i h->(∀ b∈fp,∀ o,h.get? b=Ab o->h'.get? b=Ab o)->tn i h'
 item:∀(X:Cx),X.prog=P->X.w=w->X.K=K->X.calm=Aa->∀(i:Ag)(pI:Pn)(s:As)(Y:St)(H:Hp)(E:Vq),Inv X pI Y H s->(∀ b∈fp,G9 X pI H b)->tn i s.heap->J.go i H ->
  AC (model P w) X.A (D0 (.ref it)) (λr s1=>∃ u,r=Ab u /\
   AC (model P w) X.A (GN tg (.ref it) u) (λ_ s2=>∃ x H',Inv X pI Y H' s2/\Ca x u/\J.yld i H x H'/\tn (i+1) s2.heap/\∀ b∈fp,H' b=Af) E s1) E s
 done:∀(X:Cx),X.prog=P->X.w=w->X.K=K->X.calm=Aa->∀(i:Ag)(pI:Pn)(s:As)(Y:St)(H:Hp)(E:Vq),Inv X pI Y H s->(∀ b∈fp,G9 X pI H b)->tn i s.heap->J.stop i H ->
  AC (model P w) X.A (D0 (.ref it)) (λr s1=>r=Af/\Inv X pI Y H s1) E s
 self:∀(A:Bc)(i:Ag)(s:As)(Q:Vq)(E:Vq),tn i s.heap->Q (.ref it) s->AC (model P w) A (JP (.ref it)) Q E s
abbrev TI:=St->Hp->(It->Hp->Prop)->Prop
noncomputable def PIE(X:Cx)(pI:Pn)(Y:St)(tg:Ao)(R:It->Hp->Prop)(itv:Ai)(s2:As):Prop:=
 ∃(it:Am)(fp:Ac Am)(tn:Ag->AM->Prop)(J:It)(H':Hp),itv=.ref it/\Inv X pI Y H' s2/\Turn X.prog X.w X.K tg J fp it tn/\tn 0 s2.heap/\(∀ b∈fp,G9 X pI H' b)/\R J H'
noncomputable def PI(X:Cx)(tg iter:Ao)(wi:TI):Prop:=
 ∀(pI:Pn)(s:As)(Y:St)(H:Hp)(R:It->Hp->Prop),Inv X pI Y H s->wi Y H R ->
  AC (model X.prog X.w) X.A (eval iter X.env) (λv s1=>AC (model X.prog X.w) X.A (JP v) (PIE X pI Y tg R) X.xe s1) X.xe s
theorem RT{A:Bc}{E:Vq}{n:Dy}{vs:A1 Ai}(ho:s.heap.get? it=Ab o)(hc:o.cls=.type n)(hd:o.data=.fields vs)(hn:["enumerate", "zip", "dict_itemiterator", "dict_reverseitemiterator", "odict_iterator", "itertools.zip_longest", "itertools.pairwise"].contains n=Ae)(hQ:Q () s):AC M A (GN tg (.ref it) u) Q E s:=by
  unfold GN;cases tg<;>first
    |exact Aw hQ
    | (cases u<;>first
        |exact Aw hQ
        | (refine Ah (wpAny_load ho ?_)
           rw[hc,hd];show AC M A (if (["enumerate", "zip", "dict_itemiterator", "dict_reverseitemiterator", "odict_iterator", "itertools.zip_longest", "itertools.pairwise"].contains n&&vs[0]? == Ab (Cw _))=Aa then _ else _) Q E s
           rw[AW (by intro h;rw[hn,Bool.false_and]at h;cases h)]
           exact Aw hQ))
noncomputable def Itl(K:Fg)(a:Am):It:=
 ⟨λi H=>∃ xs x,SqL K H a xs/\xs[i]?=Ab x,λi H x H'=>H'=H/\∀ xs,SqL K H a xs->xs[i]?=Ab x,λi H=>∃ xs,SqL K H a xs/\xs.length<=i⟩
noncomputable def Itt(K:Fg)(a:Am):It:=
 ⟨λi H=>∃ xs x,SqT K H a xs/\xs[i]?=Ab x,λi H x H'=>H'=H/\∀ xs,SqT K H a xs->xs[i]?=Ab x,λi H=>∃ xs,SqT K H a xs/\xs.length<=i⟩
noncomputable def Itr(lo:Ad)(n:Ag):It:=⟨λi _=>i<n,λi H x H'=>H'=H/\x=.int (lo+i),λi _=>n<=i⟩
theorem eW{w:AH}{K:Fg}(a it:Am):Turn P w K tg (Itl K a) [it] it (λi h=>h.IsListIter it a i) where
  mem:=by simp
  obj:=λi h st b hb=>by
    have e:b=it:=by simpa using hb
    subst e;obtain⟨o,e,c,d⟩:=st;exact⟨o,e,λv z=>by rw[d]at z;cases z⟩
  keep:=λi h h' st k=>st.at λo e=>k it (by simp) o e
  item:=by
    intro X hP hw hK hc i pI s Y H E I hf st hg;subst hP hw hK;obtain⟨xs,x,hq,hx⟩:=hg;obtain⟨its,rv,p,hz⟩:=I.list hq;obtain⟨u,hu,ru⟩:=rv.get hx;obtain⟨f0,f1,f2,f3,f4,f5⟩:=hf it (by simp)
    refine ZM st p.isList (x:=u) (by simpa using hu) λh' st' sb=>?_
    have I1:Inv X pI Y H {s with heap:=h'}:=I.turned (t':=s.toks) (λb o hb e=>(sb.2 b hb).trans e) f0 f1 f3 f4 f5
    obtain⟨o,e,c,d⟩:=id st';exact⟨u,rfl,RT (s:={s with heap:=h'}) e c d (by decide) ⟨x,H,I1,ru,⟨rfl,λys hy=>by rw[I.list_inj hy hq];exact hx⟩,st',λb hb=>(hf b hb).1⟩⟩
  done:=by
    intro X hP hw hK hc i pI s Y H E I hf st hg;subst hP hw hK;obtain⟨xs,hq,hx⟩:=hg;obtain⟨its,rv,p,hz⟩:=I.list hq;obtain⟨f0,f1,f2,f3,f4,f5⟩:=hf it (by simp)
    have hl:=rv.length;exact ZL (I.ok.hd hc) st p.isList (by simp;omega) λh' eb=>⟨rfl,I.turned (t':=s.toks) (λb o hb e=>eb b o hb e) f0 f1 f3 f4 f5⟩
  self:=λ_ _ _ _ _ st h=>wpAny_pyIter_listiter st h
theorem eH{w:AH}{K:Fg}(a it:Am):Turn P w K tg (Itt K a) [it] it (λi h=>h.IsTupleIter it a i) where
  mem:=by simp
  obj:=λi h st b hb=>by
    have e:b=it:=by simpa using hb
    subst e;obtain⟨o,e,c,d⟩:=st;exact⟨o,e,λv z=>by rw[d]at z;cases z⟩
  keep:=λi h h' st k=>st.at λo e=>k it (by simp) o e
  item:=by
    intro X hP hw hK hc i pI s Y H E I hf st hg;subst hP hw hK;obtain⟨xs,x,hq,hx⟩:=hg;obtain⟨its,rv,p,hz⟩:=I.tuple hq;obtain⟨u,hu,ru⟩:=rv.get hx;obtain⟨f0,f1,f2,f3,f4,f5⟩:=hf it (by simp)
    refine wpAny_pyNext_tuple_item st (show s.heap.IsTuple a its.toArray from p) (x:=u) (by simpa using hu) λh' st' sb=>?_
    have I1:Inv X pI Y H {s with heap:=h'}:=I.turned (t':=s.toks) (λb o hb e=>(sb.2 b hb).trans e) f0 f1 f3 f4 f5
    obtain⟨o,e,c,d⟩:=id st';exact⟨u,rfl,RT (s:={s with heap:=h'}) e c d (by decide) ⟨x,H,I1,ru,⟨rfl,λys hy=>by rw[I.tuple_inj hy hq];exact hx⟩,st',λb hb=>(hf b hb).1⟩⟩
  done:=by
    intro X hP hw hK hc i pI s Y H E I hf st hg;subst hP hw hK;obtain⟨xs,hq,hx⟩:=hg;obtain⟨its,rv,p,hz⟩:=I.tuple hq;obtain⟨f0,f1,f2,f3,f4,f5⟩:=hf it (by simp)
    have hl:=rv.length;exact wpAny_pyNext_tuple_end (I.ok.hd hc) st (show s.heap.IsTuple a its.toArray from p) (by simp;omega) λh' eb=>⟨rfl,I.turned (t':=s.toks) (λb o hb e=>eb b o hb e) f0 f1 f3 f4 f5⟩
  self:=λ_ _ _ _ _ st h=>wpAny_pyIter_tupleiter st h
theorem eI{w:AH}{K:Fg}(it:Am)(lo:Ad)(n:Ag):Turn P w K tg (Itr lo n) [it] it (λi h=>IsRangeIter h it (lo+(i:Ag)*1) ((n:Ad)-(i:Ag)) 1) where
  mem:=by simp
  obj:=λi h st b hb=>by
    have e:b=it:=by simpa using hb
    subst e;exact⟨_,st,λv z=>by
      have z':Data.fields _=LW v:=z;cases z'⟩
  keep:=λi h h' st k=>k it (by simp) _ st
  item:=by
    intro X hP hw hK hc i pI s Y H E I hf st hg;subst hP hw hK;obtain⟨f0,f1,f2,f3,f4,f5⟩:=hf it (by simp)
    have W:=Walks.range (prog:=X.prog) (w:=X.w) (I.ok.hd hc) it lo 1 n;refine W.item i s _ _ hg st λv h' tk hv st' kk=>?_
    obtain⟨t,rfl⟩:=hv;have I1:Inv X pI Y H {s with heap:=h',toks:=tk}:=I.turned (λb o hb e=>kk b o (by simpa using hb) e) f0 f1 f3 f4 f5
    refine⟨_,rfl,RT (s:={s with heap:=h',toks:=tk}) (n := "range_iterator") st' rfl rfl (by decide) ⟨.int (lo+i),H,I1,⟨t,?_⟩,⟨rfl,rfl⟩,st',λb hb=>(hf b hb).1⟩⟩
    rw[DJ]
  done:=by
    intro X hP hw hK hc i pI s Y H E I hf st hg;subst hP hw hK;obtain⟨f0,f1,f2,f3,f4,f5⟩:=hf it (by simp)
    exact wpAny_pyNext_range_end (I.ok.hd hc) st (by have:n<=i:=hg;omega) λh' eb=>⟨rfl,I.turned (t':=s.toks) (λb o hb e=>eb b o hb e) f0 f1 f3 f4 f5⟩
  self:=λ_ _ _ _ _ st h=>wpAny_pyIter_rangeiter st h
section
variable{X:Cx}{tg:Ao}
theorem UN{R:It->Hp->Prop}{E:Vq}{lo hi:Ad}{t u v:DO}{tk:Ag}(I:Inv X pI Y H s)(h1:-(2 ^ 62)<=lo)(h2:lo<2 ^ 62)(h3:-(2 ^ 62)<=hi)(h4:hi<2 ^ 62)(q:R (Itr lo (hi-lo).toNat) H):AC (model X.prog X.w) X.A (JP (.ref s.heap.objs.size)) (PIE X pI Y tg R) E { s with heap:=s.heap.push { cls:=.type "range",data:=.fields #[.int lo t,.int hi u,.int 1 v] },toks:=tk }:=by
 refine wpAny_pyIter_range (IsRange.new ..) (small_one h1 h2 h3 h4) ?_;have I1:Inv X pI Y H { s with heap:=s.heap.push { cls:=.type "range",data:=.fields #[.int lo t,.int hi u,.int 1 v] },toks:=tk }:=I.kept λb o e=>Ar _ e
 refine⟨(s.heap.push { cls:=.type "range",data:=.fields #[.int lo t,.int hi u,.int 1 v] }).objs.size,[(s.heap.push { cls:=.type "range",data:=.fields #[.int lo t,.int hi u,.int 1 v] }).objs.size],_,_,H,rfl,
  I1.kept (t':=tk) λb o e=>Ar _ e,eI _ lo (hi-lo).toNat,?_,λb hb=>?_,q⟩
 .have e1:lo+((0:Ag):Ad)*1=lo:=by simp
  have e2:(((hi-lo).toNat:Ag):Ad)-((0:Ag):Ad)=Builtin.Range.rangeSize lo hi 1:=by rw[rangeSize_one];split<;>omega
  show IsRangeIter _ _ (lo+((0:Ag):Ad)*1) ((((hi-lo).toNat:Ag):Ad)-((0:Ag):Ad)) 1;rw[e1,e2];exact AB _ rfl
 .have e:b=(s.heap.push { cls:=.type "range",data:=.fields #[.int lo t,.int hi u,.int 1 v] }).objs.size:=by simpa using hb
  subst e;exact I1.fpOk (A5 _) (I1.hok.fresh (A5 _))
def ZQ(ta:TA):TI:=λY H R=>ta Y H λvs H1=>∃ j:Ad,vs=[.int j]/\-(2 ^ 62)<=j/\j<2 ^ 62/\R (Itr 0 j.toNat) H1
def ZP(ta:TA):TI:=λY H R=>ta Y H λvs H1=>∃ i j:Ad,vs=[.int i,.int j]/\(-(2 ^ 62)<=i/\i<2 ^ 62/\-(2 ^ 62)<=j/\j<2 ^ 62)/\R (Itr i (j-i).toNat) H1
theorem eV{a:Ao}(hg:Gl X "range")(hm:X.mg "range" = Af)(ha:PA X [a] ta)(hs:AI [a] X.env=[(Ae,eval a X.env)]:=by rfl):PI X tg (.Call (.Name "range" p) [a] [] pos) (ZQ ta):=by
 intro pI s Y H R I h;refine Ja (HY I hg hm boot_range (Ce (thn (ha pos pI s Y H _ I h) λus s1 ⟨vs,H1,I1,r1,q1⟩=>?_) hs rfl))
 obtain⟨j,e,q1,q2,q⟩:=q1;subst e;cases r1 with
 |cons r rr=>
  cases rr;obtain⟨t,rfl⟩:=r;exact call_range_1 (UN I1 (by omega) (by omega) q1 q2 (by simpa using q))
theorem eU{a b:Ao}(hg:Gl X "range")(hm:X.mg "range" = Af)(ha:PA X [a,b] ta)(hs:AI [a,b] X.env=[(Ae,eval a X.env),(Ae,eval b X.env)]:=by rfl)(hs2:AI [b] X.env=[(Ae,eval b X.env)]:=by rfl):
  PI X tg (.Call (.Name "range" p) [a,b] [] pos) (ZP ta):=by
 intro pI s Y H R I h;refine Ja (HY I hg hm boot_range (Ce (thn (ha pos pI s Y H _ I h) λus s1 ⟨vs,H1,I1,r1,q1⟩=>?_) (by rw[hs,hs2]) (by rw[hs2];rfl)))
 obtain⟨i,j,e,⟨q1,q2,q3,q4⟩,q⟩:=q1;subst e;cases r1 with
 |cons r rr=>
  cases rr with
  |cons r' rr=>
   cases rr;obtain⟨t,rfl⟩:=r;obtain⟨t',rfl⟩:=r';exact call_range_2 (UN I1 q1 q2 q3 q4 q)
def cT(wi:TI)(g:TG)(tb:TS):TS:=λD Y H=>wi Y H λJ H1=>∃ W:Ag->Ag->St->Hp->Prop,(∃ m,W 0 m Y H1)/\∀ i m Y H,W i m Y H ->
 (J.stop i H/\D.nx Y H)\/(J.go i H/\∃ N:St->Hp->Prop,(∀ Y' H',N Y' H'->∃ m',m'<m/\W (i+1) m' Y' H')/\∀ x H',J.yld i H x H'->g x Y H' λY2 H2=>tb {D with nx:=N,ct:=N,bk:=D.nx} Y2 H2)
noncomputable def Kx(fp:Ac Am)(h:AM):Pn:=fp.filterMap λb=>(h.get? b).map λo=>(b,o)
theorem NC(hb:b∈fp)(e:h.get? b=Ab o):(b,o)∈Kx fp h:=List.mem_filterMap.mpr ⟨b,hb,by rw[e];rfl⟩
theorem TY{p:Am×Di}(hp:p∈Kx fp h):p.1∈fp/\h.get? p.1=Ab p.2:=by
 obtain⟨b,hb,e⟩:=List.mem_filterMap.mp hp;cases q:h.get? b with
 |none=>rw[q]at e;cases e
 |some o=>
  rw[q]at e;have e':(b,o)=p:=BJ e;subst e';exact⟨hb,q⟩
theorem Inv.pinned(I:Inv X pI Y H s)(hf:∀ b∈fp,G9 X pI H b)(ho:∀ b∈fp,∃ o,s.heap.get? b=Ab o/\∀ v,o.data≠.cell v):Inv X (pI++Kx fp s.heap) Y H s:=
 I.pins_of λp hp=>(GD.mp hp).elim (λz=>I.pin p (Bt _ z)) λz=>by
  obtain⟨hb,e⟩:=TY z;obtain⟨f0,f1,f2,_⟩:=hf p.1 hb;obtain⟨o,e',d⟩:=ho p.1 hb;rw[e]at e';cases e';exact⟨e,f0,f1,f2,d⟩
theorem Inv.unpinned{pI pl:Pn}(I:Inv X (pI++pl) Y H s):Inv X pI Y H s:=I.pins_of λp hp=>I.pin p (Bt _ (Er _ hp))
theorem zL{iter:Ao}{wi:TI}{g:TG}{tb:TS}(hp:GA (model X.prog X.w) X.A X.env X.xe)(hc:X.calm=Aa)(hi:PI X tg iter wi)(hg:PG X tg g)(hb:PSs X body tb)(hs:∀ x,Dr iter X.env x=pure x:=by intro _;rfl):PS X (.For tg iter body [] pos) (cT wi g tb):=by
 intro pI s Y H D I h;refine wpAny_For (thn (hi pI s Y H _ I h) λv s1 h1=>thn h1 λitv s2 h2=>?_) hs
 obtain⟨it,fp,tn,J,H2,e,I2,T,st2,f2,W,⟨m0,w0⟩,turn⟩:=h2;subst e
 -- what stays Aa of the iterator's objects through the loop
 have stat:∀{H':Hp},(∀ b∈fp,H' b=Af)->∀ b∈fp,G9 X pI H' b:=λhn b hb=>⟨hn b hb,(f2 b hb).2⟩
 refine codeAny_forLoop_any (λn s'=>∃ i Y' H',Inv X pI Y' H' s'/\tn i s'.heap/\(∀ b∈fp,H' b=Af)/\W i n Y' H') ?_ m0 ⟨0,Y,H2,I2,st2,λb hb=>(f2 b hb).1,w0⟩
 rintro n s3 ⟨i,Y3,H3,I3,st3,fr3,w3⟩;rcases turn i n Y3 H3 w3 with ⟨stop,qn⟩|⟨go,N,hN,step⟩
 .refine FK hp (thn (T.done X rfl rfl rfl hc i pI s3 Y3 H3 X.xe I3 (stat fr3) st3 stop) λr s4 ⟨hr,I4⟩=>?_)
  subst hr;exact ZH ⟨Y3,H3,I4,qn⟩
 .refine FK hp (thn (T.item X rfl rfl rfl hc i pI s3 Y3 H3 X.xe I3 (stat fr3) st3 go) λr s4 ⟨u,hr,h4⟩=>?_)
  subst hr;refine FK hp (thn h4 λ_ s5 ⟨x,H5,I5,r5,y5,st5,fr5⟩=>?_)
  have I5':=I5.pinned (stat fr5) (T.obj _ _ st5);refine FK hp (thn (hg _ s5 Y3 H5 x u _ I5' r5 (step x H5 y5)) λ_ s6 ⟨Y6,H6,I6,q6⟩=>?_)
  refine FK hp (thn (hb _ s6 Y6 H6 _ I6 q6) λf s7 q7=>?_)
  have again:∀{Y7:St}{H7:Hp},Inv X (pI++Kx fp s5.heap) Y7 H7 s7->N Y7 H7->∃ m,m<n/\∃ i Y' H',Inv X pI Y' H' s7/\tn i s7.heap/\(∀ b∈fp,H' b=Af)/\W i m Y' H':=λ{Y7 H7} I7 n7=>by
   obtain⟨m',hm,w7⟩:=hN Y7 H7 n7;refine⟨m',hm,i+1,Y7,H7,I7.unpinned,T.keep _ _ _ st5 λb hb o e=>(I7.pin (b,o) (Bt _ (Bt _ (NC hb e)))).1,λb hb=>?_,w7⟩
   obtain⟨o,e,d⟩:=T.obj _ _ st5 b hb;exact(I7.pin (b,o) (Bt _ (Bt _ (NC hb e)))).2.1
  cases f with
  |next=>obtain⟨Y7,H7,I7,n7⟩:=q7;exact again I7 n7
  |cont=>obtain⟨Y7,H7,I7,n7⟩:=q7;exact again I7 n7
  |brk=>obtain⟨Y7,H7,I7,q7⟩:=q7;exact⟨Y7,H7,I7.unpinned,q7⟩
  |ret v=>obtain⟨x7,Y7,H7,I7,r7,q7⟩:=q7;exact⟨x7,Y7,H7,I7.unpinned,r7,q7⟩
end
abbrev R2:=V->V->Hp->VK->Prop
variable{r:R2}
noncomputable def OpR(X:Cx)(f:Ai->Ai->Hk Ai)(r:R2):Prop:=
 ∀(pI:Pn)(s:As)(Y:St)(H:Hp)(x y:V)(v u:Ai)(Q:VK),Inv X pI Y H s->Ca x v->Ca y u->r x y H Q ->
  AC (model X.prog X.w) X.A (f v u) (EP X pI Y Q) X.xe s
noncomputable def UnR(X:Cx)(f:Ai->Hk Ai)(r:V->Hp->VK->Prop):Prop:=
 ∀(pI:Pn)(s:As)(Y:St)(H:Hp)(x:V)(v:Ai)(Q:VK),Inv X pI Y H s->Ca x v->r x H Q ->
  AC (model X.prog X.w) X.A (f v) (EP X pI Y Q) X.xe s
noncomputable def Ih(X:Cx)(f:Ai)(r:Ac V->Hp->VK->Prop):Prop:=
 ∀(pI:Pn)(s:As)(Y:St)(H:Hp)(xs:Ac V)(us:Ac Ai)(Q:VK),Inv X pI Y H s->Bj xs us->r xs H Q ->
  AC (model X.prog X.w) X.A (call f us) (EP X pI Y Q) X.xe s
noncomputable def bD(X:Cx)(r:V->Hp->(Ak->Hp->Prop)->Prop):Prop:=
 ∀(pI:Pn)(s:As)(Y:St)(H:Hp)(x:V)(v:Ai)(Q:Ak->Hp->Prop),Inv X pI Y H s->Ca x v->r x H Q ->
  AC (model X.prog X.w) X.A (truthy v) (TP X pI Y Q) X.xe s
def tOp(r:R2)(ta tb:TE):TE:=λY H Q=>ta Y H λx H1=>tb Y H1 λy H2=>r x y H2 Q
def tUn(r:V->Hp->VK->Prop)(ta:TE):TE:=λY H Q=>ta Y H λx H1=>r x H1 Q
def rI(C:Ad->Ad->Prop)(g:Ad->Ad->V):R2:=λx y H Q=>∃ i j,x=.int i/\y=.int j/\C i j/\Q (g i j) H
def rI0(g:Ad->Ad->V):R2:=λx y H Q=>∃ i j,x=.int i/\y=.int j/\Q (g i j) H
def rU(g:Ad->V):V->Hp->VK->Prop:=λx H Q=>∃ i,x=.int i/\Q (g i) H
section
variable{X:Cx}{a b c:Ao}{ta tb tc:TE}{pos:A6}
theorem Pa(ha:PE X a ta)(hb:PE X b tb){R:V->V->Hp->Prop}(I:Inv X pI Y H s)(h:ta Y H λx H1=>tb Y H1 λy H2=>R x y H2){Q:Vq}(hf:∀ v u s2 x y H2,Inv X pI Y H2 s2->Ca x v->Ca y u->R x y H2->AC (model X.prog X.w) X.A (f v u) Q X.xe s2):AC (model X.prog X.w) X.A (eval a X.env) (λv s₁=>AC (model X.prog X.w) X.A (eval b X.env) (λu s₂=>AC (model X.prog X.w) X.A (f v u) Q X.xe s₂) X.xe s₁) X.xe s:=by
 refine thn (ha pI s Y H _ I h) λv s1 ⟨x,H1,I1,r1,q1⟩=>?_
 refine thn (hb pI s1 Y H1 _ I1 q1) λu s2 ⟨y,H2,I2,r2,q2⟩=>?_
 exact hf v u s2 x y H2 I2 r1 r2 q2
theorem WW{op:Gn}(ho:OpR X (CB op) r)(ha:PE X a ta)(hb:PE X b tb):PE X (.BinOp a op b pos) (tOp r ta tb):=by
 intro pI s Y H Q I h;exact wpAny_BinOp (Pa ha hb I h λv u s2 x y H2 I2 rx ry q=>ho pI s2 Y H2 x y v u Q I2 rx ry q)
theorem jy{op:J7}{r:V->Hp->VK->Prop}(ho:UnR X (unaryOp op) r)(ha:PE X a ta):PE X (.UnaryOp op a pos) (tUn r ta):=by
 intro pI s Y H Q I h;exact UnaryOp_ (thn (ha pI s Y H _ I h) λv s1 ⟨x,H1,I1,r1,q1⟩=>ho pI s1 Y H1 x v Q I1 r1 q1)
theorem opI{C:Ad->Ad->Prop}(rule:∀(i j:Ad)(t u:DO)(s:As)(Q:Vq)(E:Vq),C i j->Q (.int (g i j) s.toks) {s with toks:=s.toks+1}->AC (model X.prog X.w) X.A (f (.int i t) (.int j u)) Q E s):OpR X f (rI C λi j=>.int (g i j)):=by
 intro pI s Y H x y v u Q I rx ry h;obtain⟨i,j,rfl,rfl,hc,q⟩:=h;obtain⟨t,rfl⟩:=rx;obtain⟨t',rfl⟩:=ry;exact rule i j t t' s _ _ hc ⟨.int (g i j),H,I.tok _,⟨_,rfl⟩,q⟩
theorem SX(rule:∀(i j:Ad)(t u:DO)(s:As)(Q:Vq)(E:Vq),Q (.int (g i j) s.toks) {s with toks:=s.toks+1}->AC (model X.prog X.w) X.A (f (.int i t) (.int j u)) Q E s):OpR X f (rI0 λi j=>.int (g i j)):=by
 intro pI s Y H x y v u Q I rx ry h;obtain⟨i,j,rfl,rfl,q⟩:=h;obtain⟨t,rfl⟩:=rx;obtain⟨t',rfl⟩:=ry;exact rule i j t t' s _ _ ⟨.int (g i j),H,I.tok _,⟨_,rfl⟩,q⟩
theorem OQ{g:Ad->Ad->Ak}(rule:∀(i j:Ad)(t u:DO)(s:As)(Q:Vq)(E:Vq),Q (.bool (g i j)) s->AC (model X.prog X.w) X.A (f (.int i t) (.int j u)) Q E s):OpR X f (rI0 λi j=>.bl (g i j)):=by
 intro pI s Y H x y v u Q I rx ry h;obtain⟨i,j,rfl,rfl,q⟩:=h;obtain⟨t,rfl⟩:=rx;obtain⟨t',rfl⟩:=ry;exact rule i j t t' s _ _ ⟨.bl (g i j),H,I,rfl,q⟩
def dF(i j:Ad):Prop:=0<j/\j<1073741824
def dE(i j:Ad):Prop:=0<=j/\j<=1000000/\i.natAbs<2 ^ 64
def OX(i j:Ad):Prop:=(-(2 ^ 64)<i/\i<2 ^ 64)\/(-(2 ^ 64)<j/\j<2 ^ 64)
theorem OX.ok{i j:Ad}(h:OX i j):LY i j:=by
 rcases h with ⟨h1,h2⟩|⟨h1,h2⟩
 .exact .of_left (intBits_le_64 h1 h2)
 .exact .of_right (intBits_le_64 h1 h2)
theorem yN:OpR X (CB .Add) (rI0 λi j=>.int (i+j)):=SX λ_ _ _ _ _ _ _ q=>add_int q
theorem yJ:OpR X (CB .Sub) (rI0 λi j=>.int (i-j)):=SX λ_ _ _ _ _ _ _ q=>sub_int q
theorem oZ:OpR X (CB .FloorDiv) (rI dF λi j=>.int (i/j)):=opI λi j _ _ _ _ _ hc q=>by
 have h1:(0:Ad)<j:=hc.1;have h2:j<1073741824:=hc.2;exact floordiv_int (by omega) (by rw[Int.fdiv_eq_ediv_of_nonneg i (by omega)];exact q) (.inl (PyProof.noPylong_small (by omega)))
theorem yL:OpR X (CB .Mod) (rI (λ_ j=>0<j) λi j=>.int (i%j)):=opI λi j _ _ _ _ _ hc q=>by
 have h1:(0:Ad)<j:=hc;exact mod_int' (by omega) (by rw[Int.fmod_eq_emod_of_nonneg i (by omega)];exact q)
theorem yK:OpR X (CB .Pow) (rI dE λi j=>.int (i ^ j.toNat)):=opI λ_ _ _ _ _ _ _ hc q=>pow_int_small hc.1 hc.2.1 hc.2.2 q
theorem unI{f:Ai->Hk Ai}{g:Ad->Ad}(rule:∀(i:Ad)(t:DO)(s:As)(Q:Vq)(E:Vq),Q (.int (g i) s.toks) {s with toks:=s.toks+1}->AC (model X.prog X.w) X.A (f (.int i t)) Q E s):UnR X f (rU λi=>.int (g i)):=by
 intro pI s Y H x v Q I rx h;obtain⟨i,rfl,q⟩:=h;obtain⟨t,rfl⟩:=rx;exact rule i t s _ _ ⟨.int (g i),H,I.tok _,⟨_,rfl⟩,q⟩
theorem uY:UnR X (unaryOp .USub) (rU λi=>.int (-i)):=unI λ_ _ _ _ _ q=>neg_int q
end
section
variable{X:Cx}{a b c:Ao}{ta tb tc:TE}{pos:A6}
theorem Wl{Q:VK}{k k':Ak}(I:Inv X pI Y H s)(q:Q (.bl k) H)(e:k=k'):EP X pI Y Q (.bool k') s:=by
 subst e;exact⟨.bl k,H,I,rfl,q⟩
theorem ka:OpR X (C3 .Lt) (rI0 λi j=>.bl (decide (i<j))):=OQ λ_ _ _ _ _ _ _ q=>lt_int q
theorem kc:OpR X (C3 .LtE) (rI0 λi j=>.bl (decide (i<=j))):=OQ λ_ _ _ _ _ _ _ q=>le_int q
theorem ke:OpR X (C3 .Gt) (rI0 λi j=>.bl (decide (j<i))):=OQ λ_ _ _ _ _ _ _ q=>gt_int q
theorem kf:OpR X (C3 .GtE) (rI0 λi j=>.bl (decide (j<=i))):=OQ λ_ _ _ _ _ _ _ q=>ge_int q
theorem yM:OpR X (C3 .Is) (λx y H Q=>y=.non/\Q (.bl (decide (x=.non))) H):=by
 intro pI s Y H x y v u Q I rx ry h;obtain⟨rfl,q⟩:=h;cases ry;refine is_none_gen (Wl I q ?_);cases x<;>first
  |(cases rx;rfl)
  |(obtain⟨t,rfl⟩:=rx;rfl)
theorem oX:OpR X (C3 .IsNot) (λx y H Q=>y=.non/\Q (.bl (!decide (x=.non))) H):=by
 intro pI s Y H x y v u Q I rx ry h;obtain⟨rfl,q⟩:=h;cases ry;refine isnot_none_gen (Wl I q ?_);cases x<;>first
  |(cases rx;rfl)
  |(obtain⟨t,rfl⟩:=rx;rfl)
theorem oH(ho:OpR X (C3 op) r)(ha:PE X a ta)(hb:PE X b tb)(hm:Hl op b=Ae):PE X (.Compare a [op] [b] pos) (tOp r ta tb):=by
 intro pI s Y H Q I h;exact wpAny_Compare1 (Pa ha hb I h λv u s2 x y H2 I2 rx ry q=>ho pI s2 Y H2 x y v u Q I2 rx ry q) hm
def WL(t:TE):TT:=λY H Q=>t Y H λx H'=>∃ k,x=.bl k/\Q k H'
theorem qF(ho:OpR X (C3 op) r)(ha:PE X a ta)(hb:PE X b tb)(hm:Hl op b=Ae):PT X (.Compare a [op] [b] pos) (WL (tOp r ta tb)):=by
 intro pI s Y H Q I h;refine wpAny_isTrue_Compare1 (thn (ha pI s Y H _ I h) λv s1 ⟨x,H1,I1,r1,q1⟩=>thn (hb pI s1 Y H1 _ I1 q1) λu s2 ⟨y,H2,I2,r2,q2⟩=>
  thn (ho pI s2 Y H2 x y v u _ I2 r1 r2 q2) λc s3 ⟨z,H3,I3,r3,k,e,q3⟩=>?_) hm
 subst e;cases r3;exact C4 ⟨H3,I3,q3⟩
def Wz(r r':R2)(ta tb tc:TE):TE:=λY H Q=>ta Y H λx H1=>tb Y H1 λy H2=>r x y H2 λz H3=>∃ k,z=.bl k /\
 (if k=Aa then tc Y H3 λw' H4=>r' y w' H4 Q else Q (.bl Ae) H3)
theorem kD{op':DI}{r':R2}(ho:OpR X (C3 op) r)(ho':OpR X (C3 op') r')(ha:PE X a ta)(hb:PE X b tb)(hc:PE X c tc)(hm:JM [op,op'] [b,c]=Ae:=by with_unfolding_all rfl):PE X (.Compare a [op,op'] [b,c] pos) (Wz r r' ta tb tc):=by
 intro pI s Y H Q I h;refine Compare_chain (thn (ha pI s Y H _ I h) λv s1 ⟨x,H1,I1,r1,q1⟩=>chain_link (thn (hb pI s1 Y H1 _ I1 q1) λu s2 ⟨y,H2,I2,r2,q2⟩=>
  thn (ho pI s2 Y H2 x y v u _ I2 r1 r2 q2) λd s3 ⟨z,H3,I3,r3,k,e,q3⟩=>?_)) hm
 subst e;cases r3;refine C4 ?_;cases k with
 |false=>exact ite_ff ⟨.bl Ae,H3,I3,rfl,q3⟩
 |true=>exact ite_tt (chain_last (thn (hc pI s3 Y H3 _ I3 q3) λw' s4 ⟨z',H4,I4,r4,q4⟩=>ho' pI s4 Y H4 y z' u w' Q I4 r2 r4 q4))
theorem jY{op':DI}{r':R2}(ho:OpR X (C3 op) r)(ho':OpR X (C3 op') r')(ha:PE X a ta)(hb:PE X b tb)(hc:PE X c tc)(hm:JM [op,op'] [b,c]=Ae:=by with_unfolding_all rfl):PT X (.Compare a [op,op'] [b,c] pos) (WL (Wz r r' ta tb tc)):=by
 intro pI s Y H Q I h;refine isTrue_chain (thn (ha pI s Y H _ I h) λv s1 ⟨x,H1,I1,r1,q1⟩=>test_link (thn (hb pI s1 Y H1 _ I1 q1) λu s2 ⟨y,H2,I2,r2,q2⟩=>
  thn (ho pI s2 Y H2 x y v u _ I2 r1 r2 q2) λd s3 ⟨z,H3,I3,r3,k,e,q3⟩=>?_)) hm
 subst e;cases r3;refine C4 ?_;cases k with
 |false=>
  obtain⟨k',e',q'⟩:=q3;cases e';exact ite_ff ⟨H3,I3,q'⟩
 |true=>
  refine ite_tt (test_last (thn (hc pI s3 Y H3 _ I3 q3) λw' s4 ⟨z',H4,I4,r4,q4⟩=>thn (ho' pI s4 Y H4 y z' u w' _ I4 r2 r4 q4) λd' s5 ⟨z2,H5,I5,r5,k2,e2,q5⟩=>?_))
  subst e2;cases r5;exact C4 ⟨H5,I5,q5⟩
noncomputable def SH(K:Fg)(x:V)(H:Hp)(k:Ak):Prop:=
  match x with
  |.non=>k=Ae
  |.bl b=>k=b
  |.int i=>k=(i != 0)
  |.str y=>y.length<=sizeLine/\k=((y.length:Ad) != 0)
  |.byt y=>y.size<=sizeLine/\k=((y.size:Ad) != 0)
  |.ref p=>(∃ xs,SqL K H p xs/\k=!xs.isEmpty)\/(∃ xs,SqT K H p xs/\k=!xs.isEmpty)\/∃ kvs,H p=Ab (.dK kvs)/\k=!kvs.isEmpty
  |_=>BF
theorem fK{κ:Type}{kvs:Ac (κ×V)}{vs:Ac (κ×Ai)}(r:KV kvs vs):(!vs.isEmpty)=!kvs.isEmpty:=by
 cases r<;>rfl
theorem Tj{its:Ac Ai}(r:Bj xs its):(!its.toArray.isEmpty)=!xs.isEmpty:=by
 cases r<;>simp
theorem Kz:(sizeLine:Ag)<2 ^ 63:=by rw[Ew];decide
theorem vC:bD X (λx H Q=>∃ k,SH X.K x H k/\Q k H):=by
 intro pI s Y H x v Q I rx h;obtain⟨k,e,q⟩:=h;have hl:=Kz;have hs:sizeLine=16777216:=Ew;cases x with
 |non=>
  cases rx;have e':k=Ae:=e;subst e';exact truthy_none ⟨H,I,q⟩
 |bl b=>
  cases rx;have e':k=b:=e;subst e';exact C4 ⟨H,I,q⟩
 |int i=>
  obtain⟨t,rfl⟩:=rx;have e':k=(i != 0):=e;subst e';exact PySem.P.truthy_int ⟨H,I,q⟩
 |str y=>
  obtain⟨t,rfl⟩:=rx;obtain⟨hy,e'⟩:y.length<=sizeLine/\k=((y.length:Ad) != 0):=e;subst e';exact PySem.P.truthy_str (by omega) ⟨H,I.tok _,q⟩
 |byt y=>
  obtain⟨t,rfl⟩:=rx;obtain⟨hy,e'⟩:y.size<=sizeLine/\k=((y.size:Ad) != 0):=e;subst e';exact PySem.W.truthy_bytes (by omega) ⟨H,I.tok _,q⟩
 |ref p=>
  cases rx;have e':(∃ xs,SqL X.K H p xs/\k=!xs.isEmpty)\/(∃ xs,SqT X.K H p xs/\k=!xs.isEmpty)\/∃ kvs,H p=Ab (.dK kvs)/\k=!kvs.isEmpty:=e;rcases e' with ⟨xs,hx,e'⟩|⟨xs,hx,e'⟩|⟨kvs,hx,e'⟩
  .subst e';obtain⟨its,r,pl,hz⟩:=I.list hx;have hlen:=r.length;exact wpAny_truthy_list pl.isList (by simp only[AD];omega) ⟨H,I.tok _,by rw[Tj r];exact q⟩
  .subst e';obtain⟨its,r,pl,hz⟩:=I.tuple hx;have hlen:=r.length;exact truthy_tuple pl (by simp only[AD];omega) ⟨H,I.tok _,by rw[Tj r];exact q⟩
  .subst e';obtain⟨hz,hS,vs,r,m⟩:kvs.length<=sizeLine/\(p==KP)=Ae/\∃ vs,KV kvs vs/\s.heap.DictOf (Q6 X.prog X.w) p vs:=I.hok p _ hx;have hlen:kvs.length=vs.length:=Y_5 r;exact wpAny_truthy_dict hS m (by omega) ⟨H,I.tok _,by rw[fK r];exact q⟩
 |_=>exact(show BF from e).elim
theorem jX(ha:PE X a ta)(he:∀ whole,IU a X.env whole=(do let v <-whole;J9 a.pos;holding [v] (truthy v))):PT X a (λY H Q=>ta Y H λx H'=>∃ k,SH X.K x H' k/\Q k H'):=by
 intro pI s Y H Q I h;exact isTrue_plain (thn (ha pI s Y H _ I h) λv s1 ⟨x,H1,I1,r1,q1⟩=>vC pI s1 Y H1 x v Q I1 r1 q1) (he _)
theorem eP:OpR X (CB .Add) (λx y H Q=>∃ i j,x=.str i/\y=.str j/\i.length+j.length<=sizeLine/\Q (.str (i++j)) H):=by
 intro pI s Y H x y v u Q I rx ry h;obtain⟨i,j,rfl,rfl,hz,q⟩:=h;obtain⟨t,rfl⟩:=rx;obtain⟨t',rfl⟩:=ry;exact add_str (λt' tk=>⟨.str (i++j),H,I.tok _,⟨_,rfl⟩,q⟩) hz
theorem IH{x:V}(r:Bj [x] us):∃ u,us=[u]/\Ca x u:=by
 cases r with
 |cons r1 r2=>cases r2;exact⟨_,rfl,r1⟩
theorem RF{x y:V}(r:Bj [x,y] us):∃ u w',us=[u,w']/\Ca x u/\Ca y w':=by
 cases r with
 |cons r1 r2=>
  cases r2 with
  |cons r3 r4=>cases r4;exact⟨_,_,rfl,r1,r3⟩
theorem fW(hc:X.calm=Aa):Ih X (.builtin "max") (λxs H Q=>∃ i j,xs=[.int i,.int j]/\Q (.int (if j>i then j else i)) H):=by
 intro pI s Y H xs us Q I r h;obtain⟨i,j,rfl,q⟩:=h;obtain⟨u,w',rfl,⟨t,rfl⟩,⟨t',rfl⟩⟩:=RF r;refine max_two_ints (I.ok.hd hc) λh' tk k=>⟨_,H,I.kept k,?_,q⟩
 by_cases hj:j>i
 .rw[AO hj,AO hj];exact⟨_,rfl⟩
 .rw[AW hj,AW hj];exact⟨_,rfl⟩
theorem fV(hc:X.calm=Aa):Ih X (.builtin "min") (λxs H Q=>∃ i j,xs=[.int i,.int j]/\Q (.int (if j<i then j else i)) H):=by
 intro pI s Y H xs us Q I r h;obtain⟨i,j,rfl,q⟩:=h;obtain⟨u,w',rfl,⟨t,rfl⟩,⟨t',rfl⟩⟩:=RF r;refine min_two_ints (I.ok.hd hc) λh' tk k=>⟨_,H,I.kept k,?_,q⟩
 by_cases hj:j<i
 .rw[AO hj,AO hj];exact⟨_,rfl⟩
 .rw[AW hj,AW hj];exact⟨_,rfl⟩
end
structure ObjM (h:AM) (x dx C:Am) (mA:An->Aq Ai):Prop where
 obj:h.get? x=Ab (Eh C dx)
 ns:h.Ns1 dx mA
 ne:dx≠x
theorem gL(n:h.Ns1 dx mA):∃ od,h.get? dx=Ab od/\∀ name,IT name od=Ab (mA name):=by
 obtain⟨o,es,ep,ho,hd,hk,_,hm⟩:=n;refine⟨o,ho,λname=>?_⟩
 have e:=hm name;unfold nsFind findBy at e;rw[<-Array.find?_toList]at e;unfold IT;rw[hd];dsimp only;split
 .rename_i y q;rw[q]at e;exact congrArg Ab e
 .rename_i q;rw[q]at e;have a:es.toList.any (·.refKey)=Ae:=by
   rw[Xv];intro y hy;obtain⟨z,t,hkey⟩:=hk y (Xg.mp hy);simp[DictEntry.refKey,hkey]
  have a':¬ es.toList.any (·.refKey)=Aa:=by rw[a];exact AY
  rw[AW a'];exact congrArg Ab e
theorem ObjM.look{x C:Am}(I:ObjM h x dx C mA):∃ od,PySem.W.InstAt h x (Eh C dx) C (Ab od)/\∀ name,IT name od=Ab (mA name):=
 let ⟨od,ho,hl⟩:=gL I.ns
 ⟨od,⟨I.obj,rfl,rfl,ho⟩,hl⟩
section
variable{prog:AU}{w:AH}{A:Bc}{E:Vq}{s:As}{K:Fg}{x dx C f:Am}{mA:An->Aq Ai}{name:An}{v:Ai}
end
section
variable{P:AU}{w:AH}{H H':Hp}{h h':AM}{a C dx:Am}{fs fs':Ac (An×V)}
end
structure Cls (K:Fg) (C:Am):Prop where
 pg:Zs K C Str.empty=Aa
 hd:PySem.W.hasDictIn K C=Aa
 po:PySem.W.plainOver K C=Aa
 sa:C2 K (.ref C) "__setattr__" = Ab (Ab (.builtin "object.__setattr__"))
theorem Cls.get{K:Fg}{C:Am}(c:Cls K C)(f:An):Zs K C f=Aa:=c.pg
section
variable{X:Cx}{pI:Pn}{Y:St}{H:Hp}{s:As}{a C dx:Am}{fs:Ac (An×V)}{f:An}{v:V}{A:Bc}{E:Vq}
theorem Inv.made(I:Inv X pI Y H s):Inv X pI Y (upd (upd H s.heap.objs.size (.own (s.heap.objs.size+1))) (s.heap.objs.size+1) (.ins C s.heap.objs.size [])) {s with heap:=(s.heap.push Dq).push (Eh C s.heap.objs.size)}:=by
  have e1:(s.heap.push Dq).get? s.heap.objs.size=Ab Dq:=AB s.heap rfl;have e2:((s.heap.push Dq).push (Eh C s.heap.objs.size)).get? (s.heap.objs.size+1)=Ab (Eh C s.heap.objs.size):=by
    have:=AB (s.heap.push Dq) (o:=Eh C s.heap.objs.size) rfl
    rwa [Bk]at this
  have e3:(s.heap.push Dq).Ns s.heap.objs.size (λ_=>Af):=⟨Dq,#[],_,e1,rfl,(λe he=>absurd he (by simp)),λ_=>rfl⟩
  have I1:=I.laid (a:=s.heap.objs.size) (o:=.own (s.heap.objs.size+1)) (h':=s.heap.push Dq) (t':=s.toks) (λb u q=>Ar _ q) (A5 _) ⟨_,e1⟩
  refine I1.laid (a:=s.heap.objs.size+1) (o:=.ins C s.heap.objs.size []) (t':=s.toks) (λb u q=>Ar _ q) (JF (Bk _ _)) ?_
  have ne:s.heap.objs.size≠s.heap.objs.size+1:=AZ (EA _);refine⟨by rw[Dz ne,Jm],Fs _,ne,e2,λ_=>Af,(Heap.Ns1.of_empty e3).at λo q=>Ar _ q,λ_=>True.intro,λy hy=>absurd rfl hy⟩
end
section
variable{X:Cx}{o e value:Ao}{f:An}{pos pos' tpos:A6}{ta tv:TE}
end
section
variable{X:Cx}{pI:Pn}{Y:St}{H:Hp}{s:As}{A:Bc}{E:Vq}{Q:Vq}{c:Ai}{b:Ak}
end
structure Room (k:Ag) (A:Bc):Prop where
 hd:A.handled=Af
 dp:A.depth+3*k+5<ZC
 un:A.units+16*k+200<Cs
 gd:A.guards=Ab []
theorem Room.mono{j:Ag}{A:Bc}(r:Room k A)(h:j<=k):Room j A:=⟨r.hd,by have:=r.dp;omega,by have:=r.un;omega,r.gd⟩
theorem Room.deeper{A:Bc}(r:Room (k+1) A)(env:C1):Room k (A.deeper env):=
 ⟨r.hd,by have:=r.dp;show A.depth+1+3*k+5<_;omega,by have:=r.un;show A.units+3+16*k+200<_;omega,r.gd⟩
theorem Room.depth{A:Bc}(r:Room k A):A.depth<ZC:=by have:=r.dp;omega
theorem Room.units{A:Bc}(r:Room k A):A.units+64<Cs:=by have:=r.un;omega
def cQ:TA:=λ_ H Q=>Q [] H
def iq(ta:TE)(tr:TA):TA:=λY H Q=>ta Y H λx H1=>tr Y H1 λxs H2=>Q (x::xs) H2
section
variable{X:Cx}{e:Ao}{es:Ac Ao}{te:TE}{t:TA}{pos:A6}
theorem G5:PA X [] cQ:=λ_ _ _ _ H Q I h=>F1 ⟨[],H,I,.nil,h⟩
theorem Fj(ha:PE X e te)(hr:PA X es t)(hs:AI (e::es) X.env=(Ae,eval e X.env)::AI es X.env:=by rfl):PA X (e::es) (iq te t):=by
 intro pos pI s Y H Q I h;rw[hs];show AC _ _ (spliced ((Ae,eval e X.env)::CU pos (AI es X.env))) _ _ s;refine Hg (thn (ha pI s Y H _ I h) λu s1 ⟨x,H1,I1,r1,q1⟩=>?_)
 exact thn (hr pos pI s1 Y H1 _ I1 q1) λus s2 ⟨xs,H2,I2,r2,q2⟩=>⟨x::xs,H2,I2,.cons r1 r2,q2⟩
def aZ(t:TA):TE:=λY H Q=>t Y H λxs H1=>xs.length<=sizeLine/\∀ p,H1 p=Af->Q (.ref p) (upd H1 p (.tup xs))
def cR(t:TA):TE:=λY H Q=>t Y H λxs H1=>xs.length<=sizeLine/\∀ p,H1 p=Af->Q (.ref p) (upd H1 p (.lst xs))
theorem zV{x1}(h:PA X es t):PE X (.Tuple es x1 pos) (aZ t):=by
 intro pI s Y H Q I hq;refine wpAny_Tuple_spliced (thn (h pos pI s Y H _ I hq) λus s1 ⟨xs,H1,I1,r,z,q⟩=>⟨by rw[<-r.length];exact z,?_⟩)
 have hf:H1 s1.heap.objs.size=Af:=I1.hok.fresh (A5 _);refine⟨.ref s1.heap.objs.size,upd H1 s1.heap.objs.size (.tup xs),I1.laid (t':=s1.toks) (λb u e=>Ar _ e) (A5 _) ?_,rfl,q _ hf⟩
 exact⟨z,us,r,⟨_,AB _ rfl,rfl,_,rfl⟩⟩
theorem aa(h:PA X es t):PE X (.List es pos) (cR t):=by
 intro pI s Y H Q I hq;refine wpAny_List_spliced (thn (h pos pI s Y H _ I hq) λus s1 ⟨xs,H1,I1,r,z,q⟩=>⟨by rw[<-r.length];exact z,?_⟩)
 have hf:H1 s1.heap.objs.size=Af:=I1.hok.fresh (A5 _);refine⟨.ref s1.heap.objs.size,upd H1 s1.heap.objs.size (.lst xs),I1.laid (t':=s1.toks) (λb u e=>Ar _ e) (A5 _) ?_,rfl,q _ hf⟩
 exact⟨z,us,0,r,AB _ rfl⟩
end
abbrev Sp:=Ac V->Hp->VK->XK->Prop
variable{sp:Sp}
abbrev CXT:=Ac C1->Hp->As->XK->Ai->As->Prop
variable{CX:CXT}
structure Env0 (P:AU) (w:AH) (K:Fg) (mg:An->Aq Ai) (base:AM) (A:Bc) (outer:Ac C1) (s:As) (H:Hp):Prop where
 frames:A.frames=Ab outer
 mod:Mod K mg base
 bs:∀ b o,base.get? b=Ab o->s.heap.get? b=Ab o/\H b=Af
 bsz:base.objs.size<=s.heap.objs.size
 funs:s.heap.FunFrames base outer
 frf:∀ b∈frs outer,H b=Af
 hok:HOk P w H s.heap
 bare:FU s.gens
noncomputable def CE(outer:Ac C1)(P:AU)(w:AH)(H:Hp)(s:As)(Q:VK)(u:Ai)(s':As):Prop:=
 ∃ v H',s'.os=s.os/\FU s'.gens/\Un (frs outer) [] H H' s.heap s'.heap/\HOk P w H' s'.heap/\Ca v u/\Q v H'
noncomputable def CR(CX:CXT)(outer:Ac C1)(P:AU)(w:AH)(H:Hp)(s:As)(Q:VK)(E:XK)(r:JH)(s':As):Prop:=
  match r with
  |.ok (.ret u)=>CE outer P w H s Q u s'
  |.ok _=>BF
  |.error e=>CX outer H s E e s'
structure FnOk (P:AU) (w:AH) (K:Fg) (mg:An->Aq Ai) (base:AM) (CX:CXT) (k:Ag) (f:Am) (fd:CA) (ps:Ac An) (sp:Sp):Prop where
 len:∀ vs H Q E,sp vs H Q E->vs.length=ps.length
 run:∀(A:Bc)(outer:Ac C1)(s:As)(H:Hp)(args:Args)(us:Ac Ai)(vs:Ac V)(Q:VK)(E:XK),Room k A->Env0 P w K mg base A outer s H->HF s fd args (ps.zip us)->Bj vs us->sp vs H Q E ->
  Fu (model P w) A (.call (.ref f) args) (CR CX outer P w H s Q E) s
theorem FnOk.imp{w:AH}{K:Fg}{mg:An->Aq Ai}{base:AM}{f:Am}{sp':Sp}(F:FnOk P w K mg base CX k f fd ps sp)(h:∀ vs H Q E,sp' vs H Q E->sp vs H Q E):FnOk P w K mg base CX k f fd ps sp':=
 ⟨λvs H Q E q=>F.len vs H Q E (h _ _ _ _ q),λA outer s H args us vs Q E hr he hb hv hs=>F.run A outer s H args us vs Q E hr he hb hv (h _ _ _ _ hs)⟩
section
variable{X:Cx}{pI:Pn}{Y:St}{H:Hp}{s s':As}
theorem Inv.env0(I:Inv X pI Y H s):Env0 X.prog X.w X.K X.mg X.base X.A X.stack s H:=
 ⟨I.ok.frames,I.ok.mod,I.bs,Cv I.ok.bsz I.sz,I.stack,I.stkFree,I.hok,I.bare⟩
theorem Inv.after{Q:VK}(I:Inv X pI Y H s)(h:CE X.stack X.prog X.w H s Q u s'):EP X pI Y Q u s':=by
 obtain⟨v,H',os,bare,un,hok,r,q⟩:=h;obtain⟨hh,g,d,t,os'⟩:=s';obtain rfl:os'=s.os:=os;exact⟨v,H',I.call (h':=hh) (g':=g) (d':=d) (t':=t) (ch:=[]) un hok bare (λb z=>absurd z (by simp)),r,q⟩
end
def ir(sp:Sp)(dvs:Ac V)(E:XK)(t:TA):TE:=λY H Q=>t Y H λvs H1=>sp (vs++dvs) H1 Q E
noncomputable def IG(K:Fg)(fd:CA)(ps:Ac An)(ds:Ac Ai):Prop:=
 ∀(s:As)(us:Ac Ai),K.In s.heap->(us++ds).length=ps.length->HF s fd ⟨us,[]⟩ (ps.zip (us++ds))
theorem IG.all{K:Fg}(h:∀ us:Ac Ai,us.length=ps.length->L5 fd ⟨us,[]⟩=pure (ps.zip us)):IG K fd ps []:=λs us _ hl=>by
 rw[DK]at hl ⊢;exact .of_eq (h us hl)
def Lr(CX:CXT)(X:Cx)(E:XK):Prop:=∀(pI:Pn)(Y:St)(H:Hp)(s:As)(e:Ai)(s':As),Inv X pI Y H s->CX X.stack H s E e s'->X.xe e s'
section
variable{X:Cx}{CX:CXT}{k:Ag}{f C:Am}{fd:CA}{ps:Ac An}{sp:Sp}{dvs:Ac V}{ds:Ac Ai}{E:XK}{x m:An}{p pos apos:A6}{e o:Ao}{es:Ac Ao}{ta:TE}{t:TA}
theorem wL{Q:VK}(F:FnOk X.prog X.w X.K X.mg X.base CX k f fd ps sp)(hr:Room k X.A)(hb:IG X.K fd ps ds)(hd:Bj dvs ds)(hx:Lr CX X E)(I:Inv X pI Y H s)(r:Bj vs us)(h:sp (vs++dvs) H Q E):AC (model X.prog X.w) X.A (call (.ref f) us) (EP X pI Y Q) X.xe s:=by
 have r2:Bj (vs++dvs) (us++ds):=r.append hd;have hl:(us++ds).length=ps.length:=by rw[<-r2.length];exact F.len _ _ _ _ h
 refine wpAny_call (GM (F.run X.A X.stack s H ⟨us,[]⟩ (us++ds) (vs++dvs) Q E hr I.env0 (hb s us I.kIn hl) r2 h) λr s' hq=>?_)
 cases r with
 |error e=>exact hx pI Y H s e s' I hq
 |ok fl=>
  cases fl with
  |ret u=>exact I.after hq
  |next=>exact Eo hq
  |brk=>exact Eo hq
  |cont=>exact Eo hq
theorem U_9(F:FnOk X.prog X.w X.K X.mg X.base CX k f fd ps sp)(hr:Room k X.A)(hg:Gl X x)(hm:X.mg x=Ab (.ref f))(hk:DG X.K (.ref f)=Aa)(hb:IG X.K fd ps ds)(hd:Bj dvs ds)(hx:Lr CX X E)(ha:PA X (e::es) t)(hdb:(x==("__debug__" : An))=Ae:=by decide)(he:AI (e::es) X.env=(Ae,eval e X.env)::AI es X.env:=by rfl)(hpl:(CU pos (AI es X.env)).any (·.1)=Ae:=by rfl):PE X (.Call (.Name x p) (e::es) [] pos) (ir sp dvs E t):=by
 intro pI s Y H Q I h;refine Hi (rY I hg hm ?_ hdb);refine PySem.W.callWith_K (h₀:=X.base) I.ok.mod.kin hk (thn (ha pos pI s Y H _ I h) λus s1 ⟨vs,H1,I1,r,q⟩=>⟨I1.kIn,?_⟩) he hpl
 exact wL F hr hb hd hx I1 r q
end
section
variable{X:Cx}{CX:CXT}{k:Ag}{f C:Am}{fd:CA}{ps ks:Ac An}{sp:Sp}{E:XK}{x m:An}{p pos apos kpos:A6}{e o:Ao}{es:Ac Ao}{kws:Ac Eg}{te ta:TE}{t tk:TA}{nm:Aq An}
variable{g:Ac Ai->Ac Ai->Ac Ai}{gV:Ac V->Ac V->Ac V}
end
structure FnScope (N P:Ac An) (sc:Cz):Prop where
 kind:sc.kind=.function
 co:sc.isCoroutine=Ae
 gen:sc.isGenerator=Ae
 nd:N.Nodup
 pre:N.take P.length=P
 par:∀ x∈P,sc.names.lookup x=Ab .local\/sc.names.lookup x=Ab .cell
 nofree:∀ y∈sc.names,y.2≠.free
theorem Uo{kindOf:An->Aq ED}{x:An}:∀{binds:Ac (An×Ai)}{m:An->Aq Ai},(∀ v,(x,v)∉binds)->Je kindOf binds m x=m x
 |[],_,_=>rfl
 |(n,v)::r,m,h=>by
  unfold Je;rw[Uo λw hw=>h w (At _ hw)]
  split
  .have:x≠n:=by rintro rfl;exact h v Ax
   simp[this]
  .rfl
theorem Uq{kindOf:An->Aq ED}{x:An}:∀{binds:Ac (An×Ai)}{m:An->Aq Ai},(∀ v,(x,v)∉binds)->Jd kindOf binds m x=m x
 |[],_,_=>rfl
 |(n,v)::r,m,h=>by
  unfold Jd;rw[Uq λw hw=>h w (At _ hw)]
  split
  .rfl
  .have:x≠n:=by rintro rfl;exact h v Ax
   simp[this]
theorem Up{kindOf:An->Aq ED}{x:An}{v:Ai}:∀{P:Ac An}{vs:Ac Ai}{i:Ag}{m:An->Aq Ai},P.Nodup->P[i]?=Ab x->vs[i]?=Ab v->kindOf x=Ab .local->Je kindOf (P.zip vs) m x=Ab v
 |[],_,_,_,_,h,_,_=>by simp at h
 |_::_,[],_,_,_,_,h,_=>by simp at h
 |p::P,w::vs,0,m,nd,h1,h2,hk=>by
  simp at h1 h2;subst h1;subst h2;show Je kindOf ((p,w)::P.zip vs) m p=_;unfold Je;rw[Uo λv hv=>(BM.mp nd).1 (Iq hv).1,AO hk]
  simp
 |p::P,w::vs,i+1,m,nd,h1,h2,hk=>by
  show Je kindOf ((p,w)::P.zip vs) m x=_;unfold Je;exact Up (i:=i) (BM.mp nd).2 (by simpa using h1) (by simpa using h2) hk
theorem Ur{kindOf:An->Aq ED}{x:An}{v:Ai}:∀{P:Ac An}{vs:Ac Ai}{i:Ag}{m:An->Aq Ai},P.Nodup->P[i]?=Ab x->vs[i]?=Ab v->kindOf x≠Ab .local->Jd kindOf (P.zip vs) m x=Ab v
 |[],_,_,_,_,h,_,_=>by simp at h
 |_::_,[],_,_,_,_,h,_=>by simp at h
 |p::P,w::vs,0,m,nd,h1,h2,hk=>by
  simp at h1 h2;subst h1;subst h2;show Jd kindOf ((p,w)::P.zip vs) m p=_;unfold Jd;rw[Uq λv hv=>(BM.mp nd).1 (Iq hv).1,AW hk]
  simp
 |p::P,w::vs,i+1,m,nd,h1,h2,hk=>by
  show Jd kindOf ((p,w)::P.zip vs) m x=_;unfold Jd;exact Ur (i:=i) (BM.mp nd).2 (by simpa using h1) (by simpa using h2) hk
noncomputable def start(N:Ac An)(vs:Ac V):St:=vs.map Ab++G3 (N.length-vs.length) Af
noncomputable def G7(CX:CXT)(P:AU)(w:AH)(K:Fg)(mg:An->Aq Ai)(base:AM)(N:Ac An)(qual:An)(scope:Cz)(f:Am)(cd:Ai)(A:Bc)(outer:Ac C1)(s:As)(H:Hp)(E:XK):Cx where
 prog:=P
 w:=w
 K:=K
 mg:=mg
 base:=base
 A:=A.deeper (Fp qual scope s.heap.objs.size f cd)
 N:=N
 s₀:=s
 H₀:=H
 env:=Fp qual scope s.heap.objs.size f cd
 outer:=outer
 stack:=Fp qual scope s.heap.objs.size f cd::outer
 ex:=[]
 calm:=Aa
 fn:=λ_=>Aa
 pn:=[]
 xe:=λe s'=>AC (model P w) (A.deeper (Fp qual scope s.heap.objs.size f cd)) (leaving (Fp qual scope s.heap.objs.size f cd) e) (λ_ s''=>CX outer H s E e s'') (λe' s''=>CX outer H s E e' s'') s'
theorem UG{sc:Cz}(h:sc.names.lookup x=Ab .cell):∃ c,(DH n sc.names []).lookup x=Ab c:=by
 have q:=Zp sc.names n [] (.inl h);exact Option.isSome_iff_exists.mp q
theorem gN{w:AH}{K:Fg}{mg:An->Aq Ai}{base:AM}{N ps:Ac An}{f:Am}{cd:Ai}{A:Bc}{outer:Ac C1}{s1:As}{E:XK}(S:FnScope N ps scope)(hd:A.handled=Af)(e0:Env0 P w K mg base A outer s H)(hl:vs.length=ps.length)(r:Bj vs us)(x:InCallC s s.heap.objs.size (Je (Fp qual scope s.heap.objs.size f cd).kindOf (ps.zip us) λ_=>Af) (DH (s.heap.objs.size+1) scope.names []) (Jd (Fp qual scope s.heap.objs.size f cd).kindOf (ps.zip us) λ_=>Af) s1):Inv (G7 CX P w K mg base N qual scope f cd A outer s H E) [] (start N vs) H s1:=by
 have hpl:ps.length<=N.length:=by have:=congrArg XG S.pre;rw[Ez]at this;omega
 obtain⟨h1,tk,rfl,hk⟩:=x.done;have noA:∀ b:Am,b∉(G7 CX P w K mg base N qual scope f cd A outer s H E).ex:=λb z=>absurd (show b∈([]:Ac Am) from z) (by simp)
 refine⟨⟨e0.mod,S.kind,rfl,rfl,A5 _,λy z c h1 h2=>?_,λy hy=>?_,λy c _ h=>?_,λ_=>hd,Around.frames_deeper e0.frames,.inr ⟨rfl,rfl⟩,λb z=>absurd z (noA b),e0.bs,e0.bsz,λb _ _=>noA b,λb z=>absurd z (noA b),e0.funs,e0.frf⟩,
  rfl,e0.bare,Un.kept hk,⟨_,x.toInCall.ns,λi y v h1 h2 h3=>?_⟩,λy c h=>⟨_,x.cell y c h⟩,e0.hok.fresh (A5 _),λy c h=>?_,λp hp=>absurd (show p∈([]:Pn) from hp) (by simp),e0.hok.kept hk,?_⟩
 .exact name_of_addr x.apart (C5 h1) (C5 h2)
 .have hy:scope.names.lookup y=Ab .cell\/scope.names.lookup y=Ab .free:=hy;rcases hy with hy|hy
  .exact UG hy
  .exact absurd rfl (S.nofree _ (C5 hy))
 .exact E5 (x.above y c (C5 h))
 .have hi:i<vs.length:=by
   unfold start at h2;by_cases hi:i<vs.length
   .exact hi
   .rw[XD (by simpa using hi)]at h2
    rw[XF]at h2;split at h2<;>cases h2
  have ha:vs[i]?=Ab v:=by
   unfold start at h2;rw[FH (by simpa using hi),DS]at h2
   cases e:vs[i]? with
   |none=>rw[e]at h2;cases h2
   |some a=>rw[e]at h2;cases h2;rfl
  obtain⟨u,hu,rv⟩:=r.get ha;have hp:ps[i]?=Ab y:=by
   rw[<-S.pre,List.getElem?_take_of_lt (by omega)];exact h1
  have ndP:ps.Nodup:=by rw[<-S.pre];exact S.nd.sublist (Hz _ _)
  refine⟨u,rv,?_⟩;rcases S.par y (DM hp) with k|k
  .exact .inl ⟨k,Up ndP hp hu k⟩
  .obtain⟨c,e⟩:=UG (n:=s.heap.objs.size+1) k;refine .inr ⟨.inl k,c,e,?_⟩;have q:=x.cell y c e;rw[Ur ndP hp hu (by show scope.names.lookup y≠_;rw[k];decide)]at q
   exact q
 .exact e0.hok.fresh (E5 (x.above y c (C5 h)))
 .unfold start;show _=N.length;rw[BU,AV,XI];omega
theorem W8{w:AH}{K:Fg}{mg:An->Aq Ai}{base:AM}{f:Am}{name:An}{params:Arguments}{dV kV doc pm cdv ct oc:Ai}{an od:Aq Am}{osl:A1 (Aq Ai)}{N ps:Ac An}(lk:K.lookup f=Ab ⟨oc,od,.func (D8 name qual params body scope dV kV doc pm an cdv ct),osl⟩)(hcd:FV K cdv qual=Aa)(S:FnScope N ps scope)(len:∀ vs H Q E,sp vs H Q E->vs.length=ps.length)(hbody:∀(A:Bc)(outer:Ac C1)(s:As)(H:Hp)(vs:Ac V)(Q:VK)(E:XK),Room k (A.deeper (Fp qual scope s.heap.objs.size f cdv))->sp vs H Q E ->
   ∃ t,PSs (G7 CX P w K mg base N qual scope f cdv A outer s H E) body t/\t {nx:=λ_ H'=>Q .non H',rt:=Q} (start N vs) H):FnOk P w K mg base CX (k+1) f (D8 name qual params body scope dV kV doc pm an cdv ct) ps sp:=by
 refine⟨len,λA outer s H args us vs Q E hr e0 hb r hsp=>?_⟩
 have hl:=len _ _ _ _ hsp;have KX:K.In s.heap:=e0.mod.kin.keeps λb o e=>(e0.bs b o e).1
 have lim:s.heap.NoLimit:=e0.mod.nolimit.keeps λb o e=>(e0.bs b o e).1
 have hkind:∀ y∈ps.zip us,scope.names.lookup y.1=Ab .local\/(scope.names.lookup y.1=Ab .cell/\((DH (s.heap.objs.size+1) scope.names []).lookup y.1).isSome=Aa):=λ⟨n,v⟩ hy=>by
  rcases S.par n (Iq hy).1 with q|q
  .exact .inl q
  .exact .inr ⟨q,Zp _ _ _ (.inl q)⟩
 refine codeAny_call_function hr.depth (KX _ _ lk) rfl S.co S.gen rfl (PySem.W.codeRec_of KX hcd) (hb _ _ _ _ ?_);refine wpAny_newFunctionEnv_cells S.kind hkind λenv he s1 x=>?_
 subst he;refine⟨lim.keeps x.toInCall.keep,codeAny_func ?_⟩;obtain⟨t,ht,hq⟩:=hbody A outer s H vs Q E (hr.deeper _) hsp;have I:Inv (G7 CX P w K mg base N qual scope f cdv A outer s H E) [] (start N vs) H s1:=gN S hr.hd e0 hl r x;refine CY (ht [] s1 (start N vs) H _ I hq) (λfl s' hs=>?_) λe s' hs=>hs
 have fin:∀{Y':St}{H':Hp}{v:V}{u:Ai},Inv (G7 CX P w K mg base N qual scope f cdv A outer s H E) [] Y' H' s'->Ca v u->Q v H'->CE outer P w H s Q u s':=
  λ{Y' H' v u} J rv q=>⟨v,H',J.os,J.bare,J.base,J.hok,rv,q⟩
 cases fl with
 |ret u=>
  obtain⟨v,Y',H',J,rv,q⟩:=hs;exact fin J rv q
 |next=>
  obtain⟨Y',H',J,q⟩:=hs;exact fin (v:=V.non) (u:=Da) J rfl q
 |brk=>
  obtain⟨_,_,_,q⟩:=hs;exact Eo q
 |cont=>
  obtain⟨_,_,_,q⟩:=hs;exact Eo q
section
variable{X:Cx}{x:An}{p pos:A6}{e:Ao}{es:Ac Ao}{t:TA}{id T:Dy}{r:Ac V->Hp->VK->Prop}
def tCB(r:Ac V->Hp->VK->Prop)(t:TA):TE:=λY H Q=>t Y H λvs H1=>r vs H1 Q
theorem UP(hc:Ih X (.builtin id) r)(hg:Gl X x)(hm:X.mg x=Af)(hv:Dx x=Ab (.builtin id))(ha:PA X (e::es) t)(hn:x≠"__name__" := by decide)(hdb:(x==("__debug__" : An))=Ae:=by decide)(he:AI (e::es) X.env=(Ae,eval e X.env)::AI es X.env:=by rfl)(hpl:(CU pos (AI es X.env)).any (·.1)=Ae:=by rfl):PE X (.Call (.Name x p) (e::es) [] pos) (tCB r t):=by
 intro pI s Y H Q I h;refine Hi (HY I hg hm hv ?_ hn hdb);exact X9 (thn (ha pos pI s Y H _ I h) λus s1 ⟨vs,H1,I1,r1,q1⟩=>hc pI s1 Y H1 vs us Q I1 r1 q1) he hpl
theorem TU(hc:Ih X (.type T) r)(hg:Gl X x)(hm:X.mg x=Af)(hv:Dx x=Ab (.type T))(ha:PA X (e::es) t)(hn:x≠"__name__" := by decide)(hdb:(x==("__debug__" : An))=Ae:=by decide)(he:AI (e::es) X.env=(Ae,eval e X.env)::AI es X.env:=by rfl)(hpl:(CU pos (AI es X.env)).any (·.1)=Ae:=by rfl):PE X (.Call (.Name x p) (e::es) [] pos) (tCB r t):=by
 intro pI s Y H Q I h;refine Hi (HY I hg hm hv ?_ hn hdb);exact Ce (thn (ha pos pI s Y H _ I h) λus s1 ⟨vs,H1,I1,r1,q1⟩=>hc pI s1 Y H1 vs us Q I1 r1 q1) he hpl
end
end L2
namespace HT
open PySem PyProof.Rows
variable{sl:Am}
section
open PySem.SeqAt
open PySem.AutoSeq1 (wpAny_loadPart')
open PySem.MeetsSeq PySem.MeetsSeq2 PySem.MeetsSeq3
end
section
variable{prog:AU}{w:AH}{A:Bc}{E:Vq}{s:As}
theorem cat_tup{t b:Am}{vs ws:Ac Ai}{Q:Vq}(ht:J5 s.heap t vs.toArray)(hb:J5 s.heap b ws.toArray)(hv:vs≠[])(h1:ws=[]->Q (.ref t) s)(h2:ws≠[]->Q (.ref s.heap.objs.size) { s with heap:=s.heap.push { cls:=.type "tuple",data:=.seq (vs++ws).toArray } })(hsz:vs.length+ws.length<=sizeLine):AC (model prog w) A (CB .Add (.ref t) (.ref b)) Q E s:=by
 obtain⟨⟨cls,dd,data,sl⟩,ho,hc,n,hd⟩:=id ht;obtain⟨⟨cls2,dd2,data2,sl2⟩,ho2,hc2,n2,hd2⟩:=id hb;simp only at hc hd hc2 hd2;subst hc hd hc2 hd2;have e:vs.toArray++ws.toArray=(vs++ws).toArray:=by simp
 by_cases hw:ws=[]
 .exact JL ⟨_,ho,rfl⟩ ⟨_,ho2,rfl⟩ ZB seq_tuple_add YZ YU (YO _ _)
   (tuple_addW1 t b vs.toArray ws.toArray n n2 dd dd2 sl sl2 (by simpa using hv) (by simp[hw])) ⟨ho,ho2,h1 hw⟩
 .refine JL ⟨_,ho,rfl⟩ ⟨_,ho2,rfl⟩ ZB seq_tuple_add YZ YU (YO _ _)
   (tuple_addW2 t b vs.toArray ws.toArray n n2 dd dd2 sl sl2 (by simpa using hv) (by simpa using hw) (by rw[AD,AD];exact hsz)) ⟨ho,ho2,?_⟩
  rw[e];exact h2 hw
noncomputable def sIx(n d:Ag):Aq Ad->Ag
 |none=>d
 |some v=>if v<0 then (v+(n:Ad)).toNat else min v.toNat n
theorem wE(n d:Ag)(hd:d<=n)(o:Aq Ad):sIx n d o<=n:=by
 cases o with
 |none=>exact hd
 |some v=>
  show (if v<0 then (v+(n:Ad)).toNat else min v.toNat n)<=n
  by_cases hv:v<0
  .rw[AO hv];omega
  .rw[AW hv];exact Nat.min_le_right _ _
theorem Vn(v:Ad)(n d:Ag):(if v<0 then max (v+(n:Ad)) 0 else min v (n:Ad))=((sIx n d (Ab v):Ag):Ad):=by
 show (if v<0 then max (v+(n:Ad)) 0 else min v (n:Ad))=(((if v<0 then (v+(n:Ad)).toNat else min v.toNat n):Ag):Ad)
 by_cases hv:v<0
 .simp only[AO hv];omega
 .simp only[AW hv];omega
theorem fM(lo hi:Aq Ad)(n:Ag):FJ lo hi 1 (n:Ad)=(((sIx n 0 lo:Ag):Ad),((sIx n n hi:Ag):Ad)):=by
 have h1:¬ ((1:Ad)<0):=by omega
 unfold FJ;simp only[h1,Ha];refine Bp ?_ ?_
 .cases lo with
  |none=>rfl
  |some v=>exact Vn v n 0
 .cases hi with
  |none=>rfl
  |some v=>exact Vn v n n
theorem eO(i j:Ag):Eu (i:Ad) (j:Ad) 1=j-i:=by
 unfold Eu;have h1:(1:Ad)>0:=by omega
 simp only[h1,IY,Int.ediv_one];split<;>omega
theorem Th{v:Ai}{o:Aq Ad}{Q:Aq Ad->As->Prop}(p:HN v o)(h:Q o s):AC (model prog w) A (Builtin.Slice.slicePartIndex v) Q E s:=by
 cases p with
 |none=>exact Yb h
 |int i t=>exact slicePart_int h
theorem dI{vl vu:Ai}{lo hi:Aq Ad}{n:Ag}{Q:Ad×Ad×Ag->As->Prop}(hs:s.heap.IsSliceOf sl vl vu .none)(pl:HN vl lo)(pu:HN vu hi)(h:Q (((sIx n 0 lo:Ag):Ad),1,sIx n n hi-sIx n 0 lo) s):AC (model prog w) A (Yj (.ref sl) (pure (n:Ad))) Q E s:=by
 obtain⟨os,hos,hcs,hds⟩:=id hs;unfold Yj Builtin.Slice.sliceFields;refine Ah (Ah (Bl hos hds (x:=vl) rfl (Ah (Bl hos hds (x:=vu) rfl (Ah (Bl hos hds (x:=.none) rfl (Aw ?_)))))));refine Ah (Yb ?_);show AC _ _ (if ((1:Ad)==0)=Aa then _ else _) _ _ s
 rw[AW (by decide)]
 refine Ah (Th pl (Ah (Th pu (Ah (Aw ?_)))));show AC _ _ (match FJ lo hi 1 (n:Ad) with|(lo,hi)=>pure (lo,(1:Ad),Eu lo hi 1)) _ _ s
 rw[fM lo hi n];show AC _ _ (pure (((sIx n 0 lo:Ag):Ad),(1:Ad),Eu ((sIx n 0 lo:Ag):Ad) ((sIx n n hi:Ag):Ad) 1)) _ _ s;rw[eO];exact Aw h
theorem kB(xs:A1 Ai)(i k:Ag):((AT k).filterMap fun(m:Ag)=>xs[((i:Ad)+(m:Ad)*1).toNat]?).toArray=((xs.toList.drop i).take k).toArray:=by
 have e:(fun(m:Ag)=>xs[((i:Ad)+(m:Ad)*1).toNat]?)=λm=>xs[i+m]?:=by
  funext m
  have:((i:Ad)+(m:Ad)*1).toNat=i+m:=by omega
  rw[this]
 rw[e];have:=pick_run xs i k;rw[List.filterMap_map]at this;have e2:((λx=>xs[x]?) ∘ λx=>i+x)=λm=>xs[i+m]?:=rfl
 rw[e2]at this;rw[this]
theorem getItem_tuple_cut{t:Am}{items:A1 Ai}{vl vu:Ai}{lo hi:Aq Ad}{Q:Vq}(ht:J5 s.heap t items)(hs:s.heap.IsSliceOf sl vl vu .none)(pl:HN vl lo)(pu:HN vu hi)(hw:¬ (sIx items.size 0 lo=0/\sIx items.size items.size hi=items.size))(h:Q (.ref s.heap.objs.size) { s with heap:=s.heap.push { cls:=.type "tuple",data:=.seq ((items.toList.drop (sIx items.size 0 lo)).take (sIx items.size items.size hi-sIx items.size 0 lo)).toArray } })(hsz:items.size<=sizeLine):AC (model prog w) A (J8 (.ref t) (.ref sl)) Q E s:=by
 have htake:sizeOk (.seq ((items.toList.drop (sIx items.size 0 lo)).take (sIx items.size items.size hi-sIx items.size 0 lo)).toArray):=by
  show ((items.toList.drop (sIx items.size 0 lo)).take (sIx items.size items.size hi-sIx items.size 0 lo)).toArray.size<=sizeLine;rw[AD,Ez,Fe,EH];omega
 have hj:sIx items.size items.size hi<=items.size:=wE _ _ (A5 _) hi;obtain⟨os,hos,hcs,hds⟩:=id hs;have hTs:s.TypeIs (.ref sl) "slice" := ⟨os,hos,hcs⟩;unfold J8
 try with_reducible refine Cc ?_
 first|refine Ah (Aw ?_)|skip
 refine Ah (wpAny_sequenceKey ht.typeIs (by decide) ?_)
 refine Ah (Cm (name:=Az "__getitem__") ht.typeIs Yc
  (CW Yc ht.typeIs entry_tuple_getitem ?_ (args_tuple_getitem _ _)))
 show AC _ _ (Builtin.Tuple.tupleItemsOf (.ref t) >>= _) _ _ s;refine Ah (tupleItemsOf_ ht ?_);refine Ah (wpAny_typeOf hTs ?_);rw[AO (by decide)]
 refine Ah (dI hs pl pu ?_);have hno:¬ ((((sIx items.size 0 lo:Ag):Ad)==0&&(1:Ad)==1&&(sIx items.size items.size hi-sIx items.size 0 lo)==items.size)=Aa):=by
  intro q;rw[Ap,Ap]at q;have q1:((sIx items.size 0 lo:Ag):Ad)=0:=eq_of_beq q.1.1;have q2:sIx items.size items.size hi-sIx items.size 0 lo=items.size:=eq_of_beq q.2;exact hw ⟨by omega,by omega⟩
 show AC _ _ (if (((sIx items.size 0 lo:Ag):Ad)==0&&(1:Ad)==1&&(sIx items.size items.size hi-sIx items.size 0 lo)==items.size)=Aa then _ else _) _ _ s
 rw[AW hno,kB]
 first
  |exact Ah (m:=Dh _) (CO (Aw ⟨_,rfl,Aw h⟩) htake)
  |exact Ah (m:=Dh _) (CO (Ah (Aw (Aw ⟨_,rfl,Aw h⟩))) htake)
  |exact Ah (Ah (m:=Dh _) (CO (Aw (Aw ⟨_,rfl,Aw h⟩)) htake))
  |exact Ah (Ah (m:=Dh _) (CO (Aw ⟨_,rfl,Aw h⟩) htake))
end
end HT
namespace L2
open PySem PySem.Spec PyProof.Rows
variable{r:V->Aq Ad->Aq Ad->Hp->VK->Prop}{xs:Ac V}{us its its':Ac Ai}{n t':Ag}{i:Ad}{pI:Pn}{Y:St}{H:Hp}{s:As}{p:Am}
abbrev TO:=St->Hp->(Aq Ad->Hp->Prop)->Prop
noncomputable def PO(X:Cx)(e:Aq Ao)(t:TO):Prop:=
 ∀(pI:Pn)(s:As)(Y:St)(H:Hp)(Q:Aq Ad->Hp->Prop),Inv X pI Y H s->t Y H Q ->
  AC (model X.prog X.w) X.A (evalPart e X.env) (λu s'=>∃ o H',Inv X pI Y H' s'/\HN u o/\Q o H') X.xe s
def nN:TO:=λ_ H Q=>Q Af H
def dw(t:TE):TO:=λY H Q=>t Y H λx H1=>∃ i,x=.int i/\Q (Ab i) H1
section
variable{X:Cx}{e:Ao}{te:TE}{lo hi:Aq Ao}{tl th:TO}{pos p2:A6}
theorem oD:PO X Af nN:=by
 intro pI s Y H Q I h;rw[evalPart_none];exact Aw ⟨Af,H,I,.none,h⟩
theorem oC(h:PE X e te):PO X (Ab e) (dw te):=by
 intro pI s Y H Q I hw;rw[evalPart_some];refine thn (h pI s Y H _ I hw) λu s1 ⟨x,H1,I1,r1,q1⟩=>?_
 obtain⟨i,rfl,q⟩:=q1;obtain⟨t,rfl⟩:=r1;exact⟨Ab i,H1,I1,.int i t,q⟩
noncomputable def SlR(X:Cx)(r:V->Aq Ad->Aq Ad->Hp->VK->Prop):Prop:=
 ∀(pI:Pn)(s:As)(Y:St)(H:Hp)(x:V)(v vl vu:Ai)(lo hi:Aq Ad)(sl:Am)(Q:VK),Inv X pI Y H s->Ca x v->s.heap.IsSliceOf sl vl vu .none->HN vl lo->HN vu hi->r x lo hi H Q ->
  ∃ T id,KQ (.type T) "__getitem__" = pure (Ab (.builtin id))/\s.TypeIs v T/\AC (model X.prog X.w) X.A (J8 v (.ref sl)) (EP X pI Y Q) X.xe s
theorem SlR.or{r':V->Aq Ad->Aq Ad->Hp->VK->Prop}(h:SlR X r)(h':SlR X r'):SlR X (λx lo hi H Q=>r x lo hi H Q\/r' x lo hi H Q):=by
 intro pI s Y H x v vl vu lo hi sl Q I rx hs pl pu q;rcases q with q|q
 .exact h pI s Y H x v vl vu lo hi sl Q I rx hs pl pu q
 .exact h' pI s Y H x v vl vu lo hi sl Q I rx hs pl pu q
def tSl(r:V->Aq Ad->Aq Ad->Hp->VK->Prop)(te:TE)(tl th:TO):TE:=λY H Q=>te Y H λx H1=>tl Y H1 λl H2=>th Y H2 λu H3=>r x l u H3 Q
theorem kC(hr:SlR X r)(he:PE X e te)(hl:PO X lo tl)(hu:PO X hi th):PE X (.Subscript e (.Slice lo hi Af p2) pos) (tSl r te tl th):=by
 intro pI s Y H Q I h;refine Subscript_ (thn (he pI s Y H _ I h) λv s1 ⟨x,H1,I1,r1,q1⟩=>?_)
 refine wpAny_Slice (thn (hl pI s1 Y H1 _ I1 q1) λvl s2 ⟨l,H2,I2,pl,q2⟩=>thn (hu pI s2 Y H2 _ I2 q2) λvu s3 ⟨u,H3,I3,pu,q3⟩=>?_)
 rw[evalPart_none];refine Aw ?_;have I4:Inv X pI Y H3 { s3 with heap:=s3.heap.push { cls:=.type "slice",data:=.fields #[vl,vu,.none] } }:=I3.kept (t':=s3.toks) λb ob q=>Ar _ q
 obtain⟨T,id,hT,ht,hg⟩:=hr pI { s3 with heap:=s3.heap.push { cls:=.type "slice",data:=.fields #[vl,vu,.none] } } Y H3 x v vl vu l u s3.heap.objs.size Q I4 r1 (Heap.IsSliceOf.new ..) pl pu q3
 show AC (model X.prog X.w) X.A (subscriptTail e (.Slice lo hi Af p2) v (.ref s3.heap.objs.size)) (EP X pI Y Q) X.xe { s3 with heap:=s3.heap.push { cls:=.type "slice",data:=.fields #[vl,vu,.none] } }
 exact tail_any (ops:=[.ref s3.heap.objs.size,v]) ht hT hg (by with_unfolding_all rfl)
noncomputable def J3(xs:Ac V)(lo hi:Aq Ad):Ac V:=(xs.drop (HT.sIx xs.length 0 lo)).take (HT.sIx xs.length xs.length hi-HT.sIx xs.length 0 lo)
theorem Tu(xs:Ac V)(lo hi:Aq Ad):(J3 xs lo hi).length<=xs.length:=by
 unfold J3;rw[Ez,Fe];omega
def SN(K:Fg):V->Aq Ad->Aq Ad->Hp->VK->Prop:=λx lo hi H Q=>∃ a xs,x=.ref a/\SqT K H a xs /\
 ¬ (HT.sIx xs.length 0 lo=0/\HT.sIx xs.length xs.length hi=xs.length)/\∀ p,H p=Af->Q (.ref p) (upd H p (.tup (J3 xs lo hi)))
theorem xC:SlR X (SN X.K):=by
 intro pI s Y H x v vl vu lo hi sl Q I rx hs pl pu h;obtain⟨a,xs,rfl,hx,hw,q⟩:=h;cases rx;obtain⟨its,r,ht,hz⟩:=I.tuple hx;have hlen:its.toArray.size=xs.length:=by rw[AD];exact r.length.symm
 refine⟨"tuple",_,PyProof.Rows.slot_tuple_getitem.lookup,ht.typeIs,?_⟩;refine HT.getItem_tuple_cut ht hs pl pu (by rw[hlen];exact hw) ?_ (by rw[hlen];exact hz)
 rw[hlen];refine⟨.ref s.heap.objs.size,_,I.laid (t':=s.toks) (o:=.tup (J3 xs lo hi)) (λb ob q=>Ar _ q) (A5 _) ?_,rfl,q _ (I.hok.fresh (A5 _))⟩
 exact⟨Cv (Tu xs lo hi) hz,_,(r.drop (HT.sIx xs.length 0 lo)).take (HT.sIx xs.length xs.length hi-HT.sIx xs.length 0 lo),JG _ _⟩
def jr(K:Fg):R2:=λx y H Q=>∃ a b xs ys,x=.ref a/\y=.ref b/\SqT K H a xs/\SqT K H b ys/\xs≠[]/\xs.length+ys.length<=sizeLine /\
 (ys=[]->Q (.ref a) H)/\(ys≠[]->∀ p,H p=Af->Q (.ref p) (upd H p (.tup (xs++ys))))
theorem Bj.nil_iff(r:Bj xs us):us=[]↔xs=[]:=by
 cases r with
 |nil=>simp
 |cons _ _=>simp
theorem pA:OpR X (CB .Add) (jr X.K):=by
 intro pI s Y H x y v u Q I rx ry h;obtain⟨a,b,xs,ys,rfl,rfl,ha,hb,hx,hz,q1,q2⟩:=h;cases rx;cases ry;obtain⟨its,r1,p1,_⟩:=I.tuple ha;obtain⟨its2,r2,p2,_⟩:=I.tuple hb;refine HT.cat_tup p1 p2 (λz=>hx (r1.nil_iff.mp z)) (λz=>⟨.ref a,H,I,rfl,q1 (r2.nil_iff.mp z)⟩) (λz=>?_) (by rw[<-r1.length,<-r2.length];exact hz)
 refine⟨.ref s.heap.objs.size,_,I.laid (t':=s.toks) (o:=.tup (xs++ys)) (λb ob q=>Ar _ q) (A5 _) ?_,rfl,q2 (λw=>z (r2.nil_iff.mpr w)) _ (I.hok.fresh (A5 _))⟩
 exact⟨by rw[BU];exact hz,_,r1.append r2,JG _ _⟩
end
noncomputable def ixN(n:Ag)(i:Ad):Aq Ag:=if 0<=i then (if i<n then Ab i.toNat else Af) else if -(n:Ad)<=i then Ab (i+n).toNat else Af
noncomputable def atI{α:Type}(xs:Ac α)(i:Ad):Aq α:=(ixN xs.length i).bind λj=>xs[j]?
theorem VM{j:Ag}(h:ixN n i=Ab j):seqIndex? i n=Ab j/\j<n/\-(n:Ad)<=i/\i<n:=by
 unfold ixN at h;by_cases h0:0<=i
 .rw[AO h0]at h;by_cases h1:i<n
  .rw[AO h1]at h;have e:i.toNat=j:=BJ h;exact⟨by rw[Kd h0 h1,e],by omega,by omega,h1⟩
  .rw[AW h1]at h;cases h
 .rw[AW h0]at h;by_cases h1:-(n:Ad)<=i
  .rw[AO h1]at h;have e:(i+n).toNat=j:=BJ h;exact⟨by rw[JQ (by omega) h1,e],by omega,h1,by omega⟩
  .rw[AW h1]at h;cases h
theorem VQ{α:Type}{xs:Ac α}{v:α}(h:atI xs i=Ab v):∃ j,seqIndex? i xs.length=Ab j/\xs[j]?=Ab v/\j<xs.length/\-(xs.length:Ad)<=i/\i<xs.length:=by
 unfold atI at h;cases e:ixN xs.length i with
 |none=>rw[e]at h;cases h
 |some j=>
  rw[e]at h;obtain⟨h1,h2,h3,h4⟩:=VM e;exact⟨j,h1,h,h2,h3,h4⟩
def QY(b:Ao):Prop:=∀ o i,subscripted b Ae o i=operate [o,i] (J8 o i)
noncomputable def IxR(X:Cx)(r:R2):Prop:=
 ∀(value slice:Ao)(pI:Pn)(s:As)(Y:St)(H:Hp)(x y:V)(v u:Ai)(Q:VK),Inv X pI Y H s->Ca x v->Ca y u->r x y H Q ->
  subscripted slice Ae v u=operate [v,u] (J8 v u)->AC (model X.prog X.w) X.A (subscriptTail value slice v u) (EP X pI Y Q) X.xe s
noncomputable def MtR(X:Cx)(id:Dy)(r:V->Ac V->Hp->VK->Prop):Prop:=
 ∀(pI:Pn)(s:As)(Y:St)(H:Hp)(x:V)(xs:Ac V)(v:Ai)(us:Ac Ai)(Q:VK),Inv X pI Y H s->Ca x v->Bj xs us->r x xs H Q ->
  AC (model X.prog X.w) X.A (call (.builtin id) (v::us)) (EP X pI Y Q) X.xe s
section
variable{X:Cx}{a b:Ao}{ta tb:TE}{pos:A6}
theorem IxR.or{r r':R2}(h:IxR X r)(h':IxR X r'):IxR X (λx y H Q=>r x y H Q\/r' x y H Q):=by
 intro value slice pI s Y H x y v u Q I rx ry q hs;rcases q with q|q
 .exact h value slice pI s Y H x y v u Q I rx ry q hs
 .exact h' value slice pI s Y H x y v u Q I rx ry q hs
theorem k4{r:R2}(hr:IxR X r)(ha:PE X a ta)(hb:PE X b tb)(hs:QY b):PE X (.Subscript a b pos) (tOp r ta tb):=by
 intro pI s Y H Q I h;exact Subscript_ (Pa ha hb I h λv u s2 x y H2 I2 rx ry q=>hr a b pI s2 Y H2 x y v u Q I2 rx ry q (hs _ _))
def SU(K:Fg):R2:=λx y H Q=>∃ p xs i v,x=.ref p/\y=.int i/\SqL K H p xs/\atI xs i=Ab v/\Q v H
def SR(K:Fg):R2:=λx y H Q=>∃ p xs i v,x=.ref p/\y=.int i/\SqT K H p xs/\atI xs i=Ab v/\Q v H
theorem qM:IxR X (SU X.K):=by
 intro value slice pI s Y H x y v u Q I rx ry h hs;obtain⟨p,xs,i,z,rfl,rfl,hq,he,q⟩:=h;cases rx;obtain⟨t,rfl⟩:=ry;obtain⟨its,r,pl,hz⟩:=I.list hq;obtain⟨j,h1,h2,h3,h4,h5⟩:=VQ he;obtain⟨w,ew,rw'⟩:=r.get h2;have hl:=r.length;have hn:=Kz;have fin:EP X pI Y Q w s:=⟨z,H,I,rw',q⟩;by_cases h0:0<=i
 .have hj:i.toNat=j:=by
   rw[Kd h0 h5]at h1;exact BJ h1
  exact item_listR pl.isList h0 (by omega) (by rw[hj];simpa using ew) fin hs
 .have hj:(i+(its.toArray.size:Ad)).toNat=j:=by
   rw[JQ (by omega) h4]at h1
   rw[AD,<-hl];exact BJ h1
  exact Yd (x:=w) pl.isList.typeIs ZD.lookup
   (wpAny_getItem_list_neg (Q:=λr s'=>r=w/\EP X pI Y Q r s') pl.isList (by omega) (by rw[AD]<;>omega) (by omega) (by rw[hj];simpa using ew) ⟨rfl,fin⟩) hs
theorem bv:IxR X (SR X.K):=by
 intro value slice pI s Y H x y v u Q I rx ry h hs;obtain⟨p,xs,i,z,rfl,rfl,hq,he,q⟩:=h;cases rx;obtain⟨t,rfl⟩:=ry;obtain⟨its,r,pl,hz⟩:=I.tuple hq;obtain⟨j,h1,h2,h3,h4,h5⟩:=VQ he;obtain⟨w,ew,rw'⟩:=r.get h2;have hl:=r.length;have hn:=Kz;have fin:EP X pI Y Q w s:=⟨z,H,I,rw',q⟩;exact Yd (x:=w) pl.typeIs slot_tuple_getitem.lookup
  (getItem_tuple (j:=j) (Q:=λr s'=>r=w/\EP X pI Y Q r s') pl (by omega) (by omega) (by rw[AD,<-hl];exact h1) (by simpa using ew) ⟨rfl,fin⟩) hs
theorem fH(its:Ac Ai)(n j:Ag)(u:Ai):CV (·.setIfInBounds j u) { cls:=.type "list",data:=.seq its.toArray n }={ cls:=.type "list",data:=.seq (its.set j u).toArray n }:=by
 simp[CV]
theorem Inv.lst(I:Inv X pI Y H s)(h:H p=Ab (.lst xs)):
  ∃(its:Ac Ai)(n:Ag),Bj xs its/\s.heap.get? p=Ab { cls:=.type "list",data:=.seq its.toArray n }/\xs.length<=sizeLine:=by
 obtain⟨z,its,n,r,e⟩:=I.hok p _ h;exact⟨its,n,r,e,z⟩
theorem Inv.lstUpd{ys:Ac V}{n':Ag}{f:Di->Di}(I:Inv X pI Y H s)(h:H p=Ab (.lst xs))(ho:s.heap.get? p=Ab { cls:=.type "list",data:=.seq its.toArray n })(hf:f { cls:=.type "list",data:=.seq its.toArray n }={ cls:=.type "list",data:=.seq its'.toArray n' })(r:Bj ys its')(hz:ys.length<=sizeLine)(t:Ag):Inv X pI Y (upd H p (.lst ys)) {s with heap:=s.heap.update p f,toks:=t}:=by
 have e:(s.heap.update p f).get? p=Ab { cls:=.type "list",data:=.seq its'.toArray n' }:=by
  rw[Ci f ho (by rw[hf]<;>rfl),hf]
 refine I.write (x:=p) (e:=p) (by rw[h];trivial) (.inl rfl) (λb u hb q=>(Cp _ _ (Br hb)).trans q) ⟨_,e⟩ ?_
 exact⟨hz,its',n',r,e⟩
def jp:V->V->V->Hp->(Hp->Prop)->Prop:=λo i v H Q=>∃ p xs k j,o=.ref p/\i=.int k/\H p=Ab (.lst xs)/\ixN xs.length k=Ab j/\Q (upd H p (.lst (xs.set j v)))
theorem iR:SK X jp:=by
 intro pI s Y H o i v ov iv u Q I ro ri rv h;obtain⟨p,xs,k,j,rfl,rfl,hp,hj,q⟩:=h;cases ro;obtain⟨t,rfl⟩:=ri;obtain⟨its,n,r,ho,hz⟩:=I.lst hp;obtain⟨h1,h2,h3,h4⟩:=VM hj;have hl:=r.length;have hn:=Kz;have I':Inv X pI Y (upd H p (.lst (xs.set j v))) {s with heap:=s.heap.update p (CV (·.setIfInBounds j u))}:=
  I.lstUpd hp ho (fH its n j u) (r.set rv j) (by rw[BH];exact hz) s.toks
 by_cases h0:0<=k
 .have hk:k.toNat=j:=by
   rw[Kd h0 h4]at h1;exact BJ h1
  exact PySem.W.ki_setAt ho h0 (by omega) (by rw[AD,<-hl];exact h4) (by rw[hk];exact⟨_,I',q⟩)
 .have hk:(k+(its.toArray.size:Ad)).toNat=j:=by
   rw[JQ (by omega) h3]at h1
   rw[AD,<-hl];exact BJ h1
  exact PySem.W.ki_setBack ho (by omega) (by rw[AD,<-hl];exact h3) (by omega) (by rw[hk];exact⟨_,I',q⟩)
theorem dX(lo hi:Aq Ad)(n:Ag):(Fv lo hi Af n).1=((HT.sIx n 0 lo:Ag):Ad)/\(Fv lo hi Af n).2.1=((HT.sIx n n hi:Ag):Ad)/\(Fv lo hi Af n).2.2=1:=by
 refine⟨?_,?_,rfl⟩
 .cases lo with
  |none=>simp[Fv,HT.sIx]
  |some i=>
   simp only[Fv,HT.sIx,X5,show (1:Ad)>0 by decide,IY]
   by_cases h:i<0
   .simp only[h,IY]<;>omega
   .simp only[h,Ha]<;>omega
 .cases hi with
  |none=>simp[Fv,HT.sIx]
  |some i=>
   simp only[Fv,HT.sIx,X5,show (1:Ad)>0 by decide,IY]
   by_cases h:i<0
   .simp only[h,IY]<;>omega
   .simp only[h,Ha]<;>omega
theorem dL(its:Ac Ai)(lo hi:Aq Ad):slicePick its.toArray lo hi Af=((its.drop (HT.sIx its.length 0 lo)).take (HT.sIx its.length its.length hi-HT.sIx its.length 0 lo)).toArray:=by
 obtain⟨h1,h2,h3⟩:=dX lo hi its.toArray.size;unfold slicePick;rw[h1,h2,h3];simp only[sliceRange_one,pick_run,AD]<;>rfl
def SQ(K:Fg):V->Aq Ad->Aq Ad->Hp->VK->Prop:=λx lo hi H Q=>∃ a xs,x=.ref a/\SqL K H a xs/\∀ p,H p=Af->Q (.ref p) (upd H p (.lst (J3 xs lo hi)))
theorem mE:SlR X (SQ X.K):=by
 intro pI s Y H x v vl vu lo hi sl Q I rx hs pl pu h;obtain⟨a,xs,rfl,hx,q⟩:=h;cases rx;obtain⟨its,r,ht,hz⟩:=I.list hx;have hlen:=r.length;refine⟨"list",_,ZD.lookup,ht.isList.typeIs,?_⟩;refine wpAny_getItem_list_slice ht.isList hs pl pu .none (by simp) ?_ (by rw[AD]<;>omega)
 rw[dL,<-hlen];refine⟨.ref s.heap.objs.size,_,I.laid (t':=s.toks) (o:=.lst (J3 xs lo hi)) (λb ob q=>Ar _ q) (A5 _) ?_,rfl,q _ (I.hok.fresh (A5 _))⟩
 exact⟨Cv (Tu xs lo hi) hz,_,0,(r.drop (HT.sIx xs.length 0 lo)).take (HT.sIx xs.length xs.length hi-HT.sIx xs.length 0 lo),AB _ rfl⟩
theorem Te:Ih X (.builtin "len") (λxs H Q=>∃ p ys,xs=[.ref p]/\(SqL X.K H p ys\/SqT X.K H p ys)/\Q (.int ys.length) H):=by
 intro pI s Y H xs us Q I r h;obtain⟨p,ys,rfl,hq,q⟩:=h;obtain⟨u,rfl,rx⟩:=IH r;cases rx;have hn:=Kz;rcases hq with hq|hq
 .obtain⟨its,r',pl,hz⟩:=I.list hq;have hlen:=r'.length;exact Calls.call_len_list pl.isList (by simp only[AD]<;>omega) ⟨.int ys.length,H,I.tok _,⟨s.toks+1,by rw[AD,hlen]⟩,q⟩
 .obtain⟨its,r',pl,hz⟩:=I.tuple hq;have hlen:=r'.length;exact len_tuple pl (by simp only[AD]<;>omega) ⟨.int ys.length,H,I.tok _,⟨s.toks+1,by rw[AD,hlen]⟩,q⟩
theorem dQ:Ih X (.builtin "len") (λxs H Q=>∃ z,xs=[.str z]/\z.length<=sizeLine/\Q (.int z.length) H):=by
 intro pI s Y H xs us Q I r h;obtain⟨z,rfl,hz,q⟩:=h;obtain⟨u,rfl,t,rfl⟩:=IH r;have hn:=Kz;exact len_str (by omega) ⟨.int z.length,H,I.tok _,⟨_,rfl⟩,q⟩
theorem Td:Ih X (.type "list") (λxs H Q=>∃ p ys,xs=[.ref p]/\(SqL X.K H p ys\/SqT X.K H p ys)/\∀ l,H l=Af->Q (.ref l) (upd H l (.lst ys))):=by
 intro pI s Y H xs us Q I r h;obtain⟨p,ys,rfl,hq,q⟩:=h;obtain⟨u,rfl,rx⟩:=IH r;cases rx;have fin:∀(its:Ac Ai),Bj ys its->ys.length<=sizeLine->∀(h':AM)(c':Ag),(∀ b o',s.heap.get? b=Ab o'->h'.get? b=Ab o') ->
   h'.get? s.heap.objs.size=Ab { cls:=.type "list",dict:=Af,data:=.seq its.toArray c',slots:=#[] }->EP X pI Y Q (.ref s.heap.objs.size) {s with heap:=h'}:=λits r' hz h' c' kp e=>
  ⟨.ref s.heap.objs.size,_,I.laid (t':=s.toks) kp (A5 _) (show ObjOk X.prog X.w _ h' _ (.lst ys) from ⟨hz,its,c',r',e⟩),rfl,q _ (I.hok.fresh (A5 _))⟩
 rcases hq with hq|hq
 .obtain⟨its,r',pl,hz⟩:=I.list hq;have hlen:=r'.length;obtain⟨o,ho,hc,n,hd⟩:=pl.isList;exact call_list_seq p (.inl rfl) ho hc hd (λh' c' kp e=>fin its r' hz h' c' kp e) (by simp only[AD]<;>omega)
 .obtain⟨its,r',pl,hz⟩:=I.tuple hq;have hlen:=r'.length;obtain⟨o,ho,hc,n,hd⟩:=pl;exact call_list_seq p (.inr rfl) ho hc hd (λh' c' kp e=>fin its r' hz h' c' kp e) (by simp only[AD]<;>omega)
theorem S5:Ih X (.type "tuple") (λxs H Q=>∃ p ys,xs=[.ref p]/\((SqL X.K H p ys/\∀ l,H l=Af->Q (.ref l) (upd H l (.tup ys)))\/(SqT X.K H p ys/\Q (.ref p) H))):=by
 intro pI s Y H xs us Q I r h;obtain⟨p,ys,rfl,h⟩:=h;obtain⟨u,rfl,rx⟩:=IH r;cases rx;rcases h with ⟨hq,q⟩|⟨hq,q⟩
 .obtain⟨its,r',pl,hz⟩:=I.list hq;have hlen:=r'.length;refine call_tuple_list pl.isList (λh' kp=>?_) (by simp only[AD]<;>omega)
  have I1:Inv X pI Y H {s with heap:=h'}:=I.kept (t':=s.toks) kp
  have I2:Inv X pI Y (upd H h'.objs.size (.tup ys)) { s with heap:=h'.push { cls:=.type "tuple",data:=.seq its.toArray } }:=
   I1.laid (t':=s.toks) (λb o e=>Ar _ e) (A5 _) (show ObjOk X.prog X.w _ _ _ (.tup ys) from ⟨hz,its,r',JG _ _⟩)
  exact⟨.ref h'.objs.size,_,I2,rfl,q _ (I1.hok.fresh (A5 _))⟩
 .obtain⟨its,r',pl,hz⟩:=I.tuple hq;exact call_tuple_same pl ⟨.ref p,H,I,rfl,q⟩
def tyV(K:Fg)(T:Dy)(x:V)(H:Hp):Prop:=match x with
  |.str _=>T = "str"
  |.int _=>T = "int"
  |.ref p=>(T = "list"/\∃ xs,SqL K H p xs)\/(T = "tuple"/\∃ o,K.lookup p=Ab o/\o.cls=.type "tuple"/\o.dict=Af) \/
      (T = "dict"/\((∃ kvs,H p=Ab (.dK kvs))\/∃ kvs,H p=Ab (.dT kvs)))\/(T = "set"/\∃ S n,H p=Ab (.set S n))
  |_=>BF
theorem uZ{T:Dy}{x:V}{v:Ai}(I:Inv X pI Y H s)(r:Ca x v)(ty:tyV X.K T x H):s.TypeIs v T/\∀ a,v=.ref a->∃ ob,s.heap.get? a=Ab ob/\ob.dict=Af:=by
 cases x with
 |str z=>
  obtain⟨t,rfl⟩:=r;cases (show T = "str" from ty)
  exact⟨typeIs_str s z t,λ_ e=>nomatch e⟩
 |int i=>
  obtain⟨t,rfl⟩:=r;cases (show T = "int" from ty)
  exact⟨typeIs_int s i t,λ_ e=>nomatch e⟩
 |ref p=>
  cases r;rcases ty with ⟨rfl,xs,hq⟩|⟨rfl,o,hk,hc,hd⟩|⟨rfl,hk⟩|⟨rfl,S,n,hk⟩
  .obtain⟨its,_,pl,_⟩:=I.list hq;refine⟨pl.isList.typeIs,λa e=>?_⟩
   cases e;obtain⟨o,n,e,c,hd,_⟩:=pl;exact⟨o,e,hd⟩
  .refine⟨⟨o,I.kIn p o hk,hc⟩,λa e=>?_⟩
   cases e;exact⟨o,I.kIn _ o hk,hd⟩
  .have z:∃ o,s.heap.get? p=Ab o/\o.ExactDict:=by
    rcases hk with ⟨kvs,hk⟩|⟨kvs,hk⟩
    .obtain⟨_,_,_,_,o,_,_,e,ex,_⟩:=I.hok p _ hk;exact⟨o,e,ex⟩
    .obtain⟨_,_,_,_,o,_,_,e,ex,_⟩:=I.hok p _ hk;exact⟨o,e,ex⟩
   obtain⟨o,e,ex⟩:=z;refine⟨⟨o,e,ex.1⟩,λa e2=>?_⟩
   cases e2;exact⟨o,e,ex.2.1⟩
  .obtain⟨o,_,_,_,e,ex,_⟩:=I.hok p _ hk;refine⟨⟨o,e,ex.1⟩,λa e2=>?_⟩
   cases e2;exact⟨o,e,ex.2.1⟩
 |_=>exact Eo ty
def tBM(K:Fg)(T:Dy)(r:V->Ac V->Hp->VK->Prop)(to:TE)(t:TA):TE:=λY H Q=>to Y H λx H1=>tyV K T x H1/\t Y H1 λxs H2=>r x xs H2 Q
variable{o e:Ao}{es:Ac Ao}{to:TE}{t:TA}{name:An}{apos cpos:A6}{T id:Dy}{r:V->Ac V->Hp->VK->Prop}
theorem Oz(pa:PlainAttrs T)(slot:Slot T name id)(hty:typeOf (.builtin id)=pure (.type "method_descriptor"))(hm:MtR X id r)(ho:PE X o to)(ha:PA X (e::es) t)(hbase:Gh o name X.env (eval o X.env)=eval o X.env:=by rfl)(hfew:((CU cpos (AI (e::es) X.env)).all (λx=>!x.1)&&(Jc cpos (Hc [] X.env)).all (λx=>x.1.isSome)
   && decide ((e::es).length+([]:Ac Eg).length+(if ([]:Ac Eg).isEmpty then 0 else 1)<30))=Aa:=by rfl)(hline:(apos.endLine==cpos.line)=Aa:=by rfl)(hs:AI (e::es) X.env=(Ae,eval e X.env)::AI es X.env:=by rfl)(hplain:(CU cpos (AI es X.env)).any (·.1)=Ae:=by rfl):PE X (.Call (.Attribute o name apos) (e::es) [] cpos) (tBM X.K T r to t):=by
 intro pI s Y H Q I h;refine wpAny_Call_method_late hbase hfew hline rfl (thn (ho pI s Y H _ I h) λv s1 ⟨x,H1,I1,r1,ty,q1⟩=>?_)
 obtain⟨h1,h2⟩:=uZ I1 r1 ty;refine⟨T,id,pa,slot,hty,h1,h2,?_⟩;have hA:=ha cpos pI s1 Y H1 _ I1 q1;rw[hs]at hA ⊢;refine Calls.callWith_builtin (by show (Ae||(CU cpos (AI es X.env)).any (·.1))=Ae;rw[hplain]<;>rfl) (Calls.evalArgs_plain ?_)
 exact thn hA λus s2 ⟨vs,H2,I2,r2,q2⟩=>hm pI s2 Y H2 x vs v us Q I2 r1 r2 q2
/- xs.append(e),list.index on a module's tuple .. are MtR facts of 06m -/
end
noncomputable def MtM(X:Cx)(id:Dy)(r:V->Ac V->Hp->VK->Prop):Prop:=
 ∀(pI:Pn)(s:As)(Y:St)(H:Hp)(x:V)(xs:Ac V)(v:Ai)(us:Ac Ai)(Q:VK),Inv X pI Y H s->Ca x v->Bj xs us->r x xs H Q ->
  AC (model X.prog X.w) X.A (call (.builtin id) (v::us)) (EP X pI Y Q) X.xe s
theorem Bj.one:∀{x:V}{us:Ac Ai},Bj [x] us->∃ u,us=[u]/\Ca x u
 |_,_,.cons r .nil=>⟨_,rfl,r⟩
theorem Bj.zero:∀{us:Ac Ai},Bj [] us->us=[]
 |_,.nil=>rfl
theorem Bj.eraseIdx:∀{xs:Ac V}{us:Ac Ai}(i:Ag),Bj xs us->Bj (xs.eraseIdx i) (us.eraseIdx i)
 |_,_,_,.nil=>.nil
 |_,_,0,.cons _ t=>t
 |_,_,i+1,.cons r t=>.cons r (Bj.eraseIdx i t)
theorem Bj.reverse(h:Bj xs us):Bj xs.reverse us.reverse:=by
 induction h with
 |nil=>exact .nil
 |cons r t ih=>rw[XY,XY];exact Bj.append ih (.cons r .nil)
section
variable{X:Cx}{pI:Pn}{Y:St}{H:Hp}{s:As}{l b:Am}{xs ys zs:Ac V}
theorem Inv.lset{f:A1 Ai->A1 Ai}(I:Inv X pI Y H s)(hH:H l=Ab (.lst xs))(e:s.heap.get? l=Ab { cls:=.type "list",data:=.seq its.toArray n })(hf:f its.toArray=its'.toArray)(hv:Bj ys its')(hz:ys.length<=sizeLine):Inv X pI Y (upd H l (.lst ys)) {s with heap:=s.heap.update l (CV f),toks:=t'}:=by
 have q:=PySem.IsL.update e f;rw[hf]at q;refine I.write (x:=l) (e:=l) (by rw[hH];exact trivial) (.inl rfl) (λb' u hb hu=>(Cp s.heap (CV f) (Br hb)).trans hu) ⟨_,q⟩ ?_
 exact⟨hz,its',_,hv,q⟩
theorem Inv.lnew(I:Inv X pI Y H s)(hv:Bj ys its)(hz:ys.length<=sizeLine):
  Inv X pI Y (upd H s.heap.objs.size (.lst ys)) { s with heap:=s.heap.push { cls:=.type "list",data:=.seq its.toArray },toks:=t' }:=
 I.laid (λ_ _ q=>Ar _ q) (A5 _) ⟨hz,its,0,hv,AB _ rfl⟩
theorem Inv.fresh(I:Inv X pI Y H s):H s.heap.objs.size=Af:=I.hok.fresh (A5 _)
theorem Inv.lstM(I:Inv X pI Y H s)(hH:H l=Ab (.lst xs)):xs.length<=sizeLine/\∃(its:Ac Ai)(n:Ag),Bj xs its/\xs.length=its.length/\s.heap.get? l=Ab { cls:=.type "list",data:=.seq its.toArray n }:=by
 obtain⟨z,its,n,r,e⟩:=I.hok l _ hH;exact⟨z,its,n,r,r.length,e⟩
theorem UV(h:n<=sizeLine):DN n=Ae:=by
 unfold DN;exact B5 (by omega)
end
section
variable{X:Cx}
def qB:V->Ac V->Hp->VK->Prop:=λx vs H Q=>∃ l xs y,x=.ref l/\vs=[y]/\H l=Ab (.lst xs)/\xs.length<sizeLine/\Q .non (upd H l (.lst (xs++[y])))
theorem gI:MtM X "list.append" qB:=by
 intro pI s Y H x vs v us Q I rx rv h;obtain⟨l,xs,y,rfl,rfl,hH,hz,q⟩:=h;cases rx;obtain⟨u,rfl,ru⟩:=rv.one;obtain⟨z,its,n,r,hl,e⟩:=I.lstM hH;refine Jg F.slot_list_append ⟨_,e,rfl⟩ F.entry_list_append (F.args_list_append_2 _ _) (PySem.list_append l its.toArray n u (by rw[AD];omega)) ⟨e,?_⟩
 refine⟨.non,_,I.lset (its':=its++[u]) hH e (by simp) (r.append (.cons ru .nil)) ?_,rfl,q⟩
 rw[BU,Ec];omega
def qA:V->Ac V->Hp->VK->Prop:=λx vs H Q=>∃ l b xs zs,x=.ref l/\vs=[.ref b]/\H l=Ab (.lst xs)/\H b=Ab (.lst zs)/\xs.length+zs.length<=sizeLine/\Q .non (upd H l (.lst (xs++zs)))
theorem gH:MtM X "list.extend" qA:=by
 intro pI s Y H x vs v us Q I rx rv h;obtain⟨l,b,xs,zs,rfl,rfl,hH,hB,hz,q⟩:=h;cases rx;obtain⟨u,rfl,ru⟩:=rv.one;cases ru;obtain⟨z,its,n,r,hl,e⟩:=I.lstM hH;obtain⟨z2,its2,n2,r2,hl2,e2⟩:=I.lstM hB;have hsz:its.toArray.size+its2.toArray.size<=sizeLine:=by rw[AD,AD];omega
 have hlong:¬ (!its.toArray.isEmpty&&DN (its.toArray.size+its2.toArray.size))=Aa:=by
  rw[UV hsz,FS];exact AY
 refine Jg E6 ⟨_,e,rfl⟩ YT (YM _ _)
  (AutoSeq1.list_extend_list_list_0 l its.toArray n b its2.toArray n2 hlong (by rw[AD];omega) (by omega)) ⟨e,e2,?_⟩
 refine⟨.non,_,I.lset (its':=its++its2) hH e (by simp) (r.append r2) ?_,rfl,q⟩
 rw[BU];omega
end
section
variable{prog:AU}{w:AH}{A:Bc}{E:Vq}{s:As}
set_option maxRecDepth 100000 in
end
section
variable{X:Cx}
end
end L2
namespace Att
open PySem PySem.W PySem.Calls PyProof.Rows
variable{P:LZ}{h:AM}{l:Gb}{n:Ag}
theorem dG:∀(ns:Ac Ad)(vs:Ac Ai),WellAll P h vs (ns.map Zm)->HE vs ns:=by
 intro ns
 induction ns with
 |nil=>
  intro vs w;rw[GC]at w;cases w;exact .nil
 |cons n ns ih=>
  intro vs w;rw[Bq]at w;cases w with
  |cons a b=>
   cases a;exact .cons _ _ (ih _ b)
theorem fC(hn:l.most=Ab n){args:Ac WData}{vals:Ac Ai}(hpre:l.row.toRowW.claim.pre args=Aa)(hwl:WellAll P h vals args):
  ∃ a vs ns,vals=[Dt a]/\args=[WData.list (ns.map Zm)]/\h.get? a=Ab { cls:=.type "list",data:=.seq vs.toArray }/\HE vs ns/\ns.length<=n:=by
 have hsh:WShape.hasAll [] args [.list .int]=Aa:=(pre_splitW hpre).1;have hc:l.pre.holds [] {args:=args}=Aa:=(pre_splitW hpre).2;obtain⟨d,r,rfl,h1,h2⟩:=hasAllW_cons hsh;obtain rfl:=hasAllW_nil h2;obtain⟨xs,rfl,h3⟩:=hasW_list h1;obtain⟨ns,rfl⟩:=items_int h3;have hlen:ns.length<=n:=by
  unfold OpenLaw.pre at hc;have h4:(WTm.not (.lt (.lit (.int (n:Ad))) (.len (.arg 0)))).holds [] {args:=[.list (ns.map .int)]}=Aa:=by
   have h4:=(holds_andW hc).1;rw[hn]at h4;exact h4
  have h5:=condW_of h4 (w_not (w_lt w_lit (w_len_list (w_arg rfl))));rw[AV]at h5;refine Nat.le_of_not_lt λq=>?_
  have q':(n:Ad)<((ns.length:Ag):Ad):=by omega
  first
   |(rw[CD q']at h5;exact absurd h5 (by decide))
   |(simp at h5;omega)
 cases hwl with
 |cons w1 w2=>
  cases w2;cases w1 with
  |list ho hall=>exact⟨_,_,ns,rfl,rfl,ho,dG ns _ hall,hlen⟩
theorem eT(l:Gb)(args:Ac WData):l.row.toRowW.claim.post args (.bool Aa) args=Aa:=
 postW_of (r:=l.row.toRowW) (X:=(Aa==Aa))
  (show Zn [] (.bool Aa) .bool=Aa by first|rfl|decide|simp[Zn,WShape.arms,WShape.armsAll])
  (show (WTm.eq .res (.lit (.bool Aa))).value [] {args:=args,res:=Ab (.bool Aa),after:=args}=Ab (.bool (Aa==Aa)) from w_eq_bool (w_res rfl) w_lit) rfl
theorem attach_call{q:AU}{loose:Ac An}{XP:(An->Aq Ai)->AM->Prop}{YP:AH->AM->Prop}{d:DefRec}(hn:l.most=Ab n)(hdf:d.params.defaults=[])(call:∀(w:AH)(s₀ s₁:As)(mg mb:An->Aq Ai)(fa:Am)(o:Di)(pm cd doc:Ai)(a:Am)(vs:Ac Ai)(ns:Ac Ad),
   Ground q loose [] XP w s₀ mg mb s₁.heap->YP w s₁.heap ->
   s₁.heap.get? fa=Ab o->o.data=.func (docDef d.name d.params d.body d.scope pm cd doc)->s₁.heap.CodeRec cd d.name->mg d.name=Ab (.ref fa) ->
   s₁.heap.get? a=Ab { cls:=.type "list",data:=.seq vs.toArray }->HE vs ns->ns.length<=n->s₁.gens=#[] ->
   Fu (model l.prog w) HG (.call (.ref fa) ⟨[.ref a],[]⟩) (λr s'=>r=.ok (.ret (.bool Aa))/\OldK s₁.heap s'.heap/\s'.os=s₁.os/\FU s'.gens) s₁):WalkO q loose XP YP l.row.toRowW d [] (λf vs=>KO f vs):=by
 intro w s₀ s₁ mg mb G Y_ fa o pm cd doc dV kV ho hd hcd hD hmg hg args vals as hpre hlay hrd hwl hlo;obtain rfl:dV=.none:=Dflts.none hD hdf;obtain rfl:kV=.none:=Dflts.noKw hD;obtain⟨a,vs,ns,rfl,rfl,hobj,hints,hlen⟩:=fC hn hpre hwl;refine enter_call (GM (call w s₀ s₁ mg mb fa o pm cd doc a vs ns G Y_ ho (fd_plain hd) hcd hmg hobj hints hlen hg) λr s' hq=>?_)
 obtain⟨rfl,h2,h3,h4⟩:=hq;exact⟨.inl ⟨.bool Aa,.bool Aa,[],rfl,λ_=>rfl,.bool Aa,eT l _,λ_=>⟨List.Pairwise.nil,λ_ hm=>(nomatch hm)⟩⟩,h2,h3,h4⟩
section
variable{prog:AU}{w:AH}{A:Bc}{E:Vq}{s:As}{K:Frag}
end
end Att
namespace L2
open PySem PySem.Spec PyProof.Rows
variable{k:Ag}{x:An}
theorem Uc:∀{vs:Ac Ai}{ns:Ac Ad},HE vs ns->Bj (ns.map V.int) vs
 |_,_,.nil=>.nil
 |_,_,.cons n t h=>.cons ⟨t,rfl⟩ (Uc h)
def O6(H:Hp):Prop:=∀ b,H b=Af\/∃ o xs,H b=Ab (.frz o (.lst xs))
theorem jO{P:AU}{w:AH}{K:Fg}{mg mb:An->Aq Ai}{CX:CXT}{fa a:Am}{fd:CA}{sp:Sp}{s₁:As}{vs:Ac Ai}{ns:Ac Ad}(KX:K.In s₁.heap)(hns:s₁.heap.Ns Bg mg)(hb:s₁.heap.Ns Jf mb)(hbb:∀ x:An,x≠"__name__"->mb x=Dx x)(hlim:s₁.heap.NoLimit)(hg:s₁.gens=#[])(ha:s₁.heap.get? a=Ab { cls:=.type "list",data:=.seq vs.toArray })(hi:HE vs ns)(hl:ns.length<=sizeLine)(hr:Room k HG)(F:∀ base:AM,K.In base->base.Ns Bg mg->FnOk P w K mg base CX k fa fd [x] sp)(hbind:∀(s:As)(u:Ai),HF s fd ⟨[u],[]⟩ [(x,u)])(hsp:∀ H:Hp,O6 H->SqL K H a (ns.map V.int)->sp [.ref a] H (λv _=>v=.bl Aa) λ_ _ _=>BF)(hCX:∀ H e s',CX [] H s₁ (λ_ _ _=>BF) e s'->BF):Fu (model P w) HG (.call (.ref fa) ⟨[.ref a],[]⟩) (λr s'=>r=.ok (.ret (.bool Aa))/\OldK s₁.heap s'.heap/\s'.os=s₁.os/\FU s'.gens) s₁:=by
 have rv:=Uc hi;have lenV:=hi.length
 -- from an abstract heap in which nothing but the script may be tracked
 have core:∀ H:Hp,O6 H->SqL K H a (ns.map V.int)->HOk P w H s₁.heap->(∀ b,H b≠Af->b=a)->(H a≠Af->K.lookup a=Af) ->
   Fu (model P w) HG (.call (.ref fa) ⟨[.ref a],[]⟩) (λr s'=>r=.ok (.ret (.bool Aa))/\OldK s₁.heap s'.heap/\s'.os=s₁.os/\FU s'.gens) s₁:=by
  intro H hO hS hok hA hK;have base_of:∀{b:Am}{o:Di},s₁.heap.get? b=Ab o->H b=Af->(Ju s₁.heap H).get? b=Ab o:=λe n=>jS e n
  have noA:∀{b:Am}{o:Di}{es:A1 DictEntry}{ep:Ag},s₁.heap.get? b=Ab o->o.data=.dict es ep->H b=Af:=λ{b o es ep} e d=>by
   cases q:H b with
   |none=>rfl
   |some u=>
    have e':b=a:=hA b (by rw[q];simp)
    subst e';rw[ha]at e;cases e;have d':LX vs.toArray _=Data.dict es ep:=d;cases d'
  have nsK:∀{b:Am}{m:An->Aq Ai},s₁.heap.Ns b m->(Ju s₁.heap H).Ns b m:=λ{b m} ⟨o,es,ep,e,d,r⟩=>⟨o,es,ep,base_of e (noA e d),d,r⟩
  have hKb:K.In (Ju s₁.heap H):=λb o e=>base_of (KX b o e) (by
   cases q:H b with
   |none=>rfl
   |some u=>
    have e':b=a:=hA b (by rw[q];simp)
    subst e';rw[hK (by rw[q];simp)]at e;cases e)
  have hM:Mod K mg (Ju s₁.heap H):=⟨hKb,nsK hns,⟨mb,nsK hb,hbb⟩,let ⟨mc,h1,h2⟩:=hlim;⟨mc,nsK h1,h2⟩⟩
  have e0:Env0 P w K mg (Ju s₁.heap H) HG [] s₁ H:=⟨rfl,hM,λb o e=>nZ e,JF (fY _ _),trivial,λb hb=>absurd (show b∈([]:Ac Am) from hb) (by simp),hok,.of_eq hg⟩
  refine GM ((F _ hKb (nsK hns)).run HG [] s₁ H ⟨[.ref a],[]⟩ [.ref a] [.ref a] _ _ hr e0 (hbind s₁ (.ref a)) (.cons rfl .nil) (hsp H hO hS)) λr s' h=>?_
  cases r with
  |error e=>exact(hCX H e s' h).elim
  |ok fl=>
   cases fl with
   |next=>exact Eo h
   |brk=>exact Eo h
   |cont=>exact Eo h
   |ret u=>
    obtain⟨v,H',os,bare,un,hok',r',q⟩:=h;have q':v=.bl Aa:=q;subst q';obtain rfl:u=Zj Aa:=r';refine⟨rfl,OldK.of_keep λb o e=>?_,os,bare⟩
    cases q:H b with
    |none=>exact un.keep b o e q (by intro z;exact absurd (show b∈([]:Ac Am) from z) (by simp)) (by simp)
    |some u=>
     rcases hO b with z|⟨ob,xs,z⟩
     .rw[q]at z;cases z
     .have z2:=un.frzs b ob _ z;obtain⟨e1,_⟩:=hok b _ z;obtain⟨e2,_⟩:=hok' b _ z2;rw[e]at e1;cases e1;exact e2
 cases hk:K.lookup a with
 |some o=>
  -- the script is one of the module's own objects
  have e:=KX a o hk;rw[ha]at e;cases e;refine core (λ_=>Af) (λ_=>.inl rfl) (.inr ⟨_,vs.toArray,_,hk,rfl,rfl,rfl,by rw[AD,lenV];exact hl,by simpa using rv⟩) (λb u z=>by have z':(Af:Aq HO)=Ab u:=z;cases z') (λb z=>absurd rfl z) λz=>absurd rfl z
 |none=>
  refine core (λb=>if b=a then Ab (.frz { cls:=.type "list",data:=.seq vs.toArray } (.lst (ns.map V.int))) else Af) (λb=>?_) (.inl (.inr ⟨{ cls:=.type "list",data:=.seq vs.toArray },AO rfl⟩)) (λb u z=>?_) (λb z=>?_) λ_=>hk
  .by_cases hb:b=a
   .exact .inr ⟨_,_,AO hb⟩
   .exact .inl (AW hb)
  .by_cases hb:b=a
   .have z':=(AO hb).symm.trans z;cases z';subst hb;exact⟨ha,by rw[AV];exact hl,vs,_,rv,ha⟩
   .have z':=(AW hb).symm.trans z;cases z'
  .by_cases hb:b=a
   .exact hb
   .exact absurd (AW hb) z
noncomputable abbrev KOf{K:Fg}{h:AM}(_:K.In h):Fg:=K
theorem walk_of{l:Gb}{n:Ag}{q:AU}{loose:Ac An}{XP:(An->Aq Ai)->AM->Prop}{YP:AH->AM->Prop}{d:DefRec}{K:LZ->Fg}{CX:AH->CXT}{sp:AH->Sp}(hn:l.most=Ab n)(hn2:n<=sizeLine)(hdf:d.params.defaults=[])(hr:Room k HG)(hY:∀(w:AH)(h:AM),YP w h->(K w.params).In h)(F:∀(w:AH)(mg:An->Aq Ai)(fa:Am)(h:AM),(K w.params).In h->h.Ns Bg mg->mg d.name=Ab (.ref fa) ->
   ∃ fd:CA,(∀(s:As)(u:Ai),HF s fd ⟨[u],[]⟩ [(x,u)]) /\
    ∀ base:AM,(K w.params).In base->base.Ns Bg mg->FnOk l.prog w (K w.params) mg base (CX w) k fa fd [x] (sp w))(hsp:∀(w:AH)(H:Hp)(a:Am)(ns:Ac Ad),ns.length<=n->O6 H->SqL (K w.params) H a (ns.map V.int)->sp w [.ref a] H (λv _=>v=.bl Aa) λ_ _ _=>BF)(hCX:∀(w:AH)(H:Hp)(s:As)(e:Ai)(s':As),CX w [] H s (λ_ _ _=>BF) e s'->BF):Zo q loose XP YP l.row.toRowW d [] (λf vs=>KO f vs):=by
 refine Att.attach_call hn hdf λw s₀ s₁ mg mb fa o pm cd doc a vs ns G Y_ ho hd hcd hmg hobj hints hlen hg=>?_
 have KX:=hY w _ Y_;obtain⟨fd,hb,hF⟩:=F w mg fa _ KX G.T.g hmg;exact jO KX G.T.g G.T.b G.T.builtins G.T.nolimit hg hobj hints (Cv hlen hn2) hr hF hb (λH hO hS=>hsp w H a ns hlen hO hS) λH e s'=>hCX w H s₁ e s'
end L2
/- THE LAST THEOREM (shape;LID,My.* are yours):
   My.Adr:a structure of the addresses that your layer names (classes,functions);My.Txt K t:a structure (Prop) of the equations over K;
   My.txt_mk:{K} {implicit addresses ..} (e1:nsIn K Bg "law" = Ab (Ab (.ref f))) (e2:K.lookup f=Ab ⟨oc,od,.func (fnOf "law" "law" params body scope dV kV doc pm an cdv ct),sl⟩) (e3:codeIn K cdv "law" = Aa) ..:∃ t,My.Txt K t
set_option maxRecDepth 100000 in
set_option maxHeartbeats 0 in
theorem PySem.Challenge.cw_LID_holds:PySem.Challenge.rw_LID.Holds:=by
 w_on;o_law;k_head;(case hw=>w_witness2)
 k_fill
 refine L2.walk_of (l:=PySem.Challenge.rw_LID) (n:=63) (k:=40) (x := "script") (CX:=λw=>..) (sp:=λ_=>My.sp_law) rfl (by decide) rfl ⟨rfl,by decide,by decide⟩ (λw h Y_=>Zq Y_) ?F ?S ?C
 case F=>
  intro w mg fa h KX G hmg;have T:∃ t,My.Txt (L2.KOf KX) t:=by
   dsimp only[L2.KOf]                          -- K must stand as «<heap const> w.params» for k_is
   refine' My.txt_mk ?e1 ?e2 ?e3 ..
   (case e1=>PySem.W.k_is)                    -- in the order: a name -> its address -> its object -> its parts
   (case e2=>PySem.W.k_is)
   ..
  obtain⟨t,T⟩:=T;have e0:=hmg.symm.trans (JC KX G T.law);cases e0                                       -- fa is the law's own address
  exact⟨_,fun s u=>.of_eq rfl,fun base kb nb=>My.law_fn T kb nb⟩     -- if «.of_eq rfl» comes too early: refine' ⟨_,?b,fun base kb nb=>My.law_fn T kb nb⟩;exact fun s u=>.of_eq rfl
 case S=>exact λw H a ns hl hO hS=>..
 case C=>exact ..
(the tactic k_is has no namespace:write k_is) -/
namespace L2
open PySem PySem.Spec PyProof.Rows
noncomputable def Kt(s:BA):Arguments:=match s with
  |.FunctionDef _ a _ _ _ _ _ _ _ _=>a
  |_=>{posonlyargs:=[],args:=[],vararg:=Af,kwonlyargs:=[],kw_defaults:=[],kwarg:=Af,defaults:=[]}
noncomputable def HX(s:BA):Ac BA:=match s with
  |.FunctionDef _ _ b _ _ _ _ _ _ _=>b
  |_=>[]
noncomputable def GS(s:BA):Cz:=match s with
  |.FunctionDef _ _ _ _ _ _ sc _ _ _=>sc
  |_=>{kind:=.function,names:=[],isGenerator:=Ae,isCoroutine:=Ae}
noncomputable abbrev CX0:CXT:=λ_ _ _ _ _ _=>BF
structure Fun (K:Fg) (x qual:An) (st:BA) (f:Am) (fd:CA):Prop where
 ex:∃(oc:Ai)(od:Aq Am)(kV doc pm:Ai)(an:Aq Am)(cdv ct:Ai)(osl:A1 (Aq Ai)),
  fd=D8 x qual (Kt st) (HX st) (GS st) .none kV doc pm an cdv ct/\K.lookup f=Ab ⟨oc,od,.func fd,osl⟩/\FV K cdv qual=Aa
 kp:DG K (.ref f)=Aa
section
variable{P:AU}{w:AH}{K:Fg}{mg:An->Aq Ai}{base:AM}
theorem Fun.ok{x qual:An}{st:BA}{f:Am}{fd:CA}{N ps:Ac An}{k:Ag}{sp:Sp}(F:Fun K x qual st f fd)(S:FnScope N ps (GS st))(len:∀ vs H Q E,sp vs H Q E->vs.length=ps.length)(hbody:∀(cdv:Ai)(A:Bc)(outer:Ac C1)(s:As)(H:Hp)(vs:Ac V)(Q:VK)(E:XK),Room k (A.deeper (Fp qual (GS st) s.heap.objs.size f cdv))->sp vs H Q E ->
   ∃ t,PSs (G7 CX0 P w K mg base N qual (GS st) f cdv A outer s H E).nox (HX st) t/\t {nx:=λ_ H'=>Q .non H',rt:=Q} (start N vs) H):FnOk P w K mg base CX0 (k+1) f fd ps sp:=by
 obtain⟨oc,od,kV,doc,pm,an,cdv,ct,osl,rfl,lk,hcd⟩:=F.ex;refine W8 lk hcd S len λA outer s H vs Q E hr hsp=>?_
 obtain⟨t,h,q⟩:=hbody cdv A outer s H vs Q E hr hsp;exact⟨t,h.nox,q⟩
theorem Fun.binds{x qual:An}{st:BA}{f:Am}{fd:CA}{ps:Ac An}(F:Fun K x qual st f fd)(h:∀(kV doc pm:Ai)(an:Aq Am)(cdv ct:Ai)(us:Ac Ai),us.length=ps.length->L5 (D8 x qual (Kt st) (HX st) (GS st) .none kV doc pm an cdv ct) ⟨us,[]⟩=pure (ps.zip us)):IG K fd ps []:=by
 obtain⟨oc,od,kV,doc,pm,an,cdv,ct,osl,rfl,lk,hcd⟩:=F.ex;exact .all (h kV doc pm an cdv ct)
theorem cx{x qual:An}{st:BA}{f:Am}{oc:Ai}{od an:Aq Am}{osl:A1 (Aq Ai)}{kV doc pm cdv ct:Ai}(l:K.lookup f=Ab ⟨oc,od,.func (D8 x qual (Kt st) (HX st) (GS st) .none kV doc pm an cdv ct),osl⟩)(c:FV K cdv qual=Aa)(k:DG K (.ref f)=Aa):Fun K x qual st f (D8 x qual (Kt st) (HX st) (GS st) .none kV doc pm an cdv ct):=⟨⟨oc,od,kV,doc,pm,an,cdv,ct,osl,rfl,l,c⟩,k⟩
end
section
variable{X:Cx}
end
def AN(H H':Hp):Prop:=∀ b o,H b=Ab o->H' b=Ab o
theorem AN.refl(H:Hp):AN H H:=λ_ _ h=>h
theorem AN.trans{H H1 H2:Hp}(a:AN H H1)(b:AN H1 H2):AN H H2:=λc o h=>b c o (a c o h)
theorem AN.free{H H':Hp}(e:AN H H'){l:Am}(h:H' l=Af):H l=Af:=by
 cases q:H l with
 |none=>rfl
 |some o=>
  rw[e l o q]at h;cases h
end L2
section
namespace Ov
open PySem
variable{α β:Type}
inductive D where
 |non|bl (b:Ak)|int (i:Ad)|str (x:An)|tup (ds:Ac D)|lst (ds:Ac D)
 |obj (c:Ag) (fs:Ac (An×D))|exc (c:Ag) (fs:Ac (An×D))|dic (kvs:Ac (Ac Ad×D))
 deriving Inhabited
structure Ex where
 c:Ag
 fs:Ac (An×D)
 deriving Inhabited
inductive R (α:Type) where
 |ok (a:α)|exn (x:Ex)|bad
 deriving Inhabited
noncomputable def R.bind{α β:Type}(r:R α)(f:α->R β):R β:=match r with
  |.ok a=>f a
  |.exn x=>.exn x
  |.bad=>.bad
@[simp]theorem R.bind_ok(a:α)(f:α->R β):(R.ok a).bind f=f a:=rfl
@[simp]theorem R.bind_exn(x:Ex)(f:α->R β):(R.exn x:R α).bind f=.exn x:=rfl
@[simp]theorem R.bind_bad(f:α->R β):(R.bad:R α).bind f=.bad:=rfl
theorem R.bind_assoc{γ:Type}(r:R α)(f:α->R β)(g:β->R γ):(r.bind f).bind g=r.bind λa=>(f a).bind g:=by cases r<;>rfl
noncomputable def Do(n:Ag):Ak:=Ed n 1000000
noncomputable def DQ(i j:Ad):Ak:=(decide (-(18446744073709551616:Ad)<i)&&decide (i<18446744073709551616))||(decide (-(18446744073709551616:Ad)<j)&&decide (j<18446744073709551616))
noncomputable def EM(i j:Ad):Ak:=decide (i.natAbs<2 ^ 2000)&&decide (j.natAbs<2 ^ 2000)
noncomputable def Dj:Gn->D->D->R D
 |.Add,.int i,.int j=>.ok (.int (i+j))
 |.Sub,.int i,.int j=>.ok (.int (i-j))
 |.Mult,.int i,.int j=>if (DQ i j||EM i j)=Aa then .ok (.int (i*j)) else .bad
 |.FloorDiv,.int i,.int j=>if 0<j/\j<1073741824 then .ok (.int (i/j)) else .bad
 |.Mod,.int i,.int j=>if 0<j then .ok (.int (i%j)) else .bad
 |.Pow,.int i,.int j=>if (0<=j/\j<=1000000)/\(-(18446744073709551616:Ad)<i/\i<18446744073709551616) then .ok (.int (i ^ j.toNat)) else .bad
 |.Add,.str x,.str y=>if Do (x.length+y.length)=Aa then .ok (.str (x++y)) else .bad
 |.Add,.lst x,.lst y=>if Do (x.length+y.length)=Aa then .ok (.lst (x++y)) else .bad
 |.Add,.tup x,.tup y=>if (!x.isEmpty&&Do (x.length+y.length))=Aa then .ok (.tup (x++y)) else .bad
 |_,_,_=>.bad
noncomputable def unD:J7->D->R D
 |.USub,.int i=>.ok (.int (-i))
 |_,_=>.bad
noncomputable def b2i(b:Ak):Ad:=if b=Aa then 1 else 0
mutual
noncomputable def eqD:D->D->Ak
 |.non,.non=>Aa
 |.bl a,.bl b=>a==b
 |.bl a,.int j=>b2i a==j
 |.int i,.bl b=>i==b2i b
 |.int i,.int j=>i==j
 |.str x,.str y=>x==y
 |.tup xs,.tup ys=>eqDs xs ys
 |.lst xs,.lst ys=>eqDs xs ys
 |_,_=>Ae
noncomputable def eqDs:Ac D->Ac D->Ak
 |[],[]=>Aa
 |x::xs,y::ys=>eqD x y&&eqDs xs ys
 |_,_=>Ae
end
noncomputable def flD:Ag->D->Ak
 |_,.non=>Aa
 |_,.bl _=>Aa
 |_,.int _=>Aa
 |_,.str _=>Aa
 |n+1,.tup xs=>xs.all (flD n)
 |n+1,.lst xs=>xs.all (flD n)
 |_,_=>Ae
noncomputable def LO:D->Aq (Ac Ad)
 |.tup ds=>keyDs ds
 |_=>Af
where keyDs:Ac D->Aq (Ac Ad)
 |[]=>Ab []
 |.int i::r=>(keyDs r).map (i :: ·)
 |_=>Af
noncomputable def ltD:Ag->D->D->Ak
 |0,.int i,.int j=>decide (i<j)
 |n+1,.tup xs,.tup ys=>ltDs (ltD n) xs ys
 |_,_,_=>Ae
where ltDs (lt:D->D->Ak):Ac D->Ac D->Ak
 |[],[]=>Ae
 |[],_::_=>Aa
 |_::_,[]=>Ae
 |x::xs,y::ys=>if eqD x y=Aa then ltDs lt xs ys else lt x y
noncomputable def rkD:Ag->D->Ak
 |0,.int _=>Aa
 |n+1,.tup xs=>xs.all (rkD n)
 |_,_=>Ae
noncomputable def Sv(lt:D->D->Ak)(x:D):Ac D->Ac D
 |[]=>[x]
 |y::ys=>if lt y x=Aa then y::Sv lt x ys else x::y::ys
noncomputable def WH(lt:D->D->Ak):Ac D->Ac D
 |[]=>[]
 |x::xs=>Sv lt x (WH lt xs)
noncomputable def SY:Ac D->Ak
 |[]=>Aa
 |x::xs=>xs.all (λy=>!eqD x y)&&SY xs
noncomputable def SF:Ac D->Ak
 |[]=>Aa
 |[_]=>Aa
 |x::y::r=>ltD 1 x y&&SF (y::r)
noncomputable def Vf(xs:Ac D):R (Ac D):=if (xs.all (λd=>rkD 1 d && !eqD d (.tup []))&&SY xs&&(decide (xs.length<64)||(SF xs&&decide (xs.length<=1000))))=Aa then .ok (WH (ltD 1) xs) else .bad
noncomputable def B9:DI->D->D->R D
  |.Eq,x,y=>if (flD 5 x&&flD 5 y)=Aa then .ok (.bl (eqD x y)) else .bad
  |.NotEq,x,y=>if (flD 5 x&&flD 5 y)=Aa then .ok (.bl (!eqD x y)) else .bad
  |.Lt,.int i,.int j=>.ok (.bl (decide (i<j)))
  |.LtE,.int i,.int j=>.ok (.bl (decide (i<=j)))
  |.Gt,.int i,.int j=>.ok (.bl (decide (j<i)))
  |.GtE,.int i,.int j=>.ok (.bl (decide (j<=i)))
  |.In,x,.lst ys=>if (flD 5 x&&ys.all (flD 5))=Aa then .ok (.bl (ys.any λy=>eqD y x)) else .bad
  |.In,x,.dic kvs=>match LO x with
    |some k=>.ok (.bl (kvs.any λp=>p.1==k))
    |none=>.bad
  |.In,x,.tup ys=>if (flD 5 x&&ys.all (flD 5))=Aa then .ok (.bl (ys.any λy=>eqD y x)) else .bad
  |.NotIn,x,.lst ys=>if (flD 5 x&&ys.all (flD 5))=Aa then .ok (.bl (!ys.any λy=>eqD y x)) else .bad
  |.NotIn,x,.tup ys=>if (flD 5 x&&ys.all (flD 5))=Aa then .ok (.bl (!ys.any λy=>eqD y x)) else .bad
  |.Is,.non,.non=>.ok (.bl Aa)
  |.Is,.bl _,.non=>.ok (.bl Ae)
  |.Is,.int _,.non=>.ok (.bl Ae)
  |.Is,.str _,.non=>.ok (.bl Ae)
  |.Is,.tup _,.non=>.ok (.bl Ae)
  |.Is,.lst _,.non=>.ok (.bl Ae)
  |.Is,.obj _ _,.non=>.ok (.bl Ae)
  |.Is,.bl a,.bl b=>.ok (.bl (a==b))
  |.IsNot,.bl a,.bl b=>.ok (.bl (!(a==b)))
  |.IsNot,.non,.non=>.ok (.bl Ae)
  |.IsNot,.bl _,.non=>.ok (.bl Aa)
  |.IsNot,.int _,.non=>.ok (.bl Aa)
  |.IsNot,.str _,.non=>.ok (.bl Aa)
  |.IsNot,.tup _,.non=>.ok (.bl Aa)
  |.IsNot,.lst _,.non=>.ok (.bl Aa)
  |.IsNot,.obj _ _,.non=>.ok (.bl Aa)
  |_,_,_=>.bad
noncomputable def CJ:D->R Ak
 |.non=>.ok Ae
 |.bl b=>.ok b
 |.int i=>.ok (i != 0)
 |.str x=>if Do x.length=Aa then .ok (x.length != 0) else .bad
 |.tup xs=>.ok (!xs.isEmpty)
 |.lst xs=>.ok (!xs.isEmpty)
 |_=>.bad
noncomputable def plD(n:Ag)(i:Ad):Aq Ag:=if 0<=i then (if i<n then Ab i.toNat else Af) else if -(n:Ad)<=i then Ab (i+n).toNat else Af
noncomputable def DA(xs:Ac D)(i:Ad):R D:=match plD xs.length i with
  |some k=>match xs[k]? with
    |some d=>.ok d
    |none=>.bad
  |none=>.bad
noncomputable def ay(kvs:Ac (Ac Ad×D))(k:Ac Ad):Aq D:=(kvs.find? λp=>p.1==k).map (·.2)
noncomputable def Wp(kvs:Ac (Ac Ad×D))(k:Ac Ad)(v:D):Ac (Ac Ad×D):=if (kvs.any λp=>p.1==k)=Aa then kvs.map (λp=>if (p.1==k)=Aa then (k,v) else p) else kvs++[(k,v)]
noncomputable def B8:D->D->R D
  |.lst xs,.int i=>DA xs i
  |.tup xs,.int i=>DA xs i
  |.dic kvs,k=>match (LO k).bind (ay kvs) with
    |some d=>.ok d
    |none=>.bad
  |_,_=>.bad
noncomputable def EX:D->R Ad
 |.int i=>.ok i
 |_=>.bad
noncomputable def Ek:D->R Ak
 |.bl b=>.ok b
 |_=>.bad
noncomputable def Ch:D->R (Ac D)
 |.lst xs=>.ok xs
 |.tup xs=>.ok xs
 |_=>.bad
noncomputable def LF:D->R (Ac D)
 |.lst xs=>.ok xs
 |_=>.bad
inductive BI where
 |len|abs|max|min|int|list|tuple|all|any|sum|sorted|str|count|stp|lset|tmin|tmax|tlt|rvs
 deriving DecidableEq,Inhabited
inductive Ki where
 |int|bool|str|list|tuple|verr|cls (c:Ag)
 deriving DecidableEq,Inhabited
mutual
inductive E where
 |non|bl (b:Ak)|int (i:Ad)|str (x:An)
 |var (i:Ag)|glob (g:Ag)
 |bin (op:Gn) (a b:E)|un (op:J7) (a:E)|no (a:E)
 |and (es:Es)|or (es:Es)
 |cmp (op:DI) (a b:E)|cmp2 (op op':DI) (a b c:E)
 |ite (c a b:E)
 |call (f:Ag) (as:Es)|bi (b:BI) (as:Es)
 |isi (a:E) (ks:Ac Ki)
 |idx (a i:E)|sl (a lo hi:E)
 |tup (es:Es)|lst (es:Es)
 |comp (elt:E) (t:Ag) (it:I) (c:E)|compT (elt:E) (ts:Ac Ag) (it:I) (c:E)|tupI (it:I)|dnew
 |fld (o:E) (f:An)
inductive Es where
 |nil|cons (e:E) (es:Es)
inductive I where
 |e (a:E)|rng (a:E)|rng2 (a b:E)|zip (a b:E)|zip3 (a b c:E)|enm (a:E)
end
abbrev Sl:=Aq (D×Ak)
abbrev Rho:=Ac Sl
structure Gam where
 F:Ag->Ac D->R D
 G:Ag->D
 up:Ag->Ac Ag
 /-- the defs whose answer is a new list -/
 fr:Ag->Ak
 /-- what is raised: the class,what it is made of -/
 xn:Ag->Ac D->R Ex
noncomputable def CK(lo:Ad)(n:Ag):Ac D:=(AT n).map fun(k:Ag)=>D.int (lo+(k:Ad))
noncomputable def CI(lo hi:Ad):R (Ac D):=if (-(4611686018427387904:Ad)<=lo/\lo<4611686018427387904)/\(-(4611686018427387904:Ad)<=hi/\hi<4611686018427387904)/\hi-lo<1000000 then .ok (CK lo (hi-lo).toNat) else .bad
noncomputable def kiD(up:Ag->Ac Ag):Ki->D->Ak
 |.int,.int _=>Aa
 |.int,.bl _=>Aa
 |.bool,.bl _=>Aa
 |.str,.str _=>Aa
 |.list,.lst _=>Aa
 |.tuple,.tup _=>Aa
 |.cls c,.obj k _=>(up k).contains c
 |.cls c,.exc k _=>(up k).contains c
 |.verr,.exc _ _=>Aa
 |_,_=>Ae
noncomputable def FE:Ki->Ak
 |.cls _=>Aa
 |.verr=>Aa
 |_=>Ae
noncomputable def FQ(up:Ag->Ac Ag)(ks:Ac Ki)(x:D):R D:=match x with
  |.obj _ _=>.bad
  |.exc _ _=>if ks.all FE=Aa then .ok (.bl (ks.any λk=>kiD up k x)) else .bad
  |.dic _=>.bad
  |_=>if ks.any FE=Aa then .bad else .ok (.bl (ks.any λk=>kiD up k x))
noncomputable def EN:D->R Ak
 |.non=>.ok Ae
 |.bl b=>.ok b
 |.int i=>.ok (i != 0)
 |_=>.bad
noncomputable def FD:Ac D->R Ak
 |[]=>.ok Aa
 |x::r=>(EN x).bind λb=>(FD r).bind λc=>.ok (b&&c)
noncomputable def F6:Ac D->R Ak
 |[]=>.ok Ae
 |x::r=>(EN x).bind λb=>(F6 r).bind λc=>.ok (b||c)
noncomputable def GW:Ad->Ac D->R Ad
 |a,[]=>.ok a
 |a,.int i::r=>GW (a+i) r
 |_,_=>.bad
noncomputable def EF:Ac D->Ac D->Ac D
 |x::xs,y::ys=>.tup [x,y]::EF xs ys
 |_,_=>[]
noncomputable def RD:Ac D->Ac D->Ac D->Ac D
 |x::xs,y::ys,z::zs=>.tup [x,y,z]::RD xs ys zs
 |_,_,_=>[]
noncomputable def Lx(x y z:D):R (Ac D):=(Ch x).bind λxs=>(Ch y).bind λys=>(Ch z).bind λzs=>if 0<xs.length/\xs.length<=1000/\ys.length=xs.length/\zs.length=xs.length then .ok (RD xs ys zs) else .bad
noncomputable def EQ:Ad->Ac D->Ac D
 |_,[]=>[]
 |i,x::xs=>.tup [.int i,x]::EQ (i+1) xs
noncomputable def nlD:Ag->D->Ak
 |_,.non=>Aa
 |_,.bl _=>Aa
 |_,.int _=>Aa
 |_,.str _=>Aa
 |n+1,.tup xs=>xs.all (nlD n)
 |_,_=>Ae
noncomputable def LR(fr:Ak):D->Ak
 |.lst ds=>fr&&ds.all (nlD 5)
 |d=>nlD 5 d
noncomputable def Hu:Ac D->Aq (Ac Ad)
 |[]=>Ab []
 |.int i::r=>(Hu r).map (i :: ·)
 |_=>Af
noncomputable def IJ(i:Ad):Ac Ad->Ad
 |[]=>i
 |j::r=>IJ (if j<i then j else i) r
noncomputable def pk2(k n:Ag):Ac Ag:=(AT ((n-min k n+1)/2)).map λj=>min k n+2*j
noncomputable def So(k:Ag)(xs:Ac D):Ac D:=(pk2 k xs.length).filterMap λi=>xs[i]?
noncomputable def ddS(acc:Ac Ad)(x:Ad):Ac Ad:=if acc.any (· == x)=Aa then acc else acc++[x]
noncomputable def ddN(is:Ac Ad):Ag:=(is.foldl ddS []).length
noncomputable def Ow(xs:Ac D):R D:=match Hu xs with
  |some is=>if Ed is.length 4000=Aa then .ok (.int (ddN is)) else .bad
  |none=>.bad
noncomputable def mmD(mx:Ak)(x y:D):R D:=if [x,y].all (λd=>rkD 1 d && !eqD d (.tup []))=Aa then .ok (if (if mx=Aa then ltD 1 x y else ltD 1 y x)=Aa then y else x) else .bad
noncomputable def Sr(x y:D):R D:=if [x,y].all (λd=>rkD 1 d && !eqD d (.tup []))=Aa then .ok (.bl (ltD 1 x y)) else .bad
noncomputable def Gv(k:Ac Ad):Ad:=reduceHash (Builtin.Tuple.tupleHashOf (k.map hashInt))
noncomputable def LD:Ac D->Aq (Ac (Ac Ad))
 |[]=>Ab []
 |.tup xs::r=>(Hu xs).bind λk=>(LD r).map (k :: ·)
 |_=>Af
noncomputable def Ii:Ac Ad->Ak
 |[]=>Aa
 |h::r=>!r.contains h&&Ii r
noncomputable def R5(xs:Ac D):R D:=match LD xs with
  |some ks=>if (Ed ks.length 3&&Ii (ks.map Gv))=Aa then .ok (.int ks.length) else .bad
  |none=>.bad
noncomputable def biD:BI->Ac D->R D
  |.len,[.lst xs]=>.ok (.int xs.length)
  |.len,[.tup xs]=>.ok (.int xs.length)
  |.len,[.str x]=>if Do x.length=Aa then .ok (.int x.length) else .bad
  |.abs,[.int i]=>.ok (.int (if i<0 then -i else i))
  |.max,[.int i,.int j]=>.ok (.int (if i<j then j else i))
  |.min,[.int i,.int j]=>.ok (.int (if j<i then j else i))
  |.min,[.lst xs]=>match Hu xs with
    |some (i::is)=>.ok (.int (IJ i is))
    |_=>.bad
  |.int,[.int i]=>.ok (.int i)
  |.int,[.bl b]=>.ok (.int (b2i b))
  |.list,[.lst xs]=>.ok (.lst xs)
  |.list,[.tup xs]=>.ok (.lst xs)
  |.tuple,[.lst xs]=>.ok (.tup xs)
  |.tuple,[.tup xs]=>.ok (.tup xs)
  |.all,[.lst xs]=>(FD xs).bind λb=>.ok (.bl b)
  |.any,[.lst xs]=>(F6 xs).bind λb=>.ok (.bl b)
  |.any,[.tup xs]=>(F6 xs).bind λb=>.ok (.bl b)
  |.sum,[.lst xs]=>(GW 0 xs).bind λi=>.ok (.int i)
  |.sum,[.tup xs]=>(GW 0 xs).bind λi=>.ok (.int i)
  |.sorted,[.lst xs]=>(Vf xs).bind λys=>.ok (.lst ys)
  |.count,[.lst xs,x]=>if (flD 5 x&&xs.all (flD 5))=Aa then .ok (.int ((xs.filter λy=>eqD y x).length:Ag)) else .bad
  |.len,[.dic kvs]=>.ok (.int kvs.length)
  |.stp,[.lst xs,.int k]=>.ok (.lst (So k.toNat xs))
  |.lset,[.lst xs]=>Ow xs
  |.lset,[.tup xs]=>R5 xs
  |.tmin,[x,y]=>mmD Ae x y
  |.tmax,[x,y]=>mmD Aa x y
  |.tlt,[x,y]=>Sr x y
  |.rvs,[.lst xs]=>.ok (.lst xs.reverse)
  |_,_=>.bad
noncomputable def slE(c:E)(d:D):R (Aq Ad):=match c with
  |.non=>.ok Af
  |_=>(EX d).bind λi=>.ok (Ab i)
noncomputable def Gx(n d:Ag):Aq Ad->Ag
 |none=>d
 |some i=>if i<0 then (i+n).toNat else min i.toNat n
noncomputable def LQ(xs:Ac D)(lo hi:Aq Ad):Ac D:=(xs.drop (Gx xs.length 0 lo)).take (Gx xs.length xs.length hi-Gx xs.length 0 lo)
noncomputable def slD:D->Aq Ad->Aq Ad->R D
 |.lst xs,l,h=>.ok (.lst (LQ xs l h))
 |.tup xs,l,h=>if (Gx xs.length 0 l==0&&Gx xs.length xs.length h==xs.length)=Aa then .bad else .ok (.tup (LQ xs l h))
 |_,_,_=>.bad
noncomputable def Sw:D->An->R D
  |.exc _ fs,f=>match fs.lookup f with
    |some d=>.ok d
    |none=>.bad
  |_,_=>.bad
noncomputable def F7(U:Rho)(i:Ag):R D:=match U[i]? with
  |some (Ab (d,Ae))=>.ok d
  |_=>.bad
noncomputable def Fn(U:Rho)(i:Ag):R D:=match U[i]? with
  |some (Ab (d,_))=>.ok d
  |_=>.bad
noncomputable def shE(U:Rho):E->Ak
  | .var i=>(match U[i]? with
    |some (Ab (_,Aa))=>Ae
    | _=>Aa)
  |_=>Aa
noncomputable def J4(U:Rho):Es->Ak
 |.nil=>Aa
 |.cons e es=>shE U e&&J4 U es
noncomputable def EW:Ac Ag->Ac D->Rho->Aq Rho
 |[],[],U=>Ab U
 |t::ts,d::ds,U=>EW ts ds (U.set t (Ab (d,Ae)))
 |_,_,_=>Af
noncomputable def F4(ts:Ac Ag)(d:D)(U:Rho):R Rho:=match d with
  | .tup xs=>(match EW ts xs U with
    |some U'=>.ok U'
    | none=>.bad)
  |_=>.bad
noncomputable def Js(ts:Ac Ag)(d:D)(U:Rho):R Rho:=match d with
  | .lst xs=>(match EW ts xs U with
    |some U'=>.ok U'
    | none=>.bad)
  |d=>F4 ts d U
noncomputable def BK(g:D->R Ak)(f:D->R D):Ac D->R (Ac D)
 |[]=>.ok []
 |x::xs=>(g x).bind λb=>if b=Aa then (f x).bind λy=>(BK g f xs).bind λys=>.ok (y::ys) else BK g f xs
noncomputable def noX{α:Type}:R α->R α
 |.ok a=>.ok a
 |_=>.bad
noncomputable def top(U:Rho)(e:E)(r:R D):R D:=match e with
  |.var i=>Fn U i
  |_=>r
mutual
noncomputable def evE(Z:Gam)(U:Rho):E->R D
 |.non=>.ok .non
 |.bl b=>.ok (.bl b)
 |.int i=>.ok (.int i)
 |.str x=>.ok (.str x)
 |.var i=>F7 U i
 |.glob g=>.ok (Z.G g)
 |.bin op a b=>(top U a (evE Z U a)).bind λx=>(top U b (evE Z U b)).bind λy=>Dj op x y
 |.un op a=>(top U a (evE Z U a)).bind λx=>unD op x
 |.no a=>(top U a (evE Z U a)).bind λx=>(Ek x).bind λb=>.ok (.bl (!b))
 |.and es=>evN Z U es
 |.or es=>evO Z U es
 |.cmp op a b=>(top U a (evE Z U a)).bind λx=>(top U b (evE Z U b)).bind λy=>B9 op x y
 |.cmp2 op op' a b c=>(top U a (evE Z U a)).bind λx=>(top U b (evE Z U b)).bind λy=>(B9 op x y).bind λz=>(Ek z).bind λk=>if k=Aa then (top U c (evE Z U c)).bind λu=>B9 op' y u else .ok (.bl Ae)
 |.ite c a b=>(top U c (evE Z U c)).bind λx=>(CJ x).bind λk=>if k=Aa then evE Z U a else evE Z U b
 |.call f as=>(evB Z U as).bind λxs=>(Z.F f xs).bind λd=>if J4 U as=Aa then .ok d else if LR (Z.fr f) d=Aa then .ok d else .bad
 |.bi b as=>(evB Z U as).bind λxs=>biD b xs
 |.isi a ks=>(top U a (evE Z U a)).bind λx=>FQ Z.up ks x
 |.idx a i=>(top U a (evE Z U a)).bind λx=>(top U i (evE Z U i)).bind λy=>B8 x y
 |.sl a lo hi=>(top U a (evE Z U a)).bind λx=>(top U lo (evE Z U lo)).bind λl=>(slE lo l).bind λl'=>(top U hi (evE Z U hi)).bind λh=>(slE hi h).bind λh'=>slD x l' h'
 |.tup es=>(evA Z U es).bind λxs=>.ok (.tup xs)
 |.lst es=>(evA Z U es).bind λxs=>.ok (.lst xs)
 |.comp elt t it c=>(evI Z U it).bind λxs=>(noX (BK (λx=>(top (U.set t (Ab (x,Ae))) c (evE Z (U.set t (Ab (x,Ae))) c)).bind CJ) (λx=>evE Z (U.set t (Ab (x,Ae))) elt) xs)).bind λys=>.ok (.lst ys)
 |.compT elt ts it c=>(evI Z U it).bind λxs=>(noX (BK (λx=>(F4 ts x U).bind λU'=>(top U' c (evE Z U' c)).bind CJ) (λx=>(F4 ts x U).bind λU'=>evE Z U' elt) xs)).bind λys=>.ok (.lst ys)
 |.tupI it=>(evI Z U it).bind λxs=>.ok (.tup xs)
 |.dnew=>.ok (.dic [])
 |.fld o f=>(top U o (evE Z U o)).bind λx=>Sw x f
noncomputable def evN(Z:Gam)(U:Rho):Es->R D
 |.nil=>.bad
 |.cons e .nil=>evE Z U e
 |.cons e (.cons e' es)=>(evE Z U e).bind λx=>(Ek x).bind λc=>if c=Aa then evN Z U (.cons e' es) else .ok (.bl Ae)
noncomputable def evO(Z:Gam)(U:Rho):Es->R D
 |.nil=>.bad
 |.cons e .nil=>evE Z U e
 |.cons e (.cons e' es)=>(evE Z U e).bind λx=>(Ek x).bind λc=>if c=Aa then .ok (.bl Aa) else evO Z U (.cons e' es)
noncomputable def evA(Z:Gam)(U:Rho):Es->R (Ac D)
 |.nil=>.ok []
 |.cons e es=>(evE Z U e).bind λx=>(evA Z U es).bind λxs=>.ok (x::xs)
noncomputable def evB(Z:Gam)(U:Rho):Es->R (Ac D)
 |.nil=>.ok []
 |.cons e es=>(top U e (evE Z U e)).bind λx=>(evB Z U es).bind λxs=>.ok (x::xs)
noncomputable def evI(Z:Gam)(U:Rho):I->R (Ac D)
 |.e a=>(evE Z U a).bind Ch
 |.rng a=>(top U a (evE Z U a)).bind λx=>(EX x).bind λj=>CI 0 j
 |.rng2 a b=>(top U a (evE Z U a)).bind λx=>(top U b (evE Z U b)).bind λy=>(EX x).bind λi=>(EX y).bind λj=>CI i j
 |.zip a b=>(evE Z U a).bind λx=>(evE Z U b).bind λy=>(Ch x).bind λxs=>(Ch y).bind λys=>.ok (EF xs ys)
 |.zip3 a b c=>(evE Z U a).bind λx=>(evE Z U b).bind λy=>(evE Z U c).bind λz=>Lx x y z
 |.enm a=>(evE Z U a).bind λx=>(Ch x).bind λxs=>.ok (EQ 0 xs)
end
noncomputable def DR(Z:Gam):E->Ak
 |.lst _=>Aa
 |.comp _ _ _ _=>Aa
 |.compT _ _ _ _=>Aa
 |.dnew=>Aa
 |.bin .Add _ _=>Aa
 |.bi .list _=>Aa
 |.bi .sorted _=>Aa
 |.sl _ _ _=>Aa
 |.call f _=>Z.fr f
 |_=>Ae
mutual
inductive S where
 |pass
 /-- x=e;fresh: x alone holds the new list -/
 |asg (i:Ag) (fresh:Ak) (e:E)
 /-- a,b,..=e -/
 |asgT (ts:Ac Ag) (e:E)
 |expr (e:E)
 |ret (e:E)|retN
 |ife (c:E) (a b:Ss)
 |fors (t:Ag) (it:I) (body:Ss)
 |forT (ts:Ac Ag) (it:I) (body:Ss)
 |whl (c:E) (body:Ss)
 /-- raise C(e,..) -/
 |rais (c:Ag) (as:Es)
 /-- try: body except C as x: h -/
 |tryx (body:Ss) (c:Ag) (x:Ag) (h:Ss)
 /-- .. except C as x: h,except C' as x: h',else: els -/
 |try2 (body:Ss) (c:Ag) (x:Ag) (h:Ss) (c':Ag) (h' els:Ss)
 /-- x.append(e),x.extend(e),x.insert(k,e),x.reverse(),x.clear() -/
 |app (i:Ag) (e:E)|ext (i:Ag) (e:E)|ins (i:Ag) (k e:E)|rev (i:Ag)|clr (i:Ag)
 /-- d[k]=e,d.setdefault(k,e) -/
 |dput (i:Ag) (k e:E)|dsd (i:Ag) (k e:E)
 /-- x[k]=e -/
 |put (i:Ag) (k e:E)
 /-- x[k],x[l]=x[l],x[k] -/
 |swp (i k l:Ag)
 /-- x.append(y.pop(e)) -/
 |apop (j i:Ag) (e:E)
 |brk|cont
 /-- nothing: from here on x is no longer changed -/
 |rel (i:Ag)
inductive Ss where
 |nil|cons (s:S) (ss:Ss)
end
inductive O where
 |next (U:Rho)|ret (d:D) (fr:Ak)|brk (U:Rho)|cont (U:Rho)|exn (x:Ex) (U:Rho)|bad
 deriving Inhabited
noncomputable def O.of{α:Type}(U:Rho)(r:R α)(f:α->O):O:=match r with
  |.ok a=>f a
  |.exn x=>.exn x U
  |.bad=>.bad
@[simp]theorem O.of_ok(U:Rho)(a:α)(f:α->O):O.of U (.ok a) f=f a:=rfl
@[simp]theorem O.of_exn(U:Rho)(x:Ex)(f:α->O):O.of U (.exn x:R α) f=.exn x U:=rfl
@[simp]theorem O.of_bad(U:Rho)(f:α->O):O.of U (.bad:R α) f=.bad:=rfl
noncomputable def F9(Z:Gam)(U:Rho)(i:I):R (Ac D):=evI Z U i
noncomputable def Dc(U:Rho)(i:Ag):R (Ac D):=match U[i]? with
  |some (Ab (.lst xs,Aa))=>.ok xs
  |_=>.bad
noncomputable def SV(U:Rho)(i:Ag):R (Ac (Ac Ad×D)):=match U[i]? with
  |some (Ab (.dic xs,Aa))=>.ok xs
  |_=>.bad
noncomputable def W9(d:D):R (Ac Ad):=match LO d with
  |some k=>.ok k
  |none=>.bad
noncomputable def W5:Ag:=4096
noncomputable def O.seq(o:O)(f:Rho->O):O:=match o with
  |.next U=>f U
  |.ret d b=>.ret d b
  |.brk U=>.brk U
  |.cont U=>.cont U
  |.exn x U=>.exn x U
  |.bad=>.bad
noncomputable def O.turn(o:O)(f:Rho->O):O:=match o with
  |.next U=>f U
  |.cont U=>f U
  |.brk U=>.next U
  |.ret d b=>.ret d b
  |.exn x U=>.exn x U
  |.bad=>.bad
noncomputable def Cq(body:D->Rho->O):Ac D->Rho->O
 |[],U=>.next U
 |x::xs,U=>(body x U).turn (Cq body xs)
noncomputable def Sc(c:Rho->R Ak)(body:Rho->O):Ag->Rho->O
 |0,_=>.bad
 |n+1,U=>O.of U (c U) λb=>if b=Aa then (body U).turn (Sc c body n) else .next U
noncomputable def W2(U:Rho)(k:Ag):R Ad:=(F7 U k).bind EX
noncomputable def cW(U:Rho)(d:D)(i k l:Ag):O:=match d with
  |.tup [x,y]=>O.of U (Dc U i) λxs=>O.of U (W2 U k) λa=>O.of U (W2 U l) λb=>match plD xs.length a,plD xs.length b with
    |some m,Ab n=>.next (U.set i (Ab (.lst ((xs.set m x).set n y),Aa)))
    |_,_=>.bad
  |_=>.bad
noncomputable def apD(U:Rho)(j i:Ag)(ys xs:Ac D)(n:Ad):O:=match plD xs.length n with
  | some m=>(match xs[m]? with
    |some d=>if (j != i&&(Do xs.length&&Do (ys.length+1)))=Aa then .next ((U.set i (Ab (.lst (xs.eraseIdx m),Aa))).set j (Ab (.lst (ys++[d]),Aa))) else .bad
    | none=>.bad)
  |none=>.bad
noncomputable def hdO(i:Ag)(y:Ex)(U':Rho)(fh:Rho->O):O:=match fh (U'.set i (Ab (.exc y.c y.fs,Ae))) with
  |.next U''=>.next (U''.set i Af)
  |.ret d f=>.ret d f
  |_=>.bad
mutual
noncomputable def evS(Z:Gam)(U:Rho):S->O
  |.pass=>.next U
  | .asg i fresh e=>O.of U (evE Z U e) λd=>if fresh=Aa then (if DR Z e=Aa then (match d with
      |.lst xs=>.next (U.set i (Ab (.lst xs,Aa)))
      |.dic xs=>.next (U.set i (Ab (.dic xs,Aa)))
      | _=>.bad) else .bad) else .next (U.set i (Ab (d,Ae)))
  |.asgT ts e=>O.of U (evE Z U e) λd=>O.of U (Js ts d U) λU'=>.next U'
  |.expr e=>O.of U (evE Z U e) λ_=>.next U
  |.ret e=>O.of U (top U e (evE Z U e)) λd=>.ret d (DR Z e||(match e with | .var i=>(match U[i]? with|some (Ab (_,o))=>o|_=>Ae)|_=>Ae))
  |.retN=>.ret .non Ae
  |.ife c a b=>O.of U ((top U c (evE Z U c)).bind CJ) λk=>if k=Aa then evSs Z U a else evSs Z U b
  |.fors t it body=>O.of U (F9 Z U it) λxs=>Cq (λx U'=>evSs Z (U'.set t (Ab (x,Ae))) body) xs U
  |.forT ts it body=>O.of U (F9 Z U it) λxs=>Cq (λx U'=>O.of U' (F4 ts x U') λU''=>evSs Z U'' body) xs U
  |.whl c body=>Sc (λU'=>(top U' c (evE Z U' c)).bind CJ) (λU'=>evSs Z U' body) W5 U
  |.rais c as=>O.of U (noX (evA Z U as)) λxs=>O.of U (Z.xn c xs) λx=>.exn x U
  |.tryx body c x h=>match evSs Z U body with
      | .exn y U'=>if (Z.up y.c).contains c=Aa then (match evSs Z (U'.set x (Ab (.exc y.c y.fs,Ae))) h with
          |.next U''=>.next (U''.set x Af)
          |.ret d f=>.ret d f
          | _=>.bad) else .bad
      |o=>o
  |.try2 body c x h c' h' els=>match evSs Z U body with
      |.exn y U'=>if (Z.up y.c).contains c=Aa then hdO x y U' (λr=>evSs Z r h) else if (Z.up y.c).contains c'=Aa then hdO x y U' (λr=>evSs Z r h') else .bad
      |.next U'=>evSs Z U' els
      |o=>o
  |.app i e=>O.of U (Dc U i) λxs=>O.of U (evE Z U e) λd=>if Do (xs.length+1)=Aa then .next (U.set i (Ab (.lst (xs++[d]),Aa))) else .bad
  |.ext i e=>O.of U (Dc U i) λxs=>O.of U (evE Z U e) λd=>O.of U (LF d) λys=>if Do (xs.length+ys.length)=Aa then .next (U.set i (Ab (.lst (xs++ys),Aa))) else .bad
  |.ins i k e=>O.of U (Dc U i) λxs=>O.of U ((top U k (evE Z U k)).bind EX) λj=>O.of U (evE Z U e) λd=>if (Do (xs.length+1)&&decide (0<=j)&&decide (j<=xs.length))=Aa then .next (U.set i (Ab (.lst (xs.take j.toNat++d::xs.drop j.toNat),Aa))) else .bad
  |.rev i=>O.of U (Dc U i) λxs=>.next (U.set i (Ab (.lst xs.reverse,Aa)))
  |.clr i=>O.of U (Dc U i) λ_=>.next (U.set i (Ab (.lst [],Aa)))
  |.dput i k e=>O.of U (evE Z U e) λd=>O.of U (SV U i) λxs=>O.of U ((evE Z U k).bind W9) λj=>if Do (xs.length+1)=Aa then .next (U.set i (Ab (.dic (Wp xs j d),Aa))) else .bad
  |.dsd i k e=>O.of U (SV U i) λxs=>O.of U ((evE Z U k).bind W9) λj=>O.of U (evE Z U e) λd=>if Do (xs.length+1)=Aa then .next (U.set i (Ab (.dic (if (xs.any λp=>p.1==j)=Aa then xs else Wp xs j d),Aa))) else .bad
  |.put i k e=>O.of U (evE Z U e) λd=>O.of U (Dc U i) λxs=>O.of U ((top U k (evE Z U k)).bind EX) λj=>match plD xs.length j with
      |some n=>.next (U.set i (Ab (.lst (xs.set n d),Aa)))
      |none=>.bad
  |.swp i k l=>O.of U (evE Z U (.tup (.cons (.idx (.var i) (.var l)) (.cons (.idx (.var i) (.var k)) .nil)))) λd=>cW U d i k l
  |.apop j i e=>O.of U (Dc U j) λys=>O.of U (Dc U i) λxs=>O.of U (evE Z U e) λd=>O.of U (EX d) λn=>apD U j i ys xs n
  |.brk=>.brk U
  |.cont=>.cont U
  |.rel i=>match U[i]? with
      |some (Ab (d,Aa))=>.next (U.set i (Ab (d,Ae)))
      |_=>.next U
noncomputable def evSs(Z:Gam)(U:Rho):Ss->O
 |.nil=>.next U
 |.cons s ss=>(evS Z U s).seq λU'=>evSs Z U' ss
end
structure Df where
 n:Ag
 fr:Ak
 body:Ss
noncomputable def Bo(n:Ag)(ds:Ac D):Rho:=ds.map (λd=>Ab (d,Ae))++G3 (n-ds.length) Af
noncomputable def isL:D->Ak
 |.lst _=>Aa
 |.dic _=>Aa
 |_=>Ae
noncomputable def O.ans(fr:Ak)(o:O):R D:=match o with
  |.ret d b=>if (fr&&(!b&&isL d))=Aa then .bad else .ok d
  |.next _=>if fr=Aa then .bad else .ok .non
  |.exn x _=>.exn x
  |_=>.bad
noncomputable def Df.run(Z:Gam)(f:Df)(ds:Ac D):R D:=(evSs Z (Bo f.n ds) f.body).ans f.fr
structure Prg where
 xs:Ak
 defs:Ag->Df
 G:Ag->D
 up:Ag->Ac Ag
 xn:Ag->Ac D->R Ex
noncomputable def Hv(xs:Ak)(r:R D):R D:=match xs with
  |true=>r
  |false=>noX r
noncomputable def gam(P:Prg):Ag->Gam
 |0=>⟨λ_ _=>.bad,P.G,P.up,λi=>(P.defs i).fr,P.xn⟩
 |n+1=>⟨λi ds=>Hv P.xs ((P.defs i).run (gam P n) ds),P.G,P.up,λi=>(P.defs i).fr,P.xn⟩
end Ov
end
section
namespace Ov
open PySem
variable{α:Type}{lo hi:Ad}{n:Ag}{x:D}
section
variable(Z:Gam)(U:Rho)
@[simp]theorem ZAZ:evE Z U .non=.ok .non:=rfl
@[simp]theorem ZCP(b):evE Z U (.bl b)=.ok (.bl b):=rfl
@[simp]theorem ZA3(b):evE Z U (.int b)=.ok (.int b):=rfl
@[simp]theorem ZAY(b):evE Z U (.str b)=.ok (.str b):=rfl
@[simp]theorem ZAX(i):evE Z U (.var i)=F7 U i:=rfl
@[simp]theorem Zxt(i):evE Z U (.glob i)=.ok (Z.G i):=rfl
@[simp]theorem rH(op a b):evE Z U (.bin op a b)=(top U a (evE Z U a)).bind λx=>(top U b (evE Z U b)).bind λy=>Dj op x y:=rfl
@[simp]theorem ZCL(op a):evE Z U (.un op a)=(top U a (evE Z U a)).bind λx=>unD op x:=rfl
@[simp]theorem ZCO(a):evE Z U (.no a)=(top U a (evE Z U a)).bind λx=>(Ek x).bind λb=>.ok (.bl (!b)):=rfl
@[simp]theorem ZA7(es):evE Z U (.and es)=evN Z U es:=rfl
@[simp]theorem ZCN(es):evE Z U (.or es)=evO Z U es:=rfl
@[simp]theorem ZAU(e):evN Z U (.cons e .nil)=evE Z U e:=rfl
@[simp]theorem Zxo(e e' es):evN Z U (.cons e (.cons e' es))=(evE Z U e).bind λx=>(Ek x).bind λc=>if c=Aa then evN Z U (.cons e' es) else .ok (.bl Ae):=rfl
@[simp]theorem ZAT(e):evO Z U (.cons e .nil)=evE Z U e:=rfl
@[simp]theorem Zxn(e e' es):evO Z U (.cons e (.cons e' es))=(evE Z U e).bind λx=>(Ek x).bind λc=>if c=Aa then .ok (.bl Aa) else evO Z U (.cons e' es):=rfl
@[simp]theorem ZA6(op a b):evE Z U (.cmp op a b)=(top U a (evE Z U a)).bind λx=>(top U b (evE Z U b)).bind λy=>B9 op x y:=rfl
@[simp]theorem Zxw(op op' a b c):evE Z U (.cmp2 op op' a b c)=(top U a (evE Z U a)).bind λx=>(top U b (evE Z U b)).bind λy=>(B9 op x y).bind λz=>(Ek z).bind λk=>if k=Aa then (top U c (evE Z U c)).bind λu=>B9 op' y u else .ok (.bl Ae):=rfl
@[simp]theorem ZA1(c a b):evE Z U (.ite c a b)=(top U c (evE Z U c)).bind λx=>(CJ x).bind λk=>if k=Aa then evE Z U a else evE Z U b:=rfl
@[simp]theorem Zxx(f as):evE Z U (.call f as)=(evB Z U as).bind λxs=>(Z.F f xs).bind λd=>if J4 U as=Aa then .ok d else if LR (Z.fr f) d=Aa then .ok d else .bad:=rfl
@[simp]theorem Wm(f as):evE Z U (.bi f as)=(evB Z U as).bind λxs=>biD f xs:=rfl
@[simp]theorem ZA2(a ks):evE Z U (.isi a ks)=(top U a (evE Z U a)).bind λx=>FQ Z.up ks x:=rfl
@[simp]theorem ZA4(a i):evE Z U (.idx a i)=(top U a (evE Z U a)).bind λx=>(top U i (evE Z U i)).bind λy=>B8 x y:=rfl
@[simp]theorem ZCM(a lo hi):evE Z U (.sl a lo hi)=(top U a (evE Z U a)).bind λx=>(top U lo (evE Z U lo)).bind λl=>(slE lo l).bind λl'=>(top U hi (evE Z U hi)).bind λh=>(slE hi h).bind λh'=>slD x l' h':=rfl
@[simp]theorem rG(es):evE Z U (.tup es)=(evA Z U es).bind λxs=>.ok (.tup xs):=rfl
@[simp]theorem ZA0(es):evE Z U (.lst es)=(evA Z U es).bind λxs=>.ok (.lst xs):=rfl
noncomputable def cG(Z:Gam)(U:Rho)(t:Ag)(c:E):D->R Ak:=λx=>(top (U.set t (Ab (x,Ae))) c (evE Z (U.set t (Ab (x,Ae))) c)).bind CJ
noncomputable def cF(Z:Gam)(U:Rho)(t:Ag)(elt:E):D->R D:=λx=>evE Z (U.set t (Ab (x,Ae))) elt
noncomputable def mkL(r:R (Ac D)):R D:=(noX r).bind λys=>.ok (.lst ys)
@[simp]theorem ZCo(ys):mkL (.ok ys)=.ok (.lst ys):=rfl
@[simp]theorem Zxv(elt t it c):evE Z U (.comp elt t it c)=(evI Z U it).bind λxs=>mkL (BK (cG Z U t c) (cF Z U t elt) xs):=rfl
noncomputable def cGT(Z:Gam)(U:Rho)(ts:Ac Ag)(c:E):D->R Ak:=λx=>(F4 ts x U).bind λU'=>(top U' c (evE Z U' c)).bind CJ
noncomputable def cFT(Z:Gam)(U:Rho)(ts:Ac Ag)(elt:E):D->R D:=λx=>(F4 ts x U).bind λU'=>evE Z U' elt
@[simp]theorem ZvE(elt ts it c):evE Z U (.compT elt ts it c)=(evI Z U it).bind λxs=>mkL (BK (cGT Z U ts c) (cFT Z U ts elt) xs):=rfl
@[simp]theorem Zxs(it):evE Z U (.tupI it)=(evI Z U it).bind λxs=>.ok (.tup xs):=rfl
@[simp]theorem Zxu:evE Z U .dnew=.ok (.dic []):=rfl
@[simp]theorem ZA5(o f):evE Z U (.fld o f)=(top U o (evE Z U o)).bind λx=>Sw x f:=rfl
@[simp]theorem ZA9:evA Z U .nil=.ok []:=rfl
@[simp]theorem UC(e es):evA Z U (.cons e es)=(evE Z U e).bind λx=>(evA Z U es).bind λxs=>.ok (x::xs):=rfl
@[simp]theorem ZA8:evB Z U .nil=.ok []:=rfl
@[simp]theorem UB(e es):evB Z U (.cons e es)=(top U e (evE Z U e)).bind λx=>(evB Z U es).bind λxs=>.ok (x::xs):=rfl
@[simp]theorem ZDR(a):evI Z U (.e a)=(evE Z U a).bind Ch:=rfl
@[simp]theorem rF(a):evI Z U (.rng a)=(top U a (evE Z U a)).bind λx=>(EX x).bind λj=>CI 0 j:=rfl
@[simp]theorem jA(a b):evI Z U (.rng2 a b)=(top U a (evE Z U a)).bind λx=>(top U b (evE Z U b)).bind λy=>(EX x).bind λi=>(EX y).bind λj=>CI i j:=rfl
@[simp]theorem ZAV(a b):evI Z U (.zip a b)=(evE Z U a).bind λx=>(evE Z U b).bind λy=>(Ch x).bind λxs=>(Ch y).bind λys=>.ok (EF xs ys):=rfl
@[simp]theorem Zxr(a b c):evI Z U (.zip3 a b c)=(evE Z U a).bind λx=>(evE Z U b).bind λy=>(evE Z U c).bind λz=>Lx x y z:=rfl
@[simp]theorem ZAW(a):evI Z U (.enm a)=(evE Z U a).bind λx=>(Ch x).bind λxs=>.ok (EQ 0 xs):=rfl
@[simp]theorem Zxp(a b):F9 Z U (.zip a b)=evI Z U (.zip a b):=rfl
@[simp]theorem ZvD(a b c):F9 Z U (.zip3 a b c)=evI Z U (.zip3 a b c):=rfl
@[simp]theorem Zxq(a):F9 Z U (.enm a)=evI Z U (.enm a):=rfl
@[simp]theorem ZCK(a):F9 Z U (.e a)=(evE Z U a).bind Ch:=rfl
@[simp]theorem iZ(a):F9 Z U (.rng a)=evI Z U (.rng a):=rfl
@[simp]theorem gB(a b):F9 Z U (.rng2 a b)=evI Z U (.rng2 a b):=rfl
variable(r:R D)
@[simp]theorem ZxW(i):top U (.var i) r=Fn U i:=rfl
@[simp]theorem ZxY:top U .non r=r:=rfl
@[simp]theorem ZBU(b):top U (.bl b) r=r:=rfl
@[simp]theorem Zx2(b):top U (.int b) r=r:=rfl
@[simp]theorem ZxX(b):top U (.str b) r=r:=rfl
@[simp]theorem ZwF(b):top U (.glob b) r=r:=rfl
@[simp]theorem nF(op a b):top U (.bin op a b) r=r:=rfl
@[simp]theorem ZBQ(op a):top U (.un op a) r=r:=rfl
@[simp]theorem ZBT(a):top U (.no a) r=r:=rfl
@[simp]theorem Zx6(a):top U (.and a) r=r:=rfl
@[simp]theorem ZBS(a):top U (.or a) r=r:=rfl
@[simp]theorem Zx5(op a b):top U (.cmp op a b) r=r:=rfl
@[simp]theorem ZwI(op op' a b c):top U (.cmp2 op op' a b c) r=r:=rfl
@[simp]theorem Zx0(a b c):top U (.ite a b c) r=r:=rfl
@[simp]theorem ZwJ(a b):top U (.call a b) r=r:=rfl
@[simp]theorem vD(a b):top U (.bi a b) r=r:=rfl
@[simp]theorem Zx1(a b):top U (.isi a b) r=r:=rfl
@[simp]theorem Zx3(a b):top U (.idx a b) r=r:=rfl
@[simp]theorem ZBR(a b c):top U (.sl a b c) r=r:=rfl
@[simp]theorem nE(a):top U (.tup a) r=r:=rfl
@[simp]theorem ZxZ(a):top U (.lst a) r=r:=rfl
@[simp]theorem ZwH(a b c d):top U (.comp a b c d) r=r:=rfl
@[simp]theorem Zx4(a b):top U (.fld a b) r=r:=rfl
@[simp]theorem ZsP(a b c d):top U (.compT a b c d) r=r:=rfl
@[simp]theorem ZwE(a):top U (.tupI a) r=r:=rfl
@[simp]theorem ZwG:top U .dnew r=r:=rfl
end
@[simp]theorem ZsC(x:D×Ak)(U:Rho):Fn (Ab x::U) 0=.ok x.1:=rfl
@[simp]theorem ZsD(x:D)(U:Rho):F7 (Ab (x,Ae)::U) 0=.ok x:=rfl
@[simp]theorem Zsd(x:Sl)(U:Rho)(i:Ag)[NeZero i]:Fn (x::U) i=Fn U (i-1):=by
 obtain⟨j,rfl⟩:∃ j,i=j+1:=⟨i-1,by have:=LV i;omega⟩
 rfl
@[simp]theorem Zse(x:Sl)(U:Rho)(i:Ag)[NeZero i]:F7 (x::U) i=F7 U (i-1):=by
 obtain⟨j,rfl⟩:∃ j,i=j+1:=⟨i-1,by have:=LV i;omega⟩
 rfl
noncomputable def shV(U:Rho)(i:Ag):Ak:=match U[i]? with
    |some (Ab (_,Aa))=>Ae
    |_=>Aa
@[simp]theorem ZwM(x:D)(b:Ak)(U:Rho):shV (Ab (x,b)::U) 0=!b:=by cases b<;>rfl
@[simp]theorem Ztf(U:Rho):shV (Af::U) 0=Aa:=rfl
@[simp]theorem Ztg(x:Sl)(U:Rho)(i:Ag)[NeZero i]:shV (x::U) i=shV U (i-1):=by
 obtain⟨j,rfl⟩:∃ j,i=j+1:=⟨i-1,by have:=LV i;omega⟩
 rfl
section
variable(U:Rho)
@[simp]theorem Zyv(i):shE U (.var i)=shV U i:=rfl
@[simp]theorem Zyy:shE U .non=Aa:=rfl
@[simp]theorem ZB9(b):shE U (.bl b)=Aa:=rfl
@[simp]theorem ZyC(b):shE U (.int b)=Aa:=rfl
@[simp]theorem Zyx(b):shE U (.str b)=Aa:=rfl
@[simp]theorem ZwP(b):shE U (.glob b)=Aa:=rfl
@[simp]theorem ZyG(op a b):shE U (.bin op a b)=Aa:=rfl
@[simp]theorem ZB5(op a):shE U (.un op a)=Aa:=rfl
@[simp]theorem ZB8(a):shE U (.no a)=Aa:=rfl
@[simp]theorem ZyH(a):shE U (.and a)=Aa:=rfl
@[simp]theorem ZB7(a):shE U (.or a)=Aa:=rfl
@[simp]theorem ZyF(op a b):shE U (.cmp op a b)=Aa:=rfl
@[simp]theorem ZwS(op op' a b c):shE U (.cmp2 op op' a b c)=Aa:=rfl
@[simp]theorem ZyA(a b c):shE U (.ite a b c)=Aa:=rfl
@[simp]theorem ZwT(a b):shE U (.call a b)=Aa:=rfl
@[simp]theorem ZCa(a b):shE U (.bi a b)=Aa:=rfl
@[simp]theorem ZyB(a b):shE U (.isi a b)=Aa:=rfl
@[simp]theorem ZyD(a b):shE U (.idx a b)=Aa:=rfl
@[simp]theorem ZB6(a b c):shE U (.sl a b c)=Aa:=rfl
@[simp]theorem Zyw(a):shE U (.tup a)=Aa:=rfl
@[simp]theorem Zyz(a):shE U (.lst a)=Aa:=rfl
@[simp]theorem ZwR(a b c d):shE U (.comp a b c d)=Aa:=rfl
@[simp]theorem Zth(a b c d):shE U (.compT a b c d)=Aa:=rfl
@[simp]theorem ZwO(a):shE U (.tupI a)=Aa:=rfl
@[simp]theorem ZwQ:shE U .dnew=Aa:=rfl
@[simp]theorem ZyE(a b):shE U (.fld a b)=Aa:=rfl
@[simp]theorem ZwN:J4 U .nil=Aa:=rfl
@[simp]theorem eZ(e es):J4 U (.cons e es)=(shE U e&&J4 U es):=rfl
end
@[simp]theorem Zsg(U:Rho):EW [] [] U=Ab U:=rfl
@[simp]theorem ZoO(t ts d ds)(U:Rho):EW (t::ts) (d::ds) U=EW ts ds (U.set t (Ab (d,Ae))):=rfl
@[simp]theorem iT(ts ds)(U:Rho):Js ts (.lst ds) U=match EW ts ds U with
  |some U'=>.ok U'
  |none=>.bad:=rfl
@[simp]theorem Zwe(ts ds)(U:Rho):Js ts (.tup ds) U=F4 ts (.tup ds) U:=rfl
@[simp]theorem Tq(ts ds)(U:Rho):F4 ts (.tup ds) U=match EW ts ds U with
  |some U'=>.ok U'
  |none=>.bad:=rfl
@[simp]theorem ZxH{β:Type}(c:Prop)[Gy c](a b:R α)(f:α->R β):(if c then a else b).bind f=if c then a.bind f else b.bind f:=by split<;>rfl
@[simp]theorem ZCl(U:Rho)(c:Prop)[Gy c](a b:R α)(f:α->O):O.of U (if c then a else b) f=if c then O.of U a f else O.of U b f:=by split<;>rfl
@[simp]theorem ZzY{β:Type}(U:Rho)(a:R α)(g:α->R β)(f:β->O):O.of U (a.bind g) f=O.of U a λx=>O.of U (g x) f:=by cases a<;>rfl
@[simp]theorem ZyJ(c:Prop)[Gy c](a b:O)(f:Rho->O):O.seq (if c then a else b) f=if c then a.seq f else b.seq f:=by split<;>rfl
@[simp]theorem Zwu(c:Prop)[Gy c](a b:O)(f:Rho->O):O.turn (if c then a else b) f=if c then a.turn f else b.turn f:=by split<;>rfl
@[simp]theorem ZBA(fr:Ak)(c:Prop)[Gy c](a b:O):O.ans fr (if c then a else b)=if c then a.ans fr else b.ans fr:=by split<;>rfl
@[simp]theorem ZwU(U f):O.seq (.next U) f=f U:=rfl
@[simp]theorem ZyI(d b f):O.seq (.ret d b) f=.ret d b:=rfl
@[simp]theorem ZyL(U f):O.seq (.brk U) f=.brk U:=rfl
@[simp]theorem ZwV(U f):O.seq (.cont U) f=.cont U:=rfl
@[simp]theorem ZyK(x U f):O.seq (.exn x U) f=.exn x U:=rfl
@[simp]theorem ZyM(f):O.seq .bad f=.bad:=rfl
@[simp]theorem ZsL(U f):O.turn (.next U) f=f U:=rfl
@[simp]theorem Zwt(d b f):O.turn (.ret d b) f=.ret d b:=rfl
@[simp]theorem Zww(U f):O.turn (.brk U) f=.next U:=rfl
@[simp]theorem ZsM(U f):O.turn (.cont U) f=f U:=rfl
@[simp]theorem Zwv(x U f):O.turn (.exn x U) f=.exn x U:=rfl
@[simp]theorem Zwx(f):O.turn .bad f=.bad:=rfl
@[simp]theorem ZxJ(U):O.ans Ae (.next U)=.ok .non:=rfl
@[simp]theorem ZBz(d b):O.ans Ae (.ret d b)=.ok d:=rfl
@[simp]theorem ZxI(d b):O.ans Aa (.ret d b)=if (!b&&isL d)=Aa then .bad else .ok d:=rfl
@[simp]theorem ZAw(d):isL (.lst d)=Aa:=rfl
@[simp]theorem ZAv(d):isL (.tup d)=Ae:=rfl
@[simp]theorem ZAx(d):isL (.int d)=Ae:=rfl
@[simp]theorem ZBB(fr x U):O.ans fr (.exn x U)=.exn x:=rfl
@[simp]theorem ZBC(fr):O.ans fr .bad=.bad:=rfl
@[simp]theorem ZCW(i j:Ad):Dj .Add (.int i) (.int j)=.ok (.int (i+j)):=rfl
@[simp]theorem ZBZ(i j:Ad):Dj .Sub (.int i) (.int j)=.ok (.int (i-j)):=rfl
@[simp]theorem yT(i j:Ad):Dj .Mult (.int i) (.int j)=if (DQ i j||EM i j)=Aa then .ok (.int (i*j)) else .bad:=rfl
@[simp]theorem rB(i j:Ad):Dj .FloorDiv (.int i) (.int j)=if 0<j/\j<1073741824 then .ok (.int (i/j)) else .bad:=rfl
@[simp]theorem yV(i j:Ad):Dj .Mod (.int i) (.int j)=if 0<j then .ok (.int (i%j)) else .bad:=rfl
@[simp]theorem zP(i j:Ad):Dj .Pow (.int i) (.int j)=if (0<=j/\j<=1000000)/\(-(18446744073709551616:Ad)<i/\i<18446744073709551616) then .ok (.int (i ^ j.toNat)) else .bad:=rfl
@[simp]theorem V3(x y:An):Dj .Add (.str x) (.str y)=if Do (x.length+y.length)=Aa then .ok (.str (x++y)) else .bad:=rfl
@[simp]theorem V4(x y:Ac D):Dj .Add (.lst x) (.lst y)=if Do (x.length+y.length)=Aa then .ok (.lst (x++y)) else .bad:=rfl
@[simp]theorem VZ(x y:Ac D):Dj .Add (.tup x) (.tup y)=if (!x.isEmpty&&Do (x.length+y.length))=Aa then .ok (.tup (x++y)) else .bad:=rfl
@[simp]theorem ZDv(i:Ad):unD .USub (.int i)=.ok (.int (-i)):=rfl
@[simp]theorem aD(x y:D):B9 .Eq x y=if (flD 5 x&&flD 5 y)=Aa then .ok (.bl (eqD x y)) else .bad:=rfl
@[simp]theorem jk(x y:D):B9 .NotEq x y=if (flD 5 x&&flD 5 y)=Aa then .ok (.bl (!eqD x y)) else .bad:=rfl
@[simp]theorem ZDw(i j:Ad):B9 .Lt (.int i) (.int j)=.ok (.bl (decide (i<j))):=rfl
@[simp]theorem ZDB(i j:Ad):B9 .LtE (.int i) (.int j)=.ok (.bl (decide (i<=j))):=rfl
@[simp]theorem ZDK(i j:Ad):B9 .Gt (.int i) (.int j)=.ok (.bl (decide (j<i))):=rfl
@[simp]theorem ZDL(i j:Ad):B9 .GtE (.int i) (.int j)=.ok (.bl (decide (j<=i))):=rfl
@[simp]theorem bP(x:D)(ys:Ac D):B9 .In x (.lst ys)=if (flD 5 x&&ys.all (flD 5))=Aa then .ok (.bl (ys.any λy=>eqD y x)) else .bad:=rfl
@[simp]theorem bO(x:D)(ys:Ac D):B9 .In x (.tup ys)=if (flD 5 x&&ys.all (flD 5))=Aa then .ok (.bl (ys.any λy=>eqD y x)) else .bad:=rfl
@[simp]theorem jg(x:D)(ys:Ac D):B9 .NotIn x (.lst ys)=if (flD 5 x&&ys.all (flD 5))=Aa then .ok (.bl (!ys.any λy=>eqD y x)) else .bad:=rfl
@[simp]theorem jf(x:D)(ys:Ac D):B9 .NotIn x (.tup ys)=if (flD 5 x&&ys.all (flD 5))=Aa then .ok (.bl (!ys.any λy=>eqD y x)) else .bad:=rfl
@[simp]theorem ZCz:B9 .Is .non .non=.ok (.bl Aa):=rfl
@[simp]theorem ZCB(i):B9 .Is (.int i) .non=.ok (.bl Ae):=rfl
@[simp]theorem ZCy(i):B9 .Is (.tup i) .non=.ok (.bl Ae):=rfl
@[simp]theorem ZCA(i):B9 .Is (.lst i) .non=.ok (.bl Ae):=rfl
@[simp]theorem ZDD(a b):B9 .Is (.bl a) (.bl b)=.ok (.bl (a==b)):=rfl
@[simp]theorem ZCw(a b):B9 .IsNot (.bl a) (.bl b)=.ok (.bl (!(a==b))):=rfl
@[simp]theorem ZAl:B9 .IsNot .non .non=.ok (.bl Ae):=rfl
@[simp]theorem ZAn(i):B9 .IsNot (.int i) .non=.ok (.bl Aa):=rfl
@[simp]theorem ZAk(i):B9 .IsNot (.tup i) .non=.ok (.bl Aa):=rfl
@[simp]theorem ZAm(i):B9 .IsNot (.lst i) .non=.ok (.bl Aa):=rfl
@[simp]theorem ZBf(i j:Ad):eqD (.int i) (.int j)=(i==j):=rfl
@[simp]theorem ZCQ(i j:Ak):eqD (.bl i) (.bl j)=(i==j):=rfl
@[simp]theorem ZBc(i j:An):eqD (.str i) (.str j)=(i==j):=rfl
@[simp]theorem ZBb(i j:Ac D):eqD (.tup i) (.tup j)=eqDs i j:=rfl
@[simp]theorem ZBe(i j:Ac D):eqD (.lst i) (.lst j)=eqDs i j:=rfl
@[simp]theorem ZBd:eqD .non .non=Aa:=rfl
@[simp]theorem ZqY(i):eqD .non (.int i)=Ae:=rfl
@[simp]theorem ZqZ(i):eqD (.int i) .non=Ae:=rfl
@[simp]theorem Zxy:eqDs [] []=Aa:=rfl
@[simp]theorem P7(x y:D)(xs ys:Ac D):eqDs (x::xs) (y::ys)=(eqD x y&&eqDs xs ys):=rfl
@[simp]theorem ZAK(n)(i:Ad):flD n (.int i)=Aa:=by cases n<;>rfl
@[simp]theorem ZCJ(n)(i:Ak):flD n (.bl i)=Aa:=by cases n<;>rfl
@[simp]theorem ZAI(n)(i:An):flD n (.str i)=Aa:=by cases n<;>rfl
@[simp]theorem ZAJ(n):flD n .non=Aa:=by cases n<;>rfl
@[simp]theorem Zw4(i):flD 5 (.tup i)=i.all (flD 4):=rfl
@[simp]theorem Zw9(i):flD 5 (.lst i)=i.all (flD 4):=rfl
@[simp]theorem Zw5(i):flD 4 (.tup i)=i.all (flD 3):=rfl
@[simp]theorem Zxa(i):flD 4 (.lst i)=i.all (flD 3):=rfl
@[simp]theorem Zw6(i):flD 3 (.tup i)=i.all (flD 2):=rfl
@[simp]theorem Zxb(i):flD 3 (.lst i)=i.all (flD 2):=rfl
@[simp]theorem Zw7(i):flD 2 (.tup i)=i.all (flD 1):=rfl
@[simp]theorem Zxc(i):flD 2 (.lst i)=i.all (flD 1):=rfl
@[simp]theorem Zw8(i):flD 1 (.tup i)=i.all (flD 0):=rfl
@[simp]theorem Zxd(i):flD 1 (.lst i)=i.all (flD 0):=rfl
@[simp]theorem ZxU(b):CJ (.bl b)=.ok b:=rfl
@[simp]theorem ZwB(i):CJ (.int i)=.ok (i != 0):=rfl
@[simp]theorem ZwA(i):CJ (.lst i)=.ok (!i.isEmpty):=rfl
@[simp]theorem Zwy(i):CJ (.tup i)=.ok (!i.isEmpty):=rfl
@[simp]theorem Zwz:CJ .non=.ok Ae:=rfl
@[simp]theorem ZxV(b):EN (.bl b)=.ok b:=rfl
@[simp]theorem ZwD(i):EN (.int i)=.ok (i != 0):=rfl
@[simp]theorem ZwC:EN .non=.ok Ae:=rfl
@[simp]theorem Zwm:FD []=.ok Aa:=rfl
@[simp]theorem Qk(x r):FD (x::r)=(EN x).bind λb=>(FD r).bind λc=>.ok (b&&c):=rfl
@[simp]theorem Zwl:F6 []=.ok Ae:=rfl
@[simp]theorem Ts(x r):F6 (x::r)=(EN x).bind λb=>(F6 r).bind λc=>.ok (b||c):=rfl
@[simp]theorem ZBn(b)(d):Hv b (.ok d)=.ok d:=by cases b<;>rfl
@[simp]theorem ZxA(b):Hv b .bad=.bad:=by cases b<;>rfl
@[simp]theorem Zxz(x):Hv Aa (.exn x)=.exn x:=rfl
@[simp]theorem Zsq(r):Hv Ae r=noX r:=rfl
@[simp]theorem ZzZ(a:α):noX (.ok a)=.ok a:=rfl
@[simp]theorem Zz1:noX (.bad:R α)=.bad:=rfl
@[simp]theorem Zz0(x):noX (.exn x:R α)=.bad:=rfl
@[simp]theorem ZBx(b):Ek (.bl b)=.ok b:=rfl
@[simp]theorem Nv(b):EX (.int b)=.ok b:=rfl
@[simp]theorem Ut(b):LF (.lst b)=.ok b:=rfl
@[simp]theorem Zwg(b):Ch (.lst b)=.ok b:=rfl
@[simp]theorem Zwf(b):Ch (.tup b)=.ok b:=rfl
@[simp]theorem ZO(xs i):B8 (.lst xs) (.int i)=DA xs i:=rfl
@[simp]theorem Z_5(xs i):B8 (.tup xs) (.int i)=DA xs i:=rfl
@[simp]theorem ZDy(xs):biD .len [.lst xs]=.ok (.int xs.length):=rfl
@[simp]theorem ZDx(xs):biD .len [.tup xs]=.ok (.int xs.length):=rfl
@[simp]theorem ZD1(i):biD .abs [.int i]=.ok (.int (if i<0 then -i else i)):=rfl
@[simp]theorem ZCq(i j):biD .max [.int i,.int j]=.ok (.int (if i<j then j else i)):=rfl
@[simp]theorem ZCp(i j):biD .min [.int i,.int j]=.ok (.int (if j<i then j else i)):=rfl
@[simp]theorem ZDE(i):biD .int [.int i]=.ok (.int i):=rfl
@[simp]theorem ZDF(i):biD .int [.bl i]=.ok (.int (b2i i)):=rfl
@[simp]theorem ZCu(i):biD .list [.lst i]=.ok (.lst i):=rfl
@[simp]theorem ZCt(i):biD .list [.tup i]=.ok (.lst i):=rfl
@[simp]theorem ZxT(i):biD .tuple [.lst i]=.ok (.tup i):=rfl
@[simp]theorem ZxS(i):biD .tuple [.tup i]=.ok (.tup i):=rfl
@[simp]theorem Z_6(i):biD .all [.lst i]=(FD i).bind λb=>.ok (.bl b):=rfl
@[simp]theorem ZD0(i):biD .any [.lst i]=(F6 i).bind λb=>.ok (.bl b):=rfl
@[simp]theorem ZDZ(i):biD .any [.tup i]=(F6 i).bind λb=>.ok (.bl b):=rfl
@[simp]theorem ZDm(i):biD .sum [.lst i]=(GW 0 i).bind λb=>.ok (.int b):=rfl
@[simp]theorem ZDl(i):biD .sum [.tup i]=(GW 0 i).bind λb=>.ok (.int b):=rfl
@[simp]theorem ZwL(i):biD .sorted [.lst i]=(Vf i).bind λb=>.ok (.lst b):=rfl
@[simp]theorem ZDn(xs k):biD .stp [.lst xs,.int k]=.ok (.lst (So k.toNat xs)):=rfl
@[simp]theorem ZDr(xs):biD .rvs [.lst xs]=.ok (.lst xs.reverse):=rfl
@[simp]theorem ZCr(xs):biD .lset [.lst xs]=Ow xs:=rfl
@[simp]theorem ZBV(x y):biD .tmin [x,y]=mmD Ae x y:=rfl
@[simp]theorem ZC6(x y):biD .tlt [x,y]=Sr x y:=rfl
@[simp]theorem ZBW(x y):biD .tmax [x,y]=mmD Aa x y:=rfl
@[simp]theorem ZBo(xs x):biD .count [.lst xs,x]=if (flD 5 x&&xs.all (flD 5))=Aa then .ok (.int ((xs.filter λy=>eqD y x).length:Ag)) else .bad:=rfl
@[simp]theorem cY(xs lo hi):slD (.tup xs) lo hi=if (Gx xs.length 0 lo==0&&Gx xs.length xs.length hi==xs.length)=Aa then .bad else .ok (.tup (LQ xs lo hi)):=rfl
@[simp]theorem ZEc(xs lo hi):slD (.lst xs) lo hi=.ok (.lst (LQ xs lo hi)):=rfl
@[simp]theorem Zys(d):slE .non d=.ok Af:=rfl
@[simp]theorem Zyt(k i):slE (.int k) (.int i)=.ok (Ab i):=rfl
@[simp]theorem Zyr(k i):slE (.var k) (.int i)=.ok (Ab i):=rfl
@[simp]theorem Zyu(op a b i):slE (.bin op a b) (.int i)=.ok (Ab i):=rfl
@[simp]theorem ZB3(op a i):slE (.un op a) (.int i)=.ok (Ab i):=rfl
@[simp]theorem ZB4(b as i):slE (.bi b as) (.int i)=.ok (Ab i):=rfl
@[simp]theorem ZAq(up ks):FQ up ks .non=if ks.any FE=Aa then .bad else .ok (.bl (ks.any λk=>kiD up k .non)):=rfl
@[simp]theorem ZCx(up ks b):FQ up ks (.bl b)=if ks.any FE=Aa then .bad else .ok (.bl (ks.any λk=>kiD up k (.bl b))):=rfl
@[simp]theorem ZAs(up ks b):FQ up ks (.int b)=if ks.any FE=Aa then .bad else .ok (.bl (ks.any λk=>kiD up k (.int b))):=rfl
@[simp]theorem ZAp(up ks b):FQ up ks (.str b)=if ks.any FE=Aa then .bad else .ok (.bl (ks.any λk=>kiD up k (.str b))):=rfl
@[simp]theorem ZAo(up ks b):FQ up ks (.tup b)=if ks.any FE=Aa then .bad else .ok (.bl (ks.any λk=>kiD up k (.tup b))):=rfl
@[simp]theorem ZAr(up ks b):FQ up ks (.lst b)=if ks.any FE=Aa then .bad else .ok (.bl (ks.any λk=>kiD up k (.lst b))):=rfl
@[simp]theorem ZAt(up ks c f):FQ up ks (.exc c f)=if ks.all FE=Aa then .ok (.bl (ks.any λk=>kiD up k (.exc c f))) else .bad:=rfl
@[simp]theorem ZxE(c):FE (.cls c)=Aa:=rfl
@[simp]theorem ZvQ:FE .verr=Aa:=rfl
@[simp]theorem ZxD:FE .int=Ae:=rfl
@[simp]theorem ZvS:FE .bool=Ae:=rfl
@[simp]theorem ZxC:FE .str=Ae:=rfl
@[simp]theorem ZvR:FE .list=Ae:=rfl
@[simp]theorem Zss:FE .tuple=Ae:=rfl
@[simp]theorem Zsl(up i):kiD up .int (.int i)=Aa:=rfl
@[simp]theorem Zsk(up):kiD up .int .non=Ae:=rfl
@[simp]theorem Zqx(up i):kiD up .bool (.int i)=Ae:=rfl
@[simp]theorem Zsj(up i):kiD up .int (.tup i)=Ae:=rfl
@[simp]theorem Zsn(up i):kiD up .bool (.bl i)=Aa:=rfl
@[simp]theorem Zqw(up):kiD up .bool .non=Ae:=rfl
@[simp]theorem Zqv(up i):kiD up .list (.lst i)=Aa:=rfl
@[simp]theorem ZnK(up i):kiD up .tuple (.tup i)=Aa:=rfl
@[simp]theorem ZnL(up):kiD up .tuple .non=Ae:=rfl
@[simp]theorem Zsm(up c k f):kiD up (.cls c) (.exc k f)=(up k).contains c:=rfl
@[simp]theorem Zqu(up k f):kiD up .verr (.exc k f)=Aa:=rfl
theorem iV(xs:Ac D)(k:Ag)(h:k<xs.length):DA xs (k:Ad)=.ok (xs[k]):=by
 unfold DA plD;have h1:(0:Ad)<=k:=Int.natCast_nonneg k;have h2:(k:Ad)<(xs.length:Ag):=by omega
 rw[AO h1,AO h2];simp[h]
theorem QE{xs:Ac D}{i:Ad}{d:D}(h0:0<=i)(h:xs[i.toNat]?=Ab d):DA xs i=.ok d:=by
 unfold DA plD;obtain⟨h1,_⟩:=Be.mp h;rw[AO h0,AO (by omega)]
 dsimp only;rw[h]
section
variable(Z:Gam)(U:Rho)
@[simp]theorem Zxe:evSs Z U .nil=.next U:=rfl
noncomputable def F8(Z:Gam)(ss:Ss)(o:O):O:=o.seq λU'=>evSs Z U' ss
@[simp]theorem K7(s ss):evSs Z U (.cons s ss)=F8 Z ss (evS Z U s):=rfl
@[simp]theorem qS(ss):F8 Z ss (.next U)=evSs Z U ss:=rfl
@[simp]theorem ZCD(ss d b):F8 Z ss (.ret d b)=.ret d b:=rfl
@[simp]theorem ZCG(ss):F8 Z ss (.brk U)=.brk U:=rfl
@[simp]theorem ZAF(ss):F8 Z ss (.cont U)=.cont U:=rfl
@[simp]theorem ZCF(ss x):F8 Z ss (.exn x U)=.exn x U:=rfl
@[simp]theorem ZCH(ss):F8 Z ss .bad=.bad:=rfl
@[simp]theorem ZCE(ss)(c:Prop)[Gy c](a b:O):F8 Z ss (if c then a else b)=if c then F8 Z ss a else F8 Z ss b:=by split<;>rfl
@[simp]theorem cn(o:O):F8 Z .nil o=o:=by cases o<;>rfl
noncomputable def Bi(Z:Gam)(t:Ag)(body:Ss):D->Rho->O:=λx U'=>evSs Z (U'.set t (Ab (x,Ae))) body
noncomputable def whC(Z:Gam)(c:E):Rho->R Ak:=λU'=>(top U' c (evE Z U' c)).bind CJ
noncomputable def whB(Z:Gam)(body:Ss):Rho->O:=λU'=>evSs Z U' body
noncomputable def OY(Z:Gam)(t:Ag)(body:Ss)(U:Rho)(r:R (Ac D)):O:=O.of U r λxs=>Cq (Bi Z t body) xs U
@[simp]theorem QL(t body xs):OY Z t body U (.ok xs)=Cq (Bi Z t body) xs U:=rfl
@[simp]theorem Zxj:evS Z U .pass=.next U:=rfl
@[simp]theorem ZAR(i e):evS Z U (.asg i Ae e)=O.of U (evE Z U e) λd=>.next (U.set i (Ab (d,Ae))):=rfl
@[simp]theorem Zxk(e):evS Z U (.expr e)=O.of U (evE Z U e) λ_=>.next U:=rfl
@[simp]theorem rD(e):evS Z U (.ret e)=O.of U (top U e (evE Z U e)) λd=>.ret d (DR Z e||(match e with | .var i=>(match U[i]? with|some (Ab (_,o))=>o|_=>Ae)|_=>Ae)):=rfl
@[simp]theorem Zxh:evS Z U .retN=.ret .non Ae:=rfl
@[simp]theorem ZAO(c a b):evS Z U (.ife c a b)=O.of U ((top U c (evE Z U c)).bind CJ) λk=>if k=Aa then evSs Z U a else evSs Z U b:=rfl
@[simp]theorem QH(t it body):evS Z U (.fors t it body)=OY Z t body U (F9 Z U it):=rfl
noncomputable def Ev(Z:Gam)(ts:Ac Ag)(body:Ss):D->Rho->O:=λx U'=>O.of U' (F4 ts x U') λU''=>evSs Z U'' body
noncomputable def W6(Z:Gam)(ts:Ac Ag)(body:Ss)(U:Rho)(r:R (Ac D)):O:=O.of U r λxs=>Cq (Ev Z ts body) xs U
@[simp]theorem U_5(t body xs):W6 Z t body U (.ok xs)=Cq (Ev Z t body) xs U:=rfl
@[simp]theorem UA(t it body):evS Z U (.forT t it body)=W6 Z t body U (F9 Z U it):=rfl
@[simp]theorem Zxm(ts e):evS Z U (.asgT ts e)=O.of U (evE Z U e) λd=>O.of U (Js ts d U) λU'=>.next U':=rfl
theorem iY(i e):evS Z U (.asg i Aa e)=O.of U (evE Z U e) λd=>if DR Z e=Aa then (match d with
      |.lst xs=>.next (U.set i (Ab (.lst xs,Aa)))
      |.dic xs=>.next (U.set i (Ab (.dic xs,Aa)))
      | _=>.bad) else .bad:=rfl
noncomputable def setF(U:Rho)(i:Ag):D->O
 |.lst xs=>.next (U.set i (Ab (.lst xs,Aa)))
 |.dic xs=>.next (U.set i (Ab (.dic xs,Aa)))
 |_=>.bad
@[simp]theorem ZCb(i xs):setF U i (.lst xs)=.next (U.set i (Ab (.lst xs,Aa))):=rfl
@[simp]theorem ZCc(i xs):setF U i (.dic xs)=.next (U.set i (Ab (.dic xs,Aa))):=rfl
@[simp]theorem ZvC(i e):evS Z U (.asg i Aa e)=O.of U (evE Z U e) λd=>if DR Z e=Aa then setF U i d else .bad:=by
 rw[iY]
 congr 1
@[simp]theorem ZAS(i e):evS Z U (.app i e)=O.of U (Dc U i) λxs=>O.of U (evE Z U e) λd=>if Do (xs.length+1)=Aa then .next (U.set i (Ab (.lst (xs++[d]),Aa))) else .bad:=rfl
@[simp]theorem rE(i e):evS Z U (.ext i e)=O.of U (Dc U i) λxs=>O.of U (evE Z U e) λd=>O.of U (LF d) λys=>if Do (xs.length+ys.length)=Aa then .next (U.set i (Ab (.lst (xs++ys),Aa))) else .bad:=rfl
@[simp]theorem ZAN(i):evS Z U (.rev i)=O.of U (Dc U i) λxs=>.next (U.set i (Ab (.lst xs.reverse,Aa))):=rfl
@[simp]theorem ZAP(i):evS Z U (.clr i)=O.of U (Dc U i) λ_=>.next (U.set i (Ab (.lst [],Aa))):=rfl
theorem QM(i k e):evS Z U (.put i k e)=O.of U (evE Z U e) λd=>O.of U (Dc U i) λxs=>O.of U ((top U k (evE Z U k)).bind EX) λj=>match plD xs.length j with
      |some n=>.next (U.set i (Ab (.lst (xs.set n d),Aa)))
      |none=>.bad:=rfl
@[simp]theorem Zxf(body c x h):evS Z U (.tryx body c x h)=match evSs Z U body with
      | .exn y U'=>if (Z.up y.c).contains c=Aa then (match evSs Z (U'.set x (Ab (.exc y.c y.fs,Ae))) h with
          |.next U''=>.next (U''.set x Af)
          |.ret d f=>.ret d f
          | _=>.bad) else .bad
      |o=>o:=rfl
@[simp]theorem Zxg(body c x h c' h' els):evS Z U (.try2 body c x h c' h' els)=match evSs Z U body with
      |.exn y U'=>if (Z.up y.c).contains c=Aa then hdO x y U' (λr=>evSs Z r h) else if (Z.up y.c).contains c'=Aa then hdO x y U' (λr=>evSs Z r h') else .bad
      |.next U'=>evSs Z U' els
      |o=>o:=rfl
@[simp]theorem ZAM(c body):evS Z U (.whl c body)=Sc (whC Z c) (whB Z body) W5 U:=rfl
@[simp]theorem Zxi(c as):evS Z U (.rais c as)=O.of U (noX (evA Z U as)) λxs=>O.of U (Z.xn c xs) λx=>.exn x U:=rfl
@[simp]theorem ZAQ:evS Z U .brk=.brk U:=rfl
@[simp]theorem Zxl:evS Z U .cont=.cont U:=rfl
end
end Ov
namespace Ov
open PySem
theorem Mr{body:D->Rho->O}(P:Rho->Prop):∀(xs:Ac D)(U:Rho),P U->(∀ x∈xs,∀ U,P U->∃ U',body x U=.next U'/\P U')->∃ U',Cq body xs U=.next U'/\P U'
 |[],U,h,_=>⟨U,rfl,h⟩
 |x::xs,U,h,k=>by
  obtain⟨U1,e1,h1⟩:=k x Ax U h;obtain⟨U2,e2,h2⟩:=Mr P xs U1 h1 λy hy=>k y (At _ hy)
  exact⟨U2,by show (body x U).turn _=_;rw[e1];exact e2,h2⟩
theorem Qd{body:D->Rho->O}(P:Ag->Rho->Prop):∀(xs:Ac D)(n:Ag)(U:Rho),P n U->(∀ i x,xs[i]?=Ab x->∀ U,P (n+i) U->∃ U',body x U=.next U'/\P (n+i+1) U')->∃ U',Cq body xs U=.next U'/\P (n+xs.length) U'
 |[],n,U,h,_=>⟨U,rfl,h⟩
 |x::xs,n,U,h,k=>by
  obtain⟨U1,e1,h1⟩:=k 0 x rfl U h;obtain⟨U2,e2,h2⟩:=Qd P xs (n+1) U1 h1 λi y hy U hρ=>by
   have:=k (i+1) y (by simpa using hy) U (by rw[show n+(i+1)=n+1+i by omega];exact hρ)
   rw[show n+(i+1)=n+1+i by omega]at this
   exact this
  exact⟨U2,by show (body x U).turn _=_;rw[e1];exact e2,by rw[show n+(x::xs).length=n+1+xs.length by simp;omega];exact h2⟩
theorem fE(h1:0<=lo)(h2:lo<1000000)(h3:0<=hi)(h4:hi<1000000):CI lo hi=.ok (CK lo (hi-lo).toNat):=by
 unfold CI;rw[AO (by omega)]
theorem fF(h3:0<=hi)(h4:hi<1000000):CI 0 hi=.ok (CK 0 hi.toNat):=by
 rw[fE (by omega) (by omega) h3 h4,E1]
theorem UX(h:x∈CK lo n):∃ k:Ag,k<n/\x=.int (lo+(k:Ad)):=by
 obtain⟨k,hk,e⟩:=Bb.mp h;exact⟨k,A3.mp hk,e.symm⟩
theorem Mp(lo:Ad)(n:Ag):(CK lo n).length=n:=by simp[CK]
theorem QD{i:Ag}(h:(CK lo n)[i]?=Ab x):i<n/\x=.int (lo+(i:Ad)):=by
 have hl:=(Be.mp h).1;rw[Mp]at hl;unfold CK at h;rw[DS,List.getElem?_range hl]at h;cases h;exact⟨hl,rfl⟩
noncomputable def Ss.take:Ag->Ss->Ss
 |0,_=>.nil
 |_,.nil=>.nil
 |n+1,.cons s ss=>.cons s (ss.take n)
noncomputable def Ss.drop:Ag->Ss->Ss
 |0,ss=>ss
 |_,.nil=>.nil
 |n+1,.cons _ ss=>ss.drop n
theorem Uz(Z:Gam):∀(n:Ag)(ss:Ss)(U:Rho),evSs Z U ss=F8 Z (ss.drop n) (evSs Z U (ss.take n))
 |0,_,_=>rfl
 |_+1,.nil,_=>rfl
 |n+1,.cons s ss,U=>by
  show (evS Z U s).seq (λU'=>evSs Z U' ss)=F8 Z (ss.drop n) ((evS Z U s).seq λU'=>evSs Z U' (ss.take n))
  cases evS Z U s with
  |next U'=>exact Uz Z n ss U'
  |_=>rfl
end Ov
end
section
namespace Ov
end Ov
end
section
namespace OvC
open PySem Ov PyProof.Rows
variable{j:Ad}
noncomputable abbrev scr(ns:Ac Ad):D:=.lst (ns.map .int)
noncomputable abbrev sh(d:D):Sl:=Ab (d,Ae)
noncomputable abbrev si(i:Ad):Sl:=Ab (.int i,Ae)
theorem four{P:Ag->Prop}(h0:P 0)(h1:P 1)(h2:P 2)(h3:P 3):P (j%4).toNat:=by
 have:(j%4).toNat=0\/(j%4).toNat=1\/(j%4).toNat=2\/(j%4).toNat=3:=by omega
 rcases this with e|e|e|e<;>rw[e]<;>assumption
def P4(p:Ad):Prop:=p=3\/p=5\/p=7\/p=11
theorem P4.pos{p}(h:P4 p):0<p:=by rcases h with rfl|rfl|rfl|rfl<;>decide
theorem P4.lo{p}(h:P4 p):3<=p:=by rcases h with rfl|rfl|rfl|rfl<;>decide
theorem P4.hi{p}(h:P4 p):p<=11:=by rcases h with rfl|rfl|rfl|rfl<;>decide
theorem G4{i:Ad}(h0:-18446744073709551616<i)(h1:i<18446744073709551616):DQ i j=Aa:=by simp[DQ];left;exact⟨h0,h1⟩
theorem NT{i:Ad}(h0:-18446744073709551616<j)(h1:j<18446744073709551616):DQ i j=Aa:=by simp[DQ];right;exact⟨h0,h1⟩
noncomputable def Rk:Df:=⟨2,Ae,(.cons (.ret (.bin .Mod (.var 1) (.var 0))) .nil)⟩
def H9(Z:Gam):Prop:=∀ p n:Ad,0<p->Z.F 1 [.int p,.int n]=.ok (.int (n%p))
theorem vU(Z:Gam)(p n:Ad)(h:0<p):Rk.run Z [.int p,.int n]=.ok (.int (n%p)):=by simp[Rk,Df.run,Bo,h]
end OvC
end
namespace Ov
open PySem PySem.Spec PyProof.Rows L2
variable{A B:Am->Prop}{H H' H1 H0:Hp}{a b l q:Am}{xs vs:Ac V}{v:V}{d:D}{Rp Rq:Hp->V->D->Prop}{r:R D}{Q:VK}{X:Cx}{e c tg iter elt:Ao}{U:Rho}{i n j k t':Ag}{x:Ex}{Y:L2.St}{g:D->D->R D}{op:DI}{K:Fg}{pI:Pn}{s:As}{items2 its ys us items:A1 Ai}{h h' h2:AM}{u y f0:Ai}{its2:Ac Ai}{es ifs:Ac Ao}{fs fi:Rho->R (Ac D)}{Q':Aq Ad->Hp->Prop}{p p2 pos pos' pos2 tpos:A6}{T:Dy}{f fc:Rho->R Ak}{α:Type}{Fz:Am->HO->Prop}{D':Ends}{as:D->Rho->R Rho}{up:Ag->Ac Ag}{prog P:AU}{w:AH}{o o1:Di}{scope:Cz}{env:C1}{cl:Ac (An×Am)}{N':Ac An}{ts:Ac Ag}{fp:Ac Am}{tt:TT}{te:TE}{J:It}{wi:TI}{P1 P2:Ag->Ai->Prop}{S1 S2:Ag->AM->Prop}{t f1:Ak}{ta:TA}{ps:Ac (Am×Ac V)}
abbrev ClA:=Ag->Aq Am
variable{CL:ClA}
def KL(K:Fg)(a:Am)(xs:Ac V):Prop:=∃(o:Di)(its:A1 Ai)(n:Ag),K.lookup a=Ab o/\o.cls=.type "list"/\o.dict=Af/\o.data=.seq its n/\its.size<=sizeLine/\Bj xs its.toList
def KT(K:Fg)(a:Am)(xs:Ac V):Prop:=∃(o:Di)(its:A1 Ai)(n:Ag),K.lookup a=Ab o/\o.cls=.type "tuple"/\o.data=.seq its n/\its.size<=sizeLine/\Bj xs its.toList
section
variable(K:Fg)(CL:ClA)(H:Hp)(A:Am->Prop)
mutual
def Rep:V->D->Prop
 |v,.non=>v=.non
 |v,.bl b=>v=.bl b
 |v,.int i=>v=.int i
 |v,.str x=>v=.str x
 |v,.tup ds=>∃ a xs,v=.ref a/\(¬ A a\/KT K a xs)/\SqT K H a xs/\Reps xs ds
 |v,.lst ds=>∃ a xs,v=.ref a/\(¬ A a\/KL K a xs)/\SqL K H a xs/\Reps xs ds
 |v,.obj c fs=>∃ a C dx vs,v=.ref a/\¬ A a/\CL c=Ab C/\H a=Ab (.ins C dx vs)/\Repf vs fs
 |_,.dic _=>BF
 |v,.exc c fs=>∃ a C φ,v=.ref a/\¬ A a/\CL c=Ab C/\H a=Ab (.ext φ)/\(∀ h,φ h->∃ o,h.get? a=Ab o/\o.cls=.ref C)/\(fs=[]\/∃ dx vs,¬ A dx/\H dx=Ab (.xd vs)/\Repf vs fs/\∀ h,φ h->∃ o,h.get? a=Ab o/\o.dict=Ab dx/\∃ us,o.data=.fields us)
def Reps:Ac V->Ac D->Prop
 |[],[]=>Ix
 |v::vs,d::ds=>Rep v d/\Reps vs ds
 |_,_=>BF
def Repf:Ac (An×V)->Ac (An×D)->Prop
 |[],[]=>Ix
 |v::vs,d::ds=>Repp v d/\Repf vs ds
 |_,_=>BF
def Repp:An×V->An×D->Prop
 |v,(n,d)=>v.1=n/\Rep v.2 d
end
def Dp(v:V)(d:D):Prop:=Rep K CL H A v d\/∃ a xs ds,v=.ref a/\d=.lst ds/\H a=Ab (.lst xs)/\Reps K CL H A xs ds
end
def Kp(A:Am->Prop)(H H':Hp):Prop:=∀ b o,H b=Ab o->¬ A b->H' b=Ab o
def AOk(H:Hp)(A:Am->Prop):Prop:=∀ a,A a->∃ xs,H a=Ab (.lst xs)
theorem Kp.of(h:AN H H'):Kp A H H':=λb o e _=>h b o e
theorem AOk.same(h:AOk H A)(s:AN H H'):AOk H' A:=λa ha=>let ⟨xs,e⟩:=h a ha;⟨xs,s _ _ e⟩
theorem AOk.new{p:Am}(h:AOk H A)(e:H p=Af):¬ A p:=λha=>by
 obtain⟨xs,q⟩:=h p ha;rw[e]at q;cases q
section
variable{K:Fg}{CL:ClA}{H H':Hp}{A B:Am->Prop}
theorem WN{u:HO}(k:Kp A H H')(na:¬ A a)(h:Rd H a u):Rd H' a u:=by
 rcases h with h|⟨o,h⟩
 .exact .inl (k _ _ h na)
 .exact .inr ⟨o,k _ _ h na⟩
theorem N5(k:Kp A H H')(na:¬ A a\/KL K a xs)(h:SqL K H a xs):SqL K H' a xs:=na.elim (λna=>h.imp (WN k na) id) .inr
theorem N4(k:Kp A H H')(na:¬ A a\/KT K a xs)(h:SqT K H a xs):SqT K H' a xs:=na.elim (λna=>h.imp (WN k na) id) .inr
mutual
theorem Rep.kp(k:Kp A H H'):∀{v:V}(d:D),Rep K CL H A v d->Rep K CL H' A v d
 |_,.non,h=>h
 |_,.bl _,h=>h
 |_,.int _,h=>h
 |_,.str _,h=>h
 |_,.dic _,h=>h.elim
 |_,.tup ds,h=>by
  obtain⟨a,xs,e,na,s,r⟩:=h;exact⟨a,xs,e,na,by first|exact N4 k na s|exact N5 k na s,Reps.kp k ds r⟩
 |_,.lst ds,h=>by
  obtain⟨a,xs,e,na,s,r⟩:=h;exact⟨a,xs,e,na,by first|exact N4 k na s|exact N5 k na s,Reps.kp k ds r⟩
 |_,.obj c fs,h=>by
  obtain⟨a,C,dx,vs,e,na,c,s,r⟩:=h;exact⟨a,C,dx,vs,e,na,c,k _ _ s na,Repf.kp k fs r⟩
 |_,.exc c fs,h=>by
  obtain⟨a,C,φ,e,na,c,s,p,q⟩:=h;refine⟨a,C,φ,e,na,c,k _ _ s na,p,q.imp id ?_⟩;rintro⟨dx,vs,nx,s2,r,z⟩;exact⟨dx,vs,nx,k _ _ s2 nx,Repf.kp k fs r,z⟩
theorem Reps.kp(k:Kp A H H'):∀{vs:Ac V}(ds:Ac D),Reps K CL H A vs ds->Reps K CL H' A vs ds
 |[],[],h=>h
 |_::_,d::ds,h=>⟨Rep.kp k d h.1,Reps.kp k ds h.2⟩
 |[],_::_,h=>h.elim
 |_::_,[],h=>h.elim
theorem Repf.kp(k:Kp A H H'):∀{vs:Ac (An×V)}(ds:Ac (An×D)),Repf K CL H A vs ds->Repf K CL H' A vs ds
 |[],[],h=>h
 |_::_,d::ds,h=>⟨Repp.kp k d h.1,Repf.kp k ds h.2⟩
 |[],_::_,h=>h.elim
 |_::_,[],h=>h.elim
theorem Repp.kp(k:Kp A H H'):∀{v:An×V}(d:An×D),Repp K CL H A v d->Repp K CL H' A v d
 |_,(_,d),h=>⟨h.1,Rep.kp k d h.2⟩
end
mutual
theorem Rep.sub(k:∀ a,B a->A a):∀{v:V}(d:D),Rep K CL H A v d->Rep K CL H B v d
 |_,.non,h=>h
 |_,.bl _,h=>h
 |_,.int _,h=>h
 |_,.str _,h=>h
 |_,.dic _,h=>h.elim
 |_,.tup ds,h=>by
  obtain⟨a,xs,e,na,s,r⟩:=h;exact⟨a,xs,e,na.imp (λna z=>na (k _ z)) id,s,Reps.sub k ds r⟩
 |_,.lst ds,h=>by
  obtain⟨a,xs,e,na,s,r⟩:=h;exact⟨a,xs,e,na.imp (λna z=>na (k _ z)) id,s,Reps.sub k ds r⟩
 |_,.obj c fs,h=>by
  obtain⟨a,C,dx,vs,e,na,c,s,r⟩:=h;exact⟨a,C,dx,vs,e,λz=>na (k _ z),c,s,Repf.sub k fs r⟩
 |_,.exc c fs,h=>by
  obtain⟨a,C,φ,e,na,c,s,p,q⟩:=h;refine⟨a,C,φ,e,λz=>na (k _ z),c,s,p,q.imp id ?_⟩
  rintro⟨dx,vs,nx,s2,r,z⟩;exact⟨dx,vs,λz=>nx (k _ z),s2,Repf.sub k fs r,z⟩
theorem Reps.sub(k:∀ a,B a->A a):∀{vs:Ac V}(ds:Ac D),Reps K CL H A vs ds->Reps K CL H B vs ds
 |[],[],h=>h
 |_::_,d::ds,h=>⟨Rep.sub k d h.1,Reps.sub k ds h.2⟩
 |[],_::_,h=>h.elim
 |_::_,[],h=>h.elim
theorem Repf.sub(k:∀ a,B a->A a):∀{vs:Ac (An×V)}(ds:Ac (An×D)),Repf K CL H A vs ds->Repf K CL H B vs ds
 |[],[],h=>h
 |_::_,d::ds,h=>⟨Repp.sub k d h.1,Repf.sub k ds h.2⟩
 |[],_::_,h=>h.elim
 |_::_,[],h=>h.elim
theorem Repp.sub(k:∀ a,B a->A a):∀{v:An×V}(d:An×D),Repp K CL H A v d->Repp K CL H B v d
 |_,(_,d),h=>⟨h.1,Rep.sub k d h.2⟩
end
mutual
theorem Rep.wide(hp:∀ a,B a->A a\/H a=Af):∀{v:V}(d:D),Rep K CL H A v d->Rep K CL H B v d
 |_,.non,h=>h
 |_,.bl _,h=>h
 |_,.int _,h=>h
 |_,.str _,h=>h
 |_,.dic _,h=>h.elim
 |_,.tup ds,h=>by
  obtain⟨a,xs,e,na,s,r⟩:=h;refine⟨a,xs,e,?_,s,Reps.wide hp ds r⟩;rcases s with s|s
  .refine na.imp (λna z=>(hp _ z).elim na λe=>?_) id
   rcases s with s|⟨o,s⟩<;>rw[e]at s<;>cases s
  .exact .inr s
 |_,.lst ds,h=>by
  obtain⟨a,xs,e,na,s,r⟩:=h;refine⟨a,xs,e,?_,s,Reps.wide hp ds r⟩;rcases s with s|s
  .refine na.imp (λna z=>(hp _ z).elim na λe=>?_) id
   rcases s with s|⟨o,s⟩<;>rw[e]at s<;>cases s
  .exact .inr s
 |_,.obj c fs,h=>by
  obtain⟨a,C,dx,vs,e,na,c,s,r⟩:=h;exact⟨a,C,dx,vs,e,(λz=>(hp _ z).elim na λe=>by rw[e]at s;cases s),c,s,Repf.wide hp fs r⟩
 |_,.exc c fs,h=>by
  obtain⟨a,C,φ,e,na,c,s,p,q⟩:=h;refine⟨a,C,φ,e,(λz=>(hp _ z).elim na λe=>by rw[e]at s;cases s),c,s,p,q.imp id ?_⟩
  rintro⟨dx,vs,nx,s2,r,z⟩;exact⟨dx,vs,(λz=>(hp _ z).elim nx λe=>by rw[e]at s2;cases s2),s2,Repf.wide hp fs r,z⟩
theorem Reps.wide(hp:∀ a,B a->A a\/H a=Af):∀{vs:Ac V}(ds:Ac D),Reps K CL H A vs ds->Reps K CL H B vs ds
 |[],[],h=>h
 |_::_,d::ds,h=>⟨Rep.wide hp d h.1,Reps.wide hp ds h.2⟩
 |[],_::_,h=>h.elim
 |_::_,[],h=>h.elim
theorem Repf.wide(hp:∀ a,B a->A a\/H a=Af):∀{vs:Ac (An×V)}(ds:Ac (An×D)),Repf K CL H A vs ds->Repf K CL H B vs ds
 |[],[],h=>h
 |_::_,d::ds,h=>⟨Repp.wide hp d h.1,Repf.wide hp ds h.2⟩
 |[],_::_,h=>h.elim
 |_::_,[],h=>h.elim
theorem Repp.wide(hp:∀ a,B a->A a\/H a=Af):∀{v:An×V}(d:An×D),Repp K CL H A v d->Repp K CL H B v d
 |_,(_,d),h=>⟨h.1,Rep.wide hp d h.2⟩
end
theorem Rep.same(s:AN H H')(h:Rep K CL H A v d):Rep K CL H' A v d:=Rep.kp (Kp.of s) d h
theorem Reps.same{v:Ac V}{d:Ac D}(s:AN H H')(h:Reps K CL H A v d):Reps K CL H' A v d:=Reps.kp (Kp.of s) d h
theorem Dp.same{v:V}{d:D}(s:AN H H')(h:Dp K CL H A v d):Dp K CL H' A v d:=by
 rcases h with h|⟨a,xs,ds,e,e2,q,r⟩
 .exact .inl (h.same s)
 .exact .inr ⟨a,xs,ds,e,e2,s _ _ q,r.same s⟩
theorem Reps.length:∀{vs:Ac V}{ds:Ac D},Reps K CL H A vs ds->vs.length=ds.length
 |[],[],_=>rfl
 |_::_,_::_,h=>congrArg (· + 1) (Reps.length h.2)
 |[],_::_,h=>h.elim
 |_::_,[],h=>h.elim
theorem Reps.append:∀{vs ws:Ac V}{ds es:Ac D},Reps K CL H A vs ds->Reps K CL H A ws es->Reps K CL H A (vs++ws) (ds++es)
 |[],_,[],_,_,h=>h
 |_::_,_,_::_,_,h,g=>⟨h.1,Reps.append h.2 g⟩
 |[],_,_::_,_,h,_=>h.elim
 |_::_,_,[],_,h,_=>h.elim
theorem Reps.get:∀{vs:Ac V}{ds:Ac D}{i:Ag}{d:D},Reps K CL H A vs ds->ds[i]?=Ab d->∃ v,vs[i]?=Ab v/\Rep K CL H A v d
 |[],[],_,_,_,e=>by simp at e
 |v::_,_::_,0,_,h,e=>by simp at e;subst e;exact⟨v,rfl,h.1⟩
 |_::_,_::_,i+1,_,h,e=>by
  obtain⟨v,q,r⟩:=Reps.get (i:=i) h.2 (by simpa using e)
  exact⟨v,by simpa using q,r⟩
 |[],_::_,_,_,h,_=>h.elim
 |_::_,[],_,_,h,_=>h.elim
theorem Reps.take:∀{vs:Ac V}{ds:Ac D}(n:Ag),Reps K CL H A vs ds->Reps K CL H A (vs.take n) (ds.take n)
 |_,_,0,_=>trivial
 |[],[],_+1,_=>trivial
 |_::_,_::_,n+1,h=>⟨h.1,Reps.take n h.2⟩
 |[],_::_,_+1,h=>h.elim
 |_::_,[],_+1,h=>h.elim
theorem Reps.drop:∀{vs:Ac V}{ds:Ac D}(n:Ag),Reps K CL H A vs ds->Reps K CL H A (vs.drop n) (ds.drop n)
 |_,_,0,h=>h
 |[],[],_+1,_=>trivial
 |_::_,_::_,n+1,h=>Reps.drop n h.2
 |[],_::_,_+1,h=>h.elim
 |_::_,[],_+1,h=>h.elim
theorem Reps.set{x:V}{e:D}(r:Rep K CL H A x e):∀{vs:Ac V}{ds:Ac D}(n:Ag),Reps K CL H A vs ds->Reps K CL H A (vs.set n x) (ds.set n e)
 |[],[],_,_=>trivial
 |_::_,_::_,0,h=>⟨r,h.2⟩
 |_::_,_::_,n+1,h=>⟨h.1,Reps.set r n h.2⟩
 |[],_::_,_,h=>h.elim
 |_::_,[],_,h=>h.elim
end
structure Good (K:Fg) (CL:ClA) (A:Am->Prop) (U:Rho) (Y:L2.St) (H:Hp):Prop where
 sh:∀(i:Ag)(d:D),U[i]?=Ab (Ab (d,Ae))->∃ v,Y[i]?=Ab (Ab v)/\Rep K CL H A v d
 ow:∀(i:Ag)(d:D),U[i]?=Ab (Ab (d,Aa))->∃ a xs ds,Y[i]?=Ab (Ab (.ref a))/\d=.lst ds/\A a/\H a=Ab (.lst xs)/\Reps K CL H A xs ds
 len:U.length=Y.length
theorem Good.same{K:Fg}{CL:ClA}{A:Am->Prop}{U:Rho}{Y:L2.St}{H H':Hp}(g:Good K CL A U Y H)(s:AN H H'):Good K CL A U Y H':=
 ⟨λi d e=>let ⟨v,q,r⟩:=g.sh i d e;⟨v,q,r.same s⟩,λi d e=>let ⟨a,xs,ds,q,z,na,h,r⟩:=g.ow i d e;⟨a,xs,ds,q,z,na,s _ _ h,r.same s⟩,g.len⟩
abbrev XW:=Ex->Hp->Prop
variable{W:XW}
def By(Rp:Hp->V->D->Prop)(W:XW)(H:Hp)(r:R D)(Q:VK):Prop:=match r with
  |.ok d=>∀ v H',AN H H'->Rp H' v d->Q v H'
  |.exn x=>∀ H',AN H H'->W x H'
  |.bad=>BF
def Ig(Rp:Hp->Ac V->Ac D->Prop)(W:XW)(H:Hp)(r:R (Ac D))(Q:Ac V->Hp->Prop):Prop:=match r with
  |.ok d=>∀ v H',AN H H'->Rp H' v d->Q v H'
  |.exn x=>∀ H',AN H H'->W x H'
  |.bad=>BF
def DD(W:XW)(H:Hp)(r:R Ak)(Q:Ak->Hp->Prop):Prop:=match r with
  |.ok b=>∀ H',AN H H'->Q b H'
  |.exn x=>∀ H',AN H H'->W x H'
  |.bad=>BF
theorem By.same(s:AN H H')(h:By Rp W H r Q):By Rp W H' r Q:=by
 cases r with
 |ok d=>exact λv H2 s2 q=>h v H2 (s.trans s2) q
 |exn x=>exact λH2 s2=>h H2 (s.trans s2)
 |bad=>exact h
theorem DD.same{r:R Ak}{Q:Ak->Hp->Prop}(s:AN H H')(h:DD W H r Q):DD W H' r Q:=by
 cases r with
 |ok d=>exact λH2 s2=>h H2 (s.trans s2)
 |exn x=>exact λH2 s2=>h H2 (s.trans s2)
 |bad=>exact h
theorem By.bind{f:D->R D}{Q':VK}(h:By Rq W H (r.bind f) Q)(k:∀ d v H',r=.ok d->AN H H'->Rp H' v d->By Rq W H' (f d) Q->Q' v H'):By Rp W H r Q':=by
 cases r with
 |ok d=>exact λv H2 s2 q=>k d v H2 rfl s2 q (By.same s2 h)
 |exn x=>exact h
 |bad=>exact h
section
variable(X:Cx)(CL:ClA)(W:XW)
def SE(e:Ao)(f:Rho->R D):Prop:=∀ A,PE X e (λY H Q=>AOk H A/\∃ U,Good X.K CL A U Y H/\By (λH=>Rep X.K CL H A) W H (f U) Q)
def ST(e:Ao)(f:Rho->R D):Prop:=∀ A,PE X e (λY H Q=>AOk H A/\∃ U,Good X.K CL A U Y H/\By (λH=>Dp X.K CL H A) W H (f U) Q)
def SB(e:Ao)(f:Rho->R Ak):Prop:=∀ A,PT X e (λY H Q=>AOk H A/\∃ U,Good X.K CL A U Y H/\DD W H (f U) Q)
def SA(es:Ac Ao)(f:Rho->R (Ac D)):Prop:=∀ A,PA X es (λY H Q=>AOk H A/\∃ U,Good X.K CL A U Y H/\Ig (λH=>Reps X.K CL H A) W H (f U) Q)
end
theorem PE.weak{t t':TE}(h:PE X e t)(k:∀ Y H Q,t' Y H Q->t Y H Q):PE X e t':=λpI s Y H Q I q=>h pI s Y H Q I (k _ _ _ q)
theorem PT.weak{t t':TT}(h:PT X e t)(k:∀ Y H Q,t' Y H Q->t Y H Q):PT X e t':=λpI s Y H Q I q=>h pI s Y H Q I (k _ _ _ q)
theorem PA.weak{e:Ac Ao}{t t':TA}(h:PA X e t)(k:∀ Y H Q,t' Y H Q->t Y H Q):PA X e t':=λpos pI s Y H Q I q=>h pos pI s Y H Q I (k _ _ _ q)
noncomputable def OpD(X:Cx)(CL:ClA)(W:XW)(f:Ai->Ai->Hk Ai)(g:D->D->R D):Prop:=
 ∀ A,OpR X f (λx y H Q=>AOk H A/\∃ dx dy,Dp X.K CL H A x dx/\Dp X.K CL H A y dy/\By (λH=>Rep X.K CL H A) W H (g dx dy) Q)
section
variable{X:Cx}{CL:ClA}{W:XW}{a b c:Ao}{fa fb fc:Rho->R D}{pos:A6}
theorem SE.st(h:SE X CL W a fa):ST X CL W a fa:=λA=>PE.weak (h A) λY H Q ⟨hA,U,g,p⟩=>⟨hA,U,g,by
 cases e:fa U with
 |ok d=>rw[e]at p;exact λv H' s r=>p v H' s (.inl r)
 |exn x=>rw[e]at p;exact p
 | bad=>rw[e]at p;exact p⟩
theorem SE.congr{f g:Rho->R D}(h:SE X CL W a f)(e:∀ U,g U=f U):SE X CL W a g:=λA=>PE.weak (h A) λY H Q ⟨hA,U,q,p⟩=>⟨hA,U,q,by rw[<-e];exact p⟩
theorem Ol(h:PE X a (tC v))(r:∀ H A,AOk H A->Rep X.K CL H A v d):SE X CL W a (λ_=>.ok d):=λA=>PE.weak h λY H Q ⟨hA,U,g,p⟩=>p v H (AN.refl H) (r H A hA)
theorem xO{i j}:SE X CL W (.Constant (.int i) j pos) (λ_=>.ok (.int i)):=Ol ae λ_ _ _=>rfl
theorem gu{b j}:SE X CL W (.Constant (.bool b) j pos) (λ_=>.ok (.bl b)):=Ol k6 λ_ _ _=>rfl
theorem xL{j}:SE X CL W (.Constant .none j pos) (λ_=>.ok .non):=Ol zZ λ_ _ _=>rfl
theorem xJ{x j}:SE X CL W (.Constant (.str x) j pos) (λ_=>.ok (.str x)):=Ol zW λ_ _ _=>rfl
theorem mZ(h:F7 U i=.ok d):U[i]?=Ab (Ab (d,Ae)):=by
 unfold F7 at h;split at h
 .rename_i e;cases h;exact e
 .cases h
theorem Vk(h:Fn U i=.ok d):∃ o,U[i]?=Ab (Ab (d,o)):=by
 unfold Fn at h;split at h
 .rename_i e;cases h;exact⟨_,e⟩
 .cases h
theorem iH(h:F7 U i=.exn x):BF:=by
 unfold F7 at h;split at h<;>cases h
theorem Um(h:Fn U i=.exn x):BF:=by
 unfold Fn at h;split at h<;>cases h
theorem xH(h:PE X a (IQ i)):SE X CL W a (λU=>F7 U i):=λA=>PE.weak h λY H Q ⟨hA,U,g,p⟩=>by
 dsimp only at p;cases e:F7 U i with
 |ok d=>
  rw[e]at p;obtain⟨v,q,r⟩:=g.sh i d (mZ e);exact⟨v,q,p v H (AN.refl H) r⟩
 |exn x=>exact(iH e).elim
 |bad=>rw[e]at p;exact p.elim
theorem uN(h:PE X a (IQ i)):ST X CL W a (λU=>Fn U i):=λA=>PE.weak h λY H Q ⟨hA,U,g,p⟩=>by
 dsimp only at p;cases e:Fn U i with
 |ok d=>
  rw[e]at p;obtain⟨o,e⟩:=Vk e;cases o with
  |false=>
   obtain⟨v,q,r⟩:=g.sh i d e;exact⟨v,q,p v H (AN.refl H) (.inl r)⟩
  |true=>
   obtain⟨x,xs,ds,q,rfl,ha,hh,r⟩:=g.ow i d e;exact⟨_,q,p _ H (AN.refl H) (.inr ⟨x,xs,ds,rfl,rfl,hh,r⟩)⟩
 |exn x=>exact(Um e).elim
 |bad=>rw[e]at p;exact p.elim
theorem op2(h:AOk H A/\∃ U,Good X.K CL A U Y H/\By Rq W H ((fa U).bind λx=>(fb U).bind λy=>g x y) Q):AOk H A/\∃ U,Good X.K CL A U Y H/\By (λH=>Dp X.K CL H A) W H (fa U) (λx H1=>AOk H1 A/\∃ U,Good X.K CL A U Y H1/\By (λH=>Dp X.K CL H A) W H1 (fb U) (λy H2=>AOk H2 A/\∃ dx dy,Dp X.K CL H2 A x dx/\Dp X.K CL H2 A y dy/\By Rq W H2 (g dx dy) Q)):=by
 obtain⟨hA,U,gd,p⟩:=h;refine⟨hA,U,gd,By.bind p λdx x H1 _ s1 r1 p1=>⟨hA.same s1,U,gd.same s1,By.bind p1 λdy y H2 _ s2 r2 p2=>⟨(hA.same s1).same s2,dx,dy,r1.same s2,r2,p2⟩⟩⟩
theorem WE{op:Gn}(ho:OpD X CL W (CB op) g)(ha:ST X CL W a fa)(hb:ST X CL W b fb):SE X CL W (.BinOp a op b pos) (λU=>(fa U).bind λx=>(fb U).bind λy=>g x y):=
 λA=>PE.weak (WW (ho A) (ha A) (hb A)) λY H Q h=>op2 h
theorem xR(ho:OpD X CL W (C3 op) g)(ha:ST X CL W a fa)(hb:ST X CL W b fb)(hm:Hl op b=Ae):SE X CL W (.Compare a [op] [b] pos) (λU=>(fa U).bind λx=>(fb U).bind λy=>g x y):=
 λA=>PE.weak (oH (ho A) (ha A) (hb A) hm) λY H Q h=>op2 h
theorem Dp.int_of{i:Ad}(h:Dp K CL H A v (.int i)):v=.int i:=by
 rcases h with h|⟨_,_,_,_,e,_⟩
 .exact h
 .cases e
theorem Dp.str_of{i:An}(h:Dp K CL H A v (.str i)):v=.str i:=by
 rcases h with h|⟨_,_,_,_,e,_⟩
 .exact h
 .cases e
theorem Dp.bl_of{i:Ak}(h:Dp K CL H A v (.bl i)):v=.bl i:=by
 rcases h with h|⟨_,_,_,_,e,_⟩
 .exact h
 .cases e
theorem Dp.non_of(h:Dp K CL H A v .non):v=.non:=by
 rcases h with h|⟨_,_,_,_,e,_⟩
 .exact h
 .cases e
theorem Dp.lst_of{ds:Ac D}(h:Dp K CL H A v (.lst ds)):∃ a xs,v=.ref a/\SqL K H a xs/\Reps K CL H A xs ds:=by
 rcases h with ⟨a,xs,e,_,s,r⟩|⟨a,xs,es,rfl,e,s,r⟩
 .exact⟨a,xs,e,s,r⟩
 .cases e;exact⟨a,xs,rfl,SqL.of s,r⟩
theorem Dp.tup_of{ds:Ac D}(h:Dp K CL H A v (.tup ds)):∃ a xs,v=.ref a/\(¬ A a\/KT K a xs)/\SqT K H a xs/\Reps K CL H A xs ds:=by
 rcases h with ⟨a,xs,e,n,s,r⟩|⟨_,_,_,_,e,_⟩
 .exact⟨a,xs,e,n,s,r⟩
 .cases e
theorem rM{i j:Ad}(h:DQ i j=Aa):OX i j:=by
 unfold DQ at h;simp only[C9,Ap,Bh]at h;unfold OX;omega
theorem VO{a:Ad}(h:a.natAbs<2 ^ 2000):Yg a<=2 ^ 20:=by
 unfold Yg;split
 .omega
 .rename_i hz;have h0:a.natAbs≠0:=by intro z;exact hz (by rw[Int.natAbs_eq_zero.mp z];rfl)
  have:=(Nat.log2_lt h0).mpr h;omega
theorem rL{i j:Ad}(h:(DQ i j||EM i j)=Aa):LY i j:=by
 rcases Bool.or_eq_true_iff.mp h with h|h
 .exact(rM h).ok
 .unfold EM at h;rw[Ap,Bh,Bh]at h;exact .of_bits (VO h.1) (VO h.2)
theorem oY:OpR X (CB .Mult) (rI LY λi j=>.int (i*j)):=opI λ_ _ _ _ _ _ _ hc q=>mul_int q hc
theorem Iy(h:Do n=Aa):n<=sizeLine:=by
 unfold Do at h;rw[Ew];have:=Ee h;omega
theorem VL{p:Am}{ds:Ac D}(hA:AOk H A)(hp:H p=Af)(r:Reps K CL H A xs ds):Rep K CL (upd H p (.lst xs)) A (.ref p) (.lst ds):=
 ⟨p,xs,rfl,.inl (hA.new hp),SqL.of Jm,r.same λb o e=>by rw[Dz (Go e hp)];exact e⟩
theorem Lj{p:Am}{ds:Ac D}(hA:AOk H A)(hp:H p=Af)(r:Reps K CL H A xs ds):Rep K CL (upd H p (.tup xs)) A (.ref p) (.tup ds):=
 ⟨p,xs,rfl,.inl (hA.new hp),SqT.of Jm,r.same λb o e=>by rw[Dz (Go e hp)];exact e⟩
theorem GR{p:Am}(h:H p=Af)(o:HO):AN H (upd H p o):=λb u q=>by rw[Dz (Go q h)];exact q
def jt(K:Fg):R2:=λx y H Q=>∃ l b xs zs,x=.ref l/\y=.ref b/\SqL K H l xs/\SqL K H b zs/\xs.length+zs.length<=sizeLine/\∀ p,H p=Af->Q (.ref p) (upd H p (.lst (xs++zs)))
end
section
variable{X:Cx}{CL:ClA}{W:XW}
theorem VH:OpR X (CB .Add) (jt X.K):=by
 intro pI s Y H x y v u Q I rx ry h;obtain⟨l,b,xs,zs,rfl,rfl,hH,hB,hz,q⟩:=h;cases rx;cases ry;obtain⟨its,r,⟨o,n,e,c,dd,dt⟩,z⟩:=I.list hH;obtain⟨its2,r2,⟨o2,n2,e2,c2,dd2,dt2⟩,z2⟩:=I.list hB;have hl:=r.length;have hl2:=r2.length;obtain⟨cls,dd0,data,sl⟩:=o;obtain⟨cls2,dd02,data2,sl2⟩:=o2;simp only at c dd dt c2 dd2 dt2;subst c dd dt c2 dd2 dt2;have ea:its.toArray++its2.toArray=(its++its2).toArray:=by simp
 refine JL ⟨_,e,rfl⟩ ⟨_,e2,rfl⟩ noFill_list_add seq_list_add PySem.F.slot_list_add PySem.F.entry_list_add (PySem.F.args_list_add_2 _ _) (list_addW l b its.toArray its2.toArray n n2 Af Af sl sl2 (by simp;omega)) ⟨e,e2,?_⟩
 rw[ea];exact⟨.ref _,_,I.lnew (t':=s.toks) (r.append r2) (by rw[BU];omega),rfl,q _ I.fresh⟩
theorem VG:OpD X CL W (CB .Add) (Dj .Add):=by
 intro A pI s Y H x y v u Q I rx ry ⟨hA,dx,dy,hx,hy,p⟩;cases dx with
 |int i=>
  cases dy with
  |int j=>
   have ex:=hx.int_of;have ey:=hy.int_of
   subst ex ey;exact yN pI s Y H _ _ v u Q I rx ry ⟨i,j,rfl,rfl,p _ H (AN.refl H) rfl⟩
  |_=>exact p.elim
 |str i=>
  cases dy with
  |str j=>
   have ex:=hx.str_of;have ey:=hy.str_of
   subst ex ey;simp only[V3]at p;split at p
   .rename_i h;exact eP pI s Y H _ _ v u Q I rx ry ⟨i,j,rfl,rfl,Iy h,p _ H (AN.refl H) rfl⟩
   .exact p.elim
  |_=>exact p.elim
 |lst ds=>
  cases dy with
  |lst es=>
   obtain⟨a,xs,rfl,s1,r1⟩:=hx.lst_of;obtain⟨b,ys,rfl,s2,r2⟩:=hy.lst_of;simp only[V4]at p;split at p
   .rename_i h;refine VH pI s Y H _ _ v u Q I rx ry ⟨a,b,xs,ys,rfl,rfl,s1,s2,by rw[r1.length,r2.length];exact Iy h,λq hq=>?_⟩
    exact p _ _ (GR hq _) (VL hA hq (r1.append r2))
   .exact p.elim
  |_=>exact p.elim
 |tup ds=>
  cases dy with
  |tup es=>
   obtain⟨a,xs,rfl,na1,s1,r1⟩:=hx.tup_of;obtain⟨b,ys,rfl,_,s2,r2⟩:=hy.tup_of;simp only[VZ]at p;split at p
   .rename_i h;simp only[Ap]at h;refine pA pI s Y H _ _ v u Q I rx ry ⟨a,b,xs,ys,rfl,rfl,s1,s2,?_,by rw[r1.length,r2.length];exact Iy h.2,λhy0=>?_,λ_ q hq=>?_⟩
    .rintro rfl;cases ds with
     |nil=>cases h.1
     |cons _ _=>exact r1.elim
    .subst hy0;cases es with
     |nil=>rw[DK]at p;exact p _ H (AN.refl H) ⟨a,xs,rfl,na1,s1,r1⟩
     |cons _ _=>exact r2.elim
    .exact p _ _ (GR hq _) (Lj hA hq (r1.append r2))
   .exact p.elim
  |_=>exact p.elim
 |_=>exact p.elim
theorem NS{op:Gn}{C:Ad->Ad->Prop}{g:Ad->Ad->Ad}(ho:OpR X (CB op) (rI C λi j=>.int (g i j)))(hg:∀ dx dy,(∃ i j,dx=.int i/\dy=.int j/\((C i j/\Dj op dx dy=.ok (.int (g i j)))\/Dj op dx dy=.bad))\/Dj op dx dy=.bad):OpD X CL W (CB op) (Dj op):=by
 intro A pI s Y H x y v u Q I rx ry ⟨hA,dx,dy,hx,hy,p⟩;rcases hg dx dy with ⟨i,j,rfl,rfl,⟨c,e⟩|e⟩|e
 .have ex:=hx.int_of;have ey:=hy.int_of
  subst ex ey;rw[e]at p;exact ho pI s Y H _ _ v u Q I rx ry ⟨i,j,rfl,rfl,c,p _ H (AN.refl H) rfl⟩
 .rw[e]at p;exact p.elim
 .rw[e]at p;exact p.elim
theorem oS:OpD X CL W (CB .Sub) (Dj .Sub):=by
 intro A pI s Y H x y v u Q I rx ry ⟨hA,dx,dy,hx,hy,p⟩;cases dx with
 |int i=>
  cases dy with
  |int j=>
   have ex:=hx.int_of;have ey:=hy.int_of
   subst ex ey;exact yJ pI s Y H _ _ v u Q I rx ry ⟨i,j,rfl,rfl,p _ H (AN.refl H) rfl⟩
  |_=>exact p.elim
 |_=>exact p.elim
theorem oV:OpD X CL W (CB .Mult) (Dj .Mult):=NS oY λdx dy=>by
 cases dx with
 |int i=>
  cases dy with
  |int j=>
   refine .inl ⟨i,j,rfl,rfl,?_⟩;rw[yT];split
   .rename_i h;exact .inl ⟨rL h,rfl⟩
   .exact .inr rfl
  |_=>exact .inr rfl
 |_=>exact .inr rfl
theorem kI:OpD X CL W (CB .FloorDiv) (Dj .FloorDiv):=NS oZ λdx dy=>by
 cases dx with
 |int i=>
  cases dy with
  |int j=>
   refine .inl ⟨i,j,rfl,rfl,?_⟩;rw[rB];split
   .rename_i h;exact .inl ⟨h,rfl⟩
   .exact .inr rfl
  |_=>exact .inr rfl
 |_=>exact .inr rfl
theorem oW:OpD X CL W (CB .Mod) (Dj .Mod):=NS yL λdx dy=>by
 cases dx with
 |int i=>
  cases dy with
  |int j=>
   refine .inl ⟨i,j,rfl,rfl,?_⟩;rw[yV];split
   .rename_i h;exact .inl ⟨h,rfl⟩
   .exact .inr rfl
  |_=>exact .inr rfl
 |_=>exact .inr rfl
theorem oU:OpD X CL W (CB .Pow) (Dj .Pow):=NS yK λdx dy=>by
 cases dx with
 |int i=>
  cases dy with
  |int j=>
   refine .inl ⟨i,j,rfl,rfl,?_⟩;rw[zP];split
   .rename_i h;exact .inl ⟨⟨h.1.1,h.1.2,by omega⟩,rfl⟩
   .exact .inr rfl
  |_=>exact .inr rfl
 |_=>exact .inr rfl
theorem VF(op:Gn):OpD X CL W (CB op) (Dj op):=by
 cases op with
 |Add=>exact VG
 |Sub=>exact oS
 |Mult=>exact oV
 |FloorDiv=>exact kI
 |Mod=>exact oW
 |Pow=>exact oU
 |_=>
  intro A pI s Y H x y v u Q I rx ry ⟨hA,dx,dy,hx,hy,p⟩;exact p.elim
noncomputable abbrev A0:Am->Prop:=λ_=>BF
theorem Dp.plain(h:Dp K CL H A v d):Rep K CL H A0 v d:=by
 rcases h with h|⟨a,xs,ds,rfl,rfl,e,r⟩
 .exact Rep.sub (λ_ z=>z.elim) d h
 .exact⟨a,xs,rfl,.inl λz=>z.elim,SqL.of e,Reps.sub (λ_ z=>z.elim) ds r⟩
mutual
theorem UD:∀(n:Ag)(d:D),flD n d=Aa->eqD d d=Aa
 |_,.non,_=>rfl
 |_,.bl b,_=>by simp
 |_,.int i,_=>by simp
 |_,.str x,_=>by simp
 |n+1,.tup ds,h=>by
  show eqDs ds ds=Aa;exact eqDs_refl n ds h
 |n+1,.lst ds,h=>by
  show eqDs ds ds=Aa;exact eqDs_refl n ds h
 |0,.tup ds,h=>by cases h
 |0,.lst ds,h=>by cases h
 |n,.obj _ _,h=>by cases n<;>cases h
 |n,.exc _ _,h=>by cases n<;>cases h
 |n,.dic _,h=>by cases n<;>cases h
theorem eqDs_refl:∀(n:Ag)(ds:Ac D),ds.all (flD n)=Aa->eqDs ds ds=Aa
 |_,[],_=>rfl
 |n,d::ds,h=>by
  simp only[Hj,Ap]at h;simp only[P7,Ap];exact⟨UD n d h.1,eqDs_refl n ds h.2⟩
end
theorem Tt{ys:Ac V}(I:Inv X pI Y H s)(h:SqL X.K H a xs)(h':SqT X.K H a ys):BF:=by
 obtain⟨its,r,⟨o,n,e,c,_,_⟩,_⟩:=I.list h;obtain⟨its',r',⟨o',e',c',_⟩,_⟩:=I.tuple h';rw[e]at e';cases e';rw[c]at c'
 injection c' with z
 exact absurd z (by decide)
mutual
theorem NQ{pI:Pn}{Y:L2.St}{H:Hp}{s:As}(I:Inv X pI Y H s):∀(n:Ag)(d e:D){v:V},flD n d=Aa->flD n e=Aa->Rep X.K CL H A0 v d->Rep X.K CL H A0 v e->d=e
 |n,.tup ds,e,v,hd,he,r,q=>by
  obtain⟨a,xs,rfl,_,s1,r1⟩:=r;cases e with
  |tup es=>
   obtain⟨b,ys,e,_,s2,r2⟩:=q;cases e;have z:=I.tuple_inj s1 s2;subst z;cases n with
   |zero=>cases hd
   |succ n=>rw[reps_inj I n ds es hd he r1 r2]
  |lst es=>
   obtain⟨b,ys,e,_,s2,r2⟩:=q;cases e;exact(Tt I s2 s1).elim
  |obj=>cases n<;>cases he
  |exc=>cases n<;>cases he
  |dic=>cases n<;>cases he
  |_=>cases q
 |n,.lst ds,e,v,hd,he,r,q=>by
  obtain⟨a,xs,rfl,_,s1,r1⟩:=r;cases e with
  |lst es=>
   obtain⟨b,ys,e,_,s2,r2⟩:=q;cases e;have z:=I.list_inj s1 s2;subst z;cases n with
   |zero=>cases hd
   |succ n=>rw[reps_inj I n ds es hd he r1 r2]
  |tup es=>
   obtain⟨b,ys,e,_,s2,r2⟩:=q;cases e;exact(Tt I s1 s2).elim
  |obj=>cases n<;>cases he
  |exc=>cases n<;>cases he
  |dic=>cases n<;>cases he
  |_=>cases q
 |n,.obj _ _,e,v,hd,he,r,q=>by cases n<;>cases hd
 |n,.exc _ _,e,v,hd,he,r,q=>by cases n<;>cases hd
 |n,.dic _,e,v,hd,he,r,q=>by cases n<;>cases hd
 |n,.non,e,v,hd,he,r,q=>by
  cases r;cases e with
  |tup=>obtain⟨_,_,z,_⟩:=q;cases z
  |lst=>obtain⟨_,_,z,_⟩:=q;cases z
  |obj=>cases n<;>cases he
  |exc=>cases n<;>cases he
  |dic=>cases n<;>cases he
  |_=>cases q<;>rfl
 |n,.bl b,e,v,hd,he,r,q=>by
  cases r;cases e with
  |tup=>obtain⟨_,_,z,_⟩:=q;cases z
  |lst=>obtain⟨_,_,z,_⟩:=q;cases z
  |obj=>cases n<;>cases he
  |exc=>cases n<;>cases he
  |dic=>cases n<;>cases he
  |_=>cases q<;>rfl
 |n,.int b,e,v,hd,he,r,q=>by
  cases r;cases e with
  |tup=>obtain⟨_,_,z,_⟩:=q;cases z
  |lst=>obtain⟨_,_,z,_⟩:=q;cases z
  |obj=>cases n<;>cases he
  |exc=>cases n<;>cases he
  |dic=>cases n<;>cases he
  |_=>cases q<;>rfl
 |n,.str b,e,v,hd,he,r,q=>by
  cases r;cases e with
  |tup=>obtain⟨_,_,z,_⟩:=q;cases z
  |lst=>obtain⟨_,_,z,_⟩:=q;cases z
  |obj=>cases n<;>cases he
  |exc=>cases n<;>cases he
  |dic=>cases n<;>cases he
  |_=>cases q<;>rfl
theorem reps_inj{pI:Pn}{Y:L2.St}{H:Hp}{s:As}(I:Inv X pI Y H s):∀(n:Ag)(ds es:Ac D){xs:Ac V},ds.all (flD n)=Aa->es.all (flD n)=Aa->Reps X.K CL H A0 xs ds->Reps X.K CL H A0 xs es->ds=es
 |_,[],[],_,_,_,_,_=>rfl
 |n,d::ds,e::es,x::xs,hd,he,r,q=>by
  simp only[Hj,Ap]at hd he;rw[NQ I n d e hd.1 he.1 r.1 q.1,reps_inj I n ds es hd.2 he.2 r.2 q.2]
 |_,[],_::_,[],_,_,_,q=>q.elim
 |_,[],_::_,_::_,_,_,r,_=>r.elim
 |_,_::_,[],[],_,_,r,_=>r.elim
 |_,_::_,[],_::_,_,_,_,q=>q.elim
 |_,_::_,_::_,[],_,_,r,_=>r.elim
end
theorem Ms:∀{ds es:Ac D},ds.length≠es.length->eqDs ds es=Ae
 |[],[],h=>absurd rfl h
 |[],_::_,_=>rfl
 |_::_,[],_=>rfl
 |d::ds,e::es,h=>by
  simp only[P7,Ms (ds:=ds) (es:=es) (by simpa using h),FS]
theorem S6(n:Ag)(f:Ag->Ak):(AT (n+1)).all f=(f 0&&(AT n).all λj=>f (j+1)):=by
 rw[EU,Hj,List.all_map];rfl
theorem Mt:∀{ds es:Ac D},ds.length=es.length->eqDs ds es=(AT ds.length).all λj=>eqD (ds.getD j .non) (es.getD j .non)
 |[],[],_=>rfl
 |d::ds,e::es,h=>by
  rw[P7,Mt (ds:=ds) (es:=es) (by simpa using h),BE,S6]
  rfl
 |[],_::_,h=>by cases h
 |_::_,[],h=>by cases h
theorem KA{ds:Ac D}{its:Ac Ai}(r:Reps K CL H A0 xs ds)(rv:Bj xs its)(h:j<its.length):∃ x,Rep K CL H A0 x (ds.getD j .non)/\Ca x its[j]:=by
 have e1:=rv.length;have e2:=r.length;have hd:ds[j]?=Ab (ds.getD j .non):=by
  rw[Cj,BP (by omega)];rfl
 obtain⟨x,hx,q⟩:=r.get hd;obtain⟨u,hu,ru⟩:=rv.get hx;refine⟨x,q,?_⟩;rw[BP h]at hu;cases hu;exact ru
theorem Ko{ds:Ac D}(h:ds.all (flD n)=Aa)(j:Ag):flD n (ds.getD j .non)=Aa:=by
 rw[Cj];cases e:ds[j]? with
 |none=>cases n<;>rfl
 |some d=>exact List.all_eq_true.mp h d (DM e)
def C7(B:Bc)(s:As)(u t:Ai)(k:Ak):Prop:=KM B s u t k/\GL B s u t k/\JI B s u t (!k)
section
variable{B:Bc}{s:As}
open SeqAt
theorem gf:C7 B s .none .none Aa:=⟨RcAt.none_none,EqAt.same _,RcNeAt.none_none⟩
theorem m7(a b:Ak):C7 B s (.bool a) (.bool b) (a==b):=⟨RcAt.bool_bool _ _,EqAt.bool_bool _ _,RcNeAt.bool_bool _ _⟩
theorem gm(b:Ak):C7 B s .none (.bool b) Ae:=⟨RcAt.none_bool _,EqAt.none_bool _,RcNeAt.none_bool _⟩
theorem lj(b:Ak):C7 B s (.bool b) .none Ae:=⟨RcAt.bool_none _,EqAt.bool_none _,RcNeAt.bool_none _⟩
theorem ku(a:Ad)(t:DO)(b:Ad)(u:DO):C7 B s (.int a t) (.int b u) (a==b):=⟨RcAt.int_int _ _ _ _,EqAt.int_int _ _ _ _,RcNeAt.int_int _ _ _ _⟩
theorem ie(a:An)(t:DO)(b:An)(u:DO):C7 B s (.str a t) (.str b u) (a==b):=⟨RcAt.str_str _ _ _ _,EqAt.str_str _ _ _ _,RcNeAt.str_str _ _ _ _⟩
theorem ko(a:Ad)(t:DO)(b:An)(u:DO):C7 B s (.int a t) (.str b u) Ae:=⟨RcAt.int_str _ _ _ _,EqAt.int_str _ _ _ _,RcNeAt.int_str _ _ _ _⟩
theorem fy(a:An)(t:DO)(b:Ad)(u:DO):C7 B s (.str a t) (.int b u) Ae:=⟨RcAt.str_int _ _ _ _,EqAt.str_int _ _ _ _,RcNeAt.str_int _ _ _ _⟩
theorem gk(b:Ad)(u:DO):C7 B s .none (.int b u) Ae:=⟨RcAt.none_int _ _,EqAt.none_int _ _,RcNeAt.none_int _ _⟩
theorem kq(b:Ad)(u:DO):C7 B s (.int b u) .none Ae:=⟨RcAt.int_none _ _,EqAt.int_none _ _,RcNeAt.int_none _ _⟩
theorem gc(b:An)(u:DO):C7 B s .none (.str b u) Ae:=⟨RcAt.none_str _ _,EqAt.none_str _ _,RcNeAt.none_str _ _⟩
theorem ig(b:An)(u:DO):C7 B s (.str b u) .none Ae:=⟨RcAt.str_none _ _,EqAt.str_none _ _,RcNeAt.str_none _ _⟩
theorem m6(a:Ak)(b:Ad)(u:DO):C7 B s (.bool a) (.int b u) (b2i a==b):=⟨RcAt.bool_int _ _ _,EqAt.bool_int _ _ _,RcNeAt.bool_int _ _ _⟩
theorem kw(a:Ak)(b:Ad)(u:DO):C7 B s (.int b u) (.bool a) (b==b2i a):=⟨RcAt.int_bool _ _ _,EqAt.int_bool _ _ _,RcNeAt.int_bool _ _ _⟩
theorem lh(a:Ak)(b:An)(u:DO):C7 B s (.bool a) (.str b u) Ae:=⟨RcAt.bool_str _ _ _,EqAt.bool_str _ _ _,RcNeAt.bool_str _ _ _⟩
theorem fz(a:Ak)(b:An)(u:DO):C7 B s (.str b u) (.bool a) Ae:=⟨RcAt.str_bool _ _ _,EqAt.str_bool _ _ _,RcNeAt.str_bool _ _ _⟩
variable{l:Am}{items:A1 Ai}
theorem ki(h:s.heap.IsList l items)(hu:B.units<Cs):C7 B s (.ref l) .none Ae:=⟨RcAt.list_none h hu,EqAt.list_none h hu,RcNeAt.list_none h hu⟩
theorem gh(h:s.heap.IsList l items)(hu:B.units<Cs):C7 B s .none (.ref l) Ae:=⟨RcAt.none_list h hu,EqAt.none_list h hu,RcNeAt.none_list h hu⟩
theorem kl(b:Ak)(h:s.heap.IsList l items)(hu:B.units<Cs):C7 B s (.ref l) (.bool b) Ae:=⟨RcAt.list_bool b h hu,EqAt.list_bool b h hu,RcNeAt.list_bool b h hu⟩
theorem lq(b:Ak)(h:s.heap.IsList l items)(hu:B.units<Cs):C7 B s (.bool b) (.ref l) Ae:=⟨RcAt.bool_list b h hu,EqAt.bool_list b h hu,RcNeAt.bool_list b h hu⟩
theorem kj(b:Ad)(u:DO)(h:s.heap.IsList l items)(hu:B.units<Cs):C7 B s (.ref l) (.int b u) Ae:=⟨RcAt.list_int b u h hu,EqAt.list_int b u h hu,RcNeAt.list_int b u h hu⟩
theorem kr(b:Ad)(u:DO)(h:s.heap.IsList l items)(hu:B.units<Cs):C7 B s (.int b u) (.ref l) Ae:=⟨RcAt.int_list b u h hu,EqAt.int_list b u h hu,RcNeAt.int_list b u h hu⟩
theorem kh(b:An)(u:DO)(h:s.heap.IsList l items)(hu:B.units<Cs):C7 B s (.ref l) (.str b u) Ae:=⟨RcAt.list_str b u h hu,EqAt.list_str b u h hu,RcNeAt.list_str b u h hu⟩
theorem fx(b:An)(u:DO)(h:s.heap.IsList l items)(hu:B.units<Cs):C7 B s (.str b u) (.ref l) Ae:=⟨RcAt.str_list b u h hu,EqAt.str_list b u h hu,RcNeAt.str_list b u h hu⟩
theorem gy(h:s.heap.IsTuple l items)(hu:B.units<Cs):C7 B s (.ref l) .none Ae:=⟨RcAt.tuple_none h hu,EqAt.tuple_none h hu,RcNeAt.tuple_none h hu⟩
theorem gb(h:s.heap.IsTuple l items)(hu:B.units<Cs):C7 B s .none (.ref l) Ae:=⟨RcAt.none_tuple h hu,EqAt.none_tuple h hu,RcNeAt.none_tuple h hu⟩
theorem i8(b:Ak)(h:s.heap.IsTuple l items)(hu:B.units<Cs):C7 B s (.ref l) (.bool b) Ae:=⟨RcAt.tuple_bool b h hu,EqAt.tuple_bool b h hu,RcNeAt.tuple_bool b h hu⟩
theorem lg(b:Ak)(h:s.heap.IsTuple l items)(hu:B.units<Cs):C7 B s (.bool b) (.ref l) Ae:=⟨RcAt.bool_tuple b h hu,EqAt.bool_tuple b h hu,RcNeAt.bool_tuple b h hu⟩
theorem i7(b:Ad)(u:DO)(h:s.heap.IsTuple l items)(hu:B.units<Cs):C7 B s (.ref l) (.int b u) Ae:=⟨RcAt.tuple_int b u h hu,EqAt.tuple_int b u h hu,RcNeAt.tuple_int b u h hu⟩
theorem km(b:Ad)(u:DO)(h:s.heap.IsTuple l items)(hu:B.units<Cs):C7 B s (.int b u) (.ref l) Ae:=⟨RcAt.int_tuple b u h hu,EqAt.int_tuple b u h hu,RcNeAt.int_tuple b u h hu⟩
theorem gw(b:An)(u:DO)(h:s.heap.IsTuple l items)(hu:B.units<Cs):C7 B s (.ref l) (.str b u) Ae:=⟨RcAt.tuple_str b u h hu,EqAt.tuple_str b u h hu,RcNeAt.tuple_str b u h hu⟩
theorem i9(b:An)(u:DO)(h:s.heap.IsTuple l items)(hu:B.units<Cs):C7 B s (.str b u) (.ref l) Ae:=⟨RcAt.str_tuple b u h hu,EqAt.str_tuple b u h hu,RcNeAt.str_tuple b u h hu⟩
theorem gp(h:s.heap.IsList l items)(h2:s.heap.IsTuple b items2)(hu:B.units<Cs):C7 B s (.ref l) (.ref b) Ae:=⟨RcAt.list_tuple h h2 hu,EqAt.list_tuple h h2 hu,RcNeAt.list_tuple h h2 hu⟩
theorem i6(h:s.heap.IsTuple l items)(h2:s.heap.IsList b items2)(hu:B.units<Cs):C7 B s (.ref l) (.ref b) Ae:=⟨RcAt.tuple_list h h2 hu,EqAt.tuple_list h h2 hu,RcNeAt.tuple_list h h2 hu⟩
end
end
section
variable{X:Cx}{CL:ClA}{W:XW}
theorem ID(x:PlainL h a its):h.IsList a its:=let ⟨o,n,e,c,_,d⟩:=x;⟨o,e,c,n,d⟩
def bE(X:Cx)(CL:ClA)(H:Hp)(s:As)(d:D)(u:Ai):Prop:=match d with
  |.non=>u=.none
  |.bl b=>u=.bool b
  |.int i=>∃ t,u=.int i t
  |.str x=>∃ t,u=.str x t
  |.tup ds=>∃ a xs its,u=.ref a/\Reps X.K CL H A0 xs ds/\Bj xs its/\s.heap.IsTuple a its.toArray
  |.lst ds=>∃ a xs its,u=.ref a/\Reps X.K CL H A0 xs ds/\Bj xs its/\s.heap.IsList a its.toArray
  |_=>BF
theorem Vh(I:Inv X pI Y H s)(hd:flD n d=Aa)(r:Rep X.K CL H A0 v d)(q:Ca v u):bE X CL H s d u:=by
 cases d with
 |non=>cases r;exact q
 |bl b=>cases r;exact q
 |int b=>cases r;exact q
 |str b=>cases r;exact q
 |tup ds=>
  obtain⟨a,xs,rfl,_,sq,r⟩:=r;obtain⟨its,rv,p,_⟩:=I.tuple sq;cases q;exact⟨a,xs,its,rfl,r,rv,p⟩
 |lst ds=>
  obtain⟨a,xs,rfl,_,sq,r⟩:=r;obtain⟨its,rv,p,_⟩:=I.list sq;cases q;exact⟨a,xs,its,rfl,r,rv,ID p⟩
 |obj=>cases n<;>cases hd
 |exc=>cases n<;>cases hd
 |dic=>cases n<;>cases hd
theorem mS{B:Bc}{its:Ac Ai}{ds es:Ac D}(hl:s.heap.IsList l its.toArray)(hb:s.heap.IsList b its2.toArray)(e1:its.length=ds.length)(e2:its2.length=es.length)(hu:B.units<Cs)(hs:l=b->eqDs ds es=Aa)(he:∀ j (h1:j<its.length) (h2:j<its2.length),GL B.in1 s its[j] its2[j] (eqD (ds.getD j .non) (es.getD j .non))):C7 B s (.ref l) (.ref b) (eqDs ds es):=by
 have rc:KM B s (.ref l) (.ref b) (eqDs ds es):=by
  by_cases hz:its.length=its2.length
  .have q:=SeqAt.RcAt.lists (e:=λj=>eqD (ds.getD j .non) (es.getD j .non)) hl hb (by simpa using hz) hu (λj h1 h2=>by simpa using he j (by simpa using h1) (by simpa using h2))
   rw[Mt (by omega)]
   have e:its.toArray.size=ds.length:=by simpa using e1
   rw[e]at q;exact q
  .rw[Ms (by omega)]
   exact SeqAt.RcAt.lists_lengths hl hb (by simpa using hz) hu
 have ne:JI B s (.ref l) (.ref b) (!eqDs ds es):=by
  by_cases hz:its.length=its2.length
  .have q:=SeqAt.RcNeAt.lists (e:=λj=>eqD (ds.getD j .non) (es.getD j .non)) hl hb (by simpa using hz) hu (λj h1 h2=>by simpa using he j (by simpa using h1) (by simpa using h2))
   rw[Mt (by omega)]
   have e:its.toArray.size=ds.length:=by simpa using e1
   rw[e]at q;exact q
  .rw[Ms (by omega)]
   exact SeqAt.RcNeAt.lists_lengths hl hb (by simpa using hz) hu
 refine⟨rc,?_,ne⟩;by_cases hlb:l=b
 .rw[hs hlb,hlb];exact Y_7 _
 .exact Y_6 hlb rc
theorem mR{B:Bc}{its:Ac Ai}{ds es:Ac D}(hl:s.heap.IsTuple l its.toArray)(hb:s.heap.IsTuple b its2.toArray)(e1:its.length=ds.length)(e2:its2.length=es.length)(hu:B.units<Cs)(hs:l=b->eqDs ds es=Aa)(he:∀ j (h1:j<its.length) (h2:j<its2.length),GL B.in1 s its[j] its2[j] (eqD (ds.getD j .non) (es.getD j .non))):C7 B s (.ref l) (.ref b) (eqDs ds es):=by
 have rc:KM B s (.ref l) (.ref b) (eqDs ds es):=by
  have q:=SeqAt.RcAt.tuples (e:=λj=>eqD (ds.getD j .non) (es.getD j .non)) hl hb hu (λj h1 h2=>by simpa using he j (by simpa using h1) (by simpa using h2))
  have e:its.toArray.size=ds.length:=by simpa using e1
  have e':its2.toArray.size=es.length:=by simpa using e2
  rw[e,e']at q;by_cases hz:ds.length=es.length
  .rw[Mt hz];rw[hz,X3,EG,Xj]at q;rw[hz];exact q
  .rw[Ms hz];rw[Du.mpr hz,FS]at q;exact q
 have ne:JI B s (.ref l) (.ref b) (!eqDs ds es):=by
  have q:=SeqAt.RcNeAt.tuples (e:=λj=>eqD (ds.getD j .non) (es.getD j .non)) hl hb hu (λj h1 h2=>by simpa using he j (by simpa using h1) (by simpa using h2))
  have e:its.toArray.size=ds.length:=by simpa using e1
  have e':its2.toArray.size=es.length:=by simpa using e2
  rw[e,e']at q;by_cases hz:ds.length=es.length
  .rw[Mt hz];rw[hz,X3,EG,Xj]at q;rw[hz];exact q
  .rw[Ms hz];rw[Du.mpr hz,FS]at q;exact q
 refine⟨rc,?_,ne⟩;by_cases hlb:l=b
 .rw[hs hlb,hlb];exact Y_7 _
 .exact Y_6 hlb rc
theorem MP{pI:Pn}{Y:L2.St}{H:Hp}{s:As}(I:Inv X pI Y H s):∀(n:Ag)(d e:D)(v w':V)(u t:Ai)(B:Bc),flD n d=Aa->flD n e=Aa->Rep X.K CL H A0 v d->Rep X.K CL H A0 w' e->Ca v u->Ca w' t->B.units+n<Cs->C7 B s u t (eqD d e)
  |n,d,e,v,w',u,t,B,hd,he,r,q,rv,rw',hu=>by
    have hu0:B.units<Cs:=by omega
    have sd:=Vh I hd r rv;have se:=Vh I he q rw'
    match d,e,sd,se with
    |.non,.non,s1,s2=>cases s1;cases s2;exact gf
    |.non,.bl b,s1,s2=>cases s1;cases s2;exact gm b
    |.non,.int b,s1,s2=>cases s1;obtain⟨_,rfl⟩:=s2;exact gk b _
    |.non,.str b,s1,s2=>cases s1;obtain⟨_,rfl⟩:=s2;exact gc b _
    |.non,.tup es,s1,s2=>cases s1;obtain⟨_,_,_,rfl,_,_,p⟩:=s2;exact gb p hu0
    |.non,.lst es,s1,s2=>cases s1;obtain⟨_,_,_,rfl,_,_,p⟩:=s2;exact gh p hu0
    |.bl a,.non,s1,s2=>cases s1;cases s2;exact lj a
    |.bl a,.bl b,s1,s2=>cases s1;cases s2;exact m7 a b
    |.bl a,.int b,s1,s2=>cases s1;obtain⟨_,rfl⟩:=s2;exact m6 a b _
    |.bl a,.str b,s1,s2=>cases s1;obtain⟨_,rfl⟩:=s2;exact lh a b _
    |.bl a,.tup es,s1,s2=>cases s1;obtain⟨_,_,_,rfl,_,_,p⟩:=s2;exact lg a p hu0
    |.bl a,.lst es,s1,s2=>cases s1;obtain⟨_,_,_,rfl,_,_,p⟩:=s2;exact lq a p hu0
    |.int a,.non,s1,s2=>obtain⟨_,rfl⟩:=s1;cases s2;exact kq a _
    |.int a,.bl b,s1,s2=>obtain⟨_,rfl⟩:=s1;cases s2;exact kw b a _
    |.int a,.int b,s1,s2=>obtain⟨_,rfl⟩:=s1;obtain⟨_,rfl⟩:=s2;exact ku a _ b _
    |.int a,.str b,s1,s2=>obtain⟨_,rfl⟩:=s1;obtain⟨_,rfl⟩:=s2;exact ko a _ b _
    |.int a,.tup es,s1,s2=>obtain⟨_,rfl⟩:=s1;obtain⟨_,_,_,rfl,_,_,p⟩:=s2;exact km a _ p hu0
    |.int a,.lst es,s1,s2=>obtain⟨_,rfl⟩:=s1;obtain⟨_,_,_,rfl,_,_,p⟩:=s2;exact kr a _ p hu0
    |.str a,.non,s1,s2=>obtain⟨_,rfl⟩:=s1;cases s2;exact ig a _
    |.str a,.bl b,s1,s2=>obtain⟨_,rfl⟩:=s1;cases s2;exact fz b a _
    |.str a,.int b,s1,s2=>obtain⟨_,rfl⟩:=s1;obtain⟨_,rfl⟩:=s2;exact fy a _ b _
    |.str a,.str b,s1,s2=>obtain⟨_,rfl⟩:=s1;obtain⟨_,rfl⟩:=s2;exact ie a _ b _
    |.str a,.tup es,s1,s2=>obtain⟨_,rfl⟩:=s1;obtain⟨_,_,_,rfl,_,_,p⟩:=s2;exact i9 a _ p hu0
    |.str a,.lst es,s1,s2=>obtain⟨_,rfl⟩:=s1;obtain⟨_,_,_,rfl,_,_,p⟩:=s2;exact fx a _ p hu0
    |.tup ds,.non,s1,s2=>cases s2;obtain⟨_,_,_,rfl,_,_,p⟩:=s1;exact gy p hu0
    |.tup ds,.bl b,s1,s2=>cases s2;obtain⟨_,_,_,rfl,_,_,p⟩:=s1;exact i8 b p hu0
    |.tup ds,.int b,s1,s2=>obtain⟨_,rfl⟩:=s2;obtain⟨_,_,_,rfl,_,_,p⟩:=s1;exact i7 b _ p hu0
    |.tup ds,.str b,s1,s2=>obtain⟨_,rfl⟩:=s2;obtain⟨_,_,_,rfl,_,_,p⟩:=s1;exact gw b _ p hu0
    |.tup ds,.lst es,s1,s2=>obtain⟨_,_,_,rfl,_,_,p⟩:=s1;obtain⟨_,_,_,rfl,_,_,p2⟩:=s2;exact i6 p p2 hu0
    |.lst ds,.non,s1,s2=>cases s2;obtain⟨_,_,_,rfl,_,_,p⟩:=s1;exact ki p hu0
    |.lst ds,.bl b,s1,s2=>cases s2;obtain⟨_,_,_,rfl,_,_,p⟩:=s1;exact kl b p hu0
    |.lst ds,.int b,s1,s2=>obtain⟨_,rfl⟩:=s2;obtain⟨_,_,_,rfl,_,_,p⟩:=s1;exact kj b _ p hu0
    |.lst ds,.str b,s1,s2=>obtain⟨_,rfl⟩:=s2;obtain⟨_,_,_,rfl,_,_,p⟩:=s1;exact kh b _ p hu0
    |.lst ds,.tup es,s1,s2=>obtain⟨_,_,_,rfl,_,_,p⟩:=s1;obtain⟨_,_,_,rfl,_,_,p2⟩:=s2;exact gp p p2 hu0
    |.tup ds,.tup es,s1,s2=>
      match n,hd,he,hu with
      |n+1,hd,he,hu=>
        obtain⟨a,xs,its,rfl,r1,v1,p1⟩:=s1;obtain⟨b,ys,its2,rfl,r2,v2,p2⟩:=s2;have l1:=v1.length;have l2:=r1.length;have l3:=v2.length;have l4:=r2.length
        refine mR p1 p2 (by omega) (by omega) hu0 (λhab=>?_) λj h1 h2=>?_
        · have e1:v=.ref a:=Ca.inj rv rfl;have e2:w'=.ref b:=Ca.inj rw' rfl;subst e1 e2 hab;have z:=NQ I (n+1) _ _ hd he r q
          injection z with z
          rw[z];exact eqDs_refl n es he
        · obtain⟨x,rx,qx⟩:=KA r1 v1 h1;obtain⟨y,ry,qy⟩:=KA r2 v2 h2;exact(MP I n _ _ x y _ _ B.in1 (Ko hd j) (Ko he j) rx ry qx qy (by show B.units+1+n<Cs;omega)).2.1
    |.lst ds,.lst es,s1,s2=>
      match n,hd,he,hu with
      |n+1,hd,he,hu=>
        obtain⟨a,xs,its,rfl,r1,v1,p1⟩:=s1;obtain⟨b,ys,its2,rfl,r2,v2,p2⟩:=s2;have l1:=v1.length;have l2:=r1.length;have l3:=v2.length;have l4:=r2.length
        refine mS p1 p2 (by omega) (by omega) hu0 (λhab=>?_) λj h1 h2=>?_
        · have e1:v=.ref a:=Ca.inj rv rfl;have e2:w'=.ref b:=Ca.inj rw' rfl;subst e1 e2 hab;have z:=NQ I (n+1) _ _ hd he r q
          injection z with z
          rw[z];exact eqDs_refl n es he
        · obtain⟨x,rx,qx⟩:=KA r1 v1 h1;obtain⟨y,ry,qy⟩:=KA r2 v2 h2;exact(MP I n _ _ x y _ _ B.in1 (Ko hd j) (Ko he j) rx ry qx qy (by show B.units+1+n<Cs;omega)).2.1
    |.obj _ _,_,s1,_=>exact s1.elim
    |.exc _ _,_,s1,_=>exact s1.elim
    |.dic _,_,s1,_=>exact s1.elim
    |_,.obj _ _,_,s2=>exact s2.elim
    |_,.exc _ _,_,s2=>exact s2.elim
    |_,.dic _,_,s2=>exact s2.elim
end
section
variable{X:Cx}{CL:ClA}{W:XW}
theorem Oj(I:Inv X pI Y H s){ds:Ac D}{its:Ac Ai}(B:Bc)(hd:flD n d=Aa)(hs:ds.all (flD n)=Aa)(r:Reps X.K CL H A0 xs ds)(rv:Bj xs its)(q:Rep X.K CL H A0 v d)(qv:Ca v u)(hu:B.units+n<Cs):∃ e:Ai->Ak,(∀ y,y∈its.toArray->GL B s y u (e y))/\its.toArray.any e=ds.any λy=>eqD y d:=by
 have l1:=rv.length;have l2:=r.length
 have key:∀ y,y∈its->∃ k:Ak,GL B s y u k/\∀ j (h:j<its.length),its[j]=y->eqD (ds.getD j .non) d=k:=λy hy=>by
  obtain⟨j,hj,rfl⟩:=DY hy;obtain⟨x,rx,qx⟩:=KA r rv hj;refine⟨eqD (ds.getD j .non) d,(MP I n _ _ x v _ _ B (Ko hs j) hd rx q qx qv hu).2.1,λj' hj' e=>?_⟩
  obtain⟨x',rx',qx'⟩:=KA r rv hj';rw[e]at qx';have z:=Ca.inj qx qx';subst z;rw[NQ I n _ _ (Ko hs j') (Ko hs j) rx' rx]
 have key2:∀ y,∃ k:Ak,y∈its->GL B s y u k/\∀ j (h:j<its.length),its[j]=y->eqD (ds.getD j .non) d=k:=λy=>by
  by_cases hy:y∈its
  .obtain⟨k,hk⟩:=key y hy;exact⟨k,λ_=>hk⟩
  .exact⟨Aa,λh=>absurd h hy⟩
 refine⟨λy=>HJ (key2 y),λy hy=>(DE (key2 y) (by simpa using hy)).1,?_⟩
 rw[C8];simp only[List.any_toArray,Gk];constructor
 .rintro⟨y,hy,hk⟩;obtain⟨j,hj,rfl⟩:=DY hy;have z:=(DE (key2 its[j]) hy).2 j hj rfl;rw[hk]at z;refine⟨ds.getD j .non,?_,z⟩;rw[Cj,BP (by omega)]
  exact Dd _
 .rintro⟨y,hy,hk⟩;obtain⟨j,hj,rfl⟩:=DY hy;have hj':j<its.length:=by omega
  refine⟨its[j],Dd _,?_⟩;have z:=(DE (key2 its[j]) (Dd _)).2 j hj' rfl;rw[<-z,Cj,BP hj];exact hk
theorem NI{g:Ad->Ad->Ak}(ho:OpR X (C3 op) (rI0 λi j=>.bl (g i j)))(hg:∀ dx dy,(∃ i j,dx=.int i/\dy=.int j/\B9 op dx dy=.ok (.bl (g i j)))\/B9 op dx dy=.bad):OpD X CL W (C3 op) (B9 op):=by
 intro A pI s Y H x y v u Q I rx ry ⟨hA,dx,dy,hx,hy,p⟩;rcases hg dx dy with ⟨i,j,rfl,rfl,e⟩|e
 .have ex:=hx.int_of;have ey:=hy.int_of
  subst ex ey;rw[e]at p;exact ho pI s Y H _ _ v u Q I rx ry ⟨i,j,rfl,rfl,p _ H (AN.refl H) rfl⟩
 .rw[e]at p;exact p.elim
theorem Wj{x:V}(h:Dp X.K CL H A x d)(hd:d≠.non):x≠.non:=by
 rintro rfl;have h:=h.plain;cases d with
 |non=>exact hd rfl
 |tup=>obtain⟨_,_,e,_⟩:=h;cases e
 |lst=>obtain⟨_,_,e,_⟩:=h;cases e
 |obj=>obtain⟨_,_,_,_,e,_⟩:=h;cases e
 |exc=>obtain⟨_,_,_,e,_⟩:=h;cases e
 |dic=>exact h.elim
 |_=>cases h
theorem Li(hu:X.A.units+64<Cs)(op:DI):OpD X CL W (C3 op) (B9 op):=by
 cases op with
 |Eq=>
  intro A pI s Y H x y v u Q I rx ry ⟨hA,dx,dy,hx,hy,p⟩;rw[aD]at p;split at p
  .rename_i h;simp only[Ap]at h;exact(MP I 5 dx dy x y v u X.A h.1 h.2 hx.plain hy.plain rx ry (by omega)).1 X.prog X.w X.xe _ ⟨.bl _,H,I,rfl,p _ H (AN.refl H) rfl⟩
  .exact p.elim
 |NotEq=>
  intro A pI s Y H x y v u Q I rx ry ⟨hA,dx,dy,hx,hy,p⟩;rw[jk]at p;split at p
  .rename_i h;simp only[Ap]at h;exact(MP I 5 dx dy x y v u X.A h.1 h.2 hx.plain hy.plain rx ry (by omega)).2.2 X.prog X.w X.xe _ ⟨.bl _,H,I,rfl,p _ H (AN.refl H) rfl⟩
  .exact p.elim
 |Lt=>
  refine NI ka λdx dy=>?_
  cases dx with
  |int i=>
   cases dy with
   |int j=>exact .inl ⟨i,j,rfl,rfl,rfl⟩
   |_=>exact .inr rfl
  |_=>exact .inr rfl
 |LtE=>
  refine NI kc λdx dy=>?_
  cases dx with
  |int i=>
   cases dy with
   |int j=>exact .inl ⟨i,j,rfl,rfl,rfl⟩
   |_=>exact .inr rfl
  |_=>exact .inr rfl
 |Gt=>
  refine NI ke λdx dy=>?_
  cases dx with
  |int i=>
   cases dy with
   |int j=>exact .inl ⟨i,j,rfl,rfl,rfl⟩
   |_=>exact .inr rfl
  |_=>exact .inr rfl
 |GtE=>
  refine NI kf λdx dy=>?_
  cases dx with
  |int i=>
   cases dy with
   |int j=>exact .inl ⟨i,j,rfl,rfl,rfl⟩
   |_=>exact .inr rfl
  |_=>exact .inr rfl
 |In=>
  intro A pI s Y H x y v u Q I rx ry ⟨hA,dx,dy,hx,hy,p⟩;cases dy with
  |lst es=>
   rw[bP]at p;split at p
   .rename_i h;simp only[Ap]at h;obtain⟨a,xs,e,_,sq,r⟩:=hy.plain;subst e;cases ry;obtain⟨its,rv,pl,_⟩:=I.list sq;obtain⟨e,he,ha⟩:=Oj I (n:=5) X.A.in1 h.1 h.2 r rv hx.plain rx (by show X.A.units+1+5<Cs;omega)
    refine SeqAt.in_listAt e (ID pl) he ?_;rw[ha];exact⟨.bl _,H,I,rfl,p _ H (AN.refl H) rfl⟩
   .exact p.elim
  |tup es=>
   rw[bO]at p;split at p
   .rename_i h;simp only[Ap]at h;obtain⟨a,xs,e,_,sq,r⟩:=hy.plain;subst e;cases ry;obtain⟨its,rv,pl,_⟩:=I.tuple sq;obtain⟨e,he,ha⟩:=Oj I (n:=5) X.A.in1 h.1 h.2 r rv hx.plain rx (by show X.A.units+1+5<Cs;omega)
    refine SeqAt.in_tupleAt e pl he ?_;rw[ha];exact⟨.bl _,H,I,rfl,p _ H (AN.refl H) rfl⟩
   .exact p.elim
  |dic kvs=>exact hy.plain.elim
  |_=>exact p.elim
 |NotIn=>
  intro A pI s Y H x y v u Q I rx ry ⟨hA,dx,dy,hx,hy,p⟩;cases dy with
  |lst es=>
   rw[jg]at p;split at p
   .rename_i h;simp only[Ap]at h;obtain⟨a,xs,e,_,sq,r⟩:=hy.plain;subst e;cases ry;obtain⟨its,rv,pl,_⟩:=I.list sq;obtain⟨e,he,ha⟩:=Oj I (n:=5) X.A.in1 h.1 h.2 r rv hx.plain rx (by show X.A.units+1+5<Cs;omega)
    refine SeqAt.notIn_listAt e (ID pl) he ?_;rw[ha];exact⟨.bl _,H,I,rfl,p _ H (AN.refl H) rfl⟩
   .exact p.elim
  |tup es=>
   rw[jf]at p;split at p
   .rename_i h;simp only[Ap]at h;obtain⟨a,xs,e,_,sq,r⟩:=hy.plain;subst e;cases ry;obtain⟨its,rv,pl,_⟩:=I.tuple sq;obtain⟨e,he,ha⟩:=Oj I (n:=5) X.A.in1 h.1 h.2 r rv hx.plain rx (by show X.A.units+1+5<Cs;omega)
    refine SeqAt.notIn_tupleAt e pl he ?_;rw[ha];exact⟨.bl _,H,I,rfl,p _ H (AN.refl H) rfl⟩
   .exact p.elim
  |_=>exact p.elim
 |Is=>
  intro A pI s Y H x y v u Q I rx ry ⟨hA,dx,dy,hx,hy,p⟩;cases dy with
  |non=>
   have ey:=hy.non_of;subst ey;refine yM pI s Y H _ _ v u Q I rx ry ⟨rfl,?_⟩;cases dx with
   |non=>
    have ex:=hx.non_of;subst ex;exact p _ H (AN.refl H) rfl
   |exc=>exact p.elim
   |dic=>exact p.elim
   |_=>rw[B5 (Wj hx (by simp))];exact p _ H (AN.refl H) rfl
  |bl b=>
   cases dx with
   |bl a=>
    have ey:=hy.bl_of;have ex:=hx.bl_of;subst ex ey;cases rx;cases ry;refine wpAny_is_plain rfl ⟨.bl (a==b),H,I,?_,p _ H (AN.refl H) rfl⟩;cases a<;>cases b<;>rfl
   |_=>exact p.elim
  |_=>cases dx<;>exact p.elim
 |IsNot=>
  intro A pI s Y H x y v u Q I rx ry ⟨hA,dx,dy,hx,hy,p⟩;cases dy with
  |non=>
   have ey:=hy.non_of;subst ey;refine oX pI s Y H _ _ v u Q I rx ry ⟨rfl,?_⟩;cases dx with
   |non=>
    have ex:=hx.non_of;subst ex;exact p _ H (AN.refl H) rfl
   |exc=>exact p.elim
   |dic=>exact p.elim
   |_=>rw[B5 (Wj hx (by simp))];exact p _ H (AN.refl H) rfl
  |bl b=>
   cases dx with
   |bl a=>
    have ey:=hy.bl_of;have ex:=hx.bl_of;subst ex ey;cases rx;cases ry;refine wpAny_isNot_plain rfl ⟨.bl (!(a==b)),H,I,?_,p _ H (AN.refl H) rfl⟩;cases a<;>cases b<;>rfl
   |_=>exact p.elim
  |_=>cases dx<;>exact p.elim
end
section
variable{X:Cx}{CL:ClA}{W:XW}{a b c:Ao}{fa fb fc:Rho->R D}{pos:A6}
theorem DD.bind{f:D->R Ak}{Q:Ak->Hp->Prop}{Q':VK}(h:DD W H (r.bind f) Q)(k:∀ d v H',r=.ok d->AN H H'->Rp H' v d->DD W H' (f d) Q->Q' v H'):By Rp W H r Q':=by
 cases r with
 |ok d=>exact λv H2 s2 q=>k d v H2 rfl s2 q (DD.same s2 h)
 |exn x=>exact h
 |bad=>exact h
theorem DD.bindB{r:R Ak}{f:Ak->R Ak}{Q:Ak->Hp->Prop}{Q':Ak->Hp->Prop}(h:DD W H (r.bind f) Q)(k:∀ b H',r=.ok b->AN H H'->DD W H' (f b) Q->Q' b H'):DD W H r Q':=by
 cases r with
 |ok d=>exact λH2 s2=>k d H2 rfl s2 (DD.same s2 h)
 |exn x=>exact h
 |bad=>exact h
theorem Ig.bind{Rp:Hp->Ac V->Ac D->Prop}{r:R (Ac D)}{f:Ac D->R D}{Q':Ac V->Hp->Prop}(h:By Rq W H (r.bind f) Q)(k:∀ d v H',r=.ok d->AN H H'->Rp H' v d->By Rq W H' (f d) Q->Q' v H'):Ig Rp W H r Q':=by
 cases r with
 |ok d=>exact λv H2 s2 q=>k d v H2 rfl s2 q (By.same s2 h)
 |exn x=>exact h
 |bad=>exact h
theorem xM(ha:ST X CL W a fa):SE X CL W (.UnaryOp .USub a pos) (λU=>(fa U).bind λx=>unD .USub x):=λA=>PE.weak (jy uY (ha A)) λY H Q ⟨hA,U,g,p⟩=>⟨hA,U,g,By.bind p λd v H1 _ s1 r1 p1=>by
 cases d with
 |int i=>
  have e:=r1.int_of;subst e;exact⟨i,rfl,p1 _ H1 (AN.refl H1) rfl⟩
 | _=>exact p1.elim⟩
theorem NO{f:Ak->R D}(h:By Rq W H ((Ek d).bind f) Q):∃ c,d=.bl c/\By Rq W H (f c) Q:=by
 cases d with
 |bl c=>exact⟨c,rfl,h⟩
 |_=>exact h.elim
theorem xK(ha:ST X CL W a fa):SE X CL W (.UnaryOp .Not a pos) (λU=>(fa U).bind λx=>(Ek x).bind λb=>.ok (.bl (!b))):=λA=>PE.weak (zY (ha A)) λY H Q ⟨hA,U,g,p⟩=>⟨hA,U,g,By.bind p λd v H1 _ s1 r1 p1=>by
 obtain⟨c,rfl,p2⟩:=NO p1;exact⟨c,r1.bl_of,p2 _ H1 (AN.refl H1) rfl⟩⟩
theorem WD{op}(ha:SE X CL W a fa):SE X CL W (.BoolOp op [a] pos) fa:=λA=>zX (ha A)
theorem xT{rest:Ac Ao}(ha:SE X CL W a fa)(hb:SE X CL W (.BoolOp .And (b::rest) pos) fb):SE X CL W (.BoolOp .And (a::b::rest) pos) (λU=>(fa U).bind λx=>(Ek x).bind λc=>if c=Aa then fb U else .ok (.bl Ae)):=
 λA=>PE.weak (yH (ha A) (hb A)) λY H Q ⟨hA,U,g,p⟩=>⟨hA,U,g,By.bind p λd v H1 _ s1 r1 p1=>by
  obtain⟨c,rfl,p2⟩:=NO p1;refine⟨c,r1,?_⟩;cases c with
  |true=>exact⟨hA.same s1,U,g.same s1,p2⟩
  | false=>exact p2 _ H1 (AN.refl H1) rfl⟩
theorem gr{rest:Ac Ao}(ha:SE X CL W a fa)(hb:SE X CL W (.BoolOp .Or (b::rest) pos) fb):SE X CL W (.BoolOp .Or (a::b::rest) pos) (λU=>(fa U).bind λx=>(Ek x).bind λc=>if c=Aa then .ok (.bl Aa) else fb U):=
 λA=>PE.weak (jz (ha A) (hb A)) λY H Q ⟨hA,U,g,p⟩=>⟨hA,U,g,By.bind p λd v H1 _ s1 r1 p1=>by
  obtain⟨c,rfl,p2⟩:=NO p1;refine⟨c,r1,?_⟩;cases c with
  |false=>exact⟨hA.same s1,U,g.same s1,p2⟩
  | true=>exact p2 _ H1 (AN.refl H1) rfl⟩
theorem gO{op':DI}(hu:X.A.units+64<Cs)(ha:ST X CL W a fa)(hb:ST X CL W b fb)(hc:ST X CL W c fc)(hm:JM [op,op'] [b,c]=Ae):SE X CL W (.Compare a [op,op'] [b,c] pos) (λU=>(fa U).bind λx=>(fb U).bind λy=>(B9 op x y).bind λz=>(Ek z).bind λk=>if k=Aa then (fc U).bind λu=>B9 op' y u else .ok (.bl Ae)):=
 λA=>PE.weak (kD (Li hu op A) (Li hu op' A) (ha A) (hb A) (hc A) hm) λY H Q ⟨hA,U,g,p⟩=>⟨hA,U,g,By.bind p λdx x H1 _ s1 r1 p1=>⟨hA.same s1,U,g.same s1,By.bind p1 λdy y H2 _ s2 r2 p2=>
  ⟨(hA.same s1).same s2,dx,dy,r1.same s2,r2,By.bind p2 λdz z H3 _ s3 r3 p3=>by
   obtain⟨k,rfl,p4⟩:=NO p3;refine⟨k,r3,?_⟩;cases k with
   |false=>exact p4 _ H3 (AN.refl H3) rfl
   | true=>exact⟨((hA.same s1).same s2).same s3,U,((g.same s1).same s2).same s3,By.bind p4 λdu u H4 _ s4 r4 p5=>⟨(((hA.same s1).same s2).same s3).same s4,dy,du,(r2.same s3).same s4,r4,p5⟩⟩⟩⟩⟩
theorem qX{xs:Ac D}{i:Ad}(h:DA xs i=.ok d):∃ k,plD xs.length i=Ab k/\xs[k]?=Ab d:=by
 unfold DA at h;split at h
 .rename_i k e;split at h
  .rename_i d' e';cases h;exact⟨k,e,e'⟩
  .cases h
 .cases h
theorem U_4{xs:Ac D}{i:Ad}(h:DA xs i=.exn x):BF:=by
 unfold DA at h;split at h
 .split at h<;>cases h
 .cases h
theorem VP{ds:Ac D}{i:Ad}(r:Reps K CL H A xs ds)(h:DA ds i=.ok d):∃ v,atI xs i=Ab v/\Rep K CL H A v d:=by
 obtain⟨k,e,q⟩:=qX h;obtain⟨v,hv,rv⟩:=r.get q;refine⟨v,?_,rv⟩;unfold atI;have:ixN xs.length i=Ab k:=by rw[r.length];exact e
 rw[this];exact hv
theorem xP(hs:QY b)(ha:ST X CL W a fa)(hb:ST X CL W b fb):SE X CL W (.Subscript a b pos) (λU=>(fa U).bind λx=>(fb U).bind λy=>B8 x y):=
 λA=>PE.weak (k4 (r:=λx y H Q=>SU X.K x y H Q\/SR X.K x y H Q) (qM.or bv) (ha A) (hb A) hs) λY H Q h=>by
  obtain⟨hA,U,g,h⟩:=op2 h;refine⟨hA,U,g,?_⟩;cases e:fa U with
  |bad=>rw[e]at h;exact h
  |exn x=>rw[e]at h;exact h
  |ok dx0=>
   rw[e]at h;intro x H1 s1 r1;obtain⟨hA1,U1,g1,h1⟩:=h x H1 s1 r1;refine⟨hA1,U1,g1,?_⟩;cases e1:fb U1 with
   |bad=>rw[e1]at h1;exact h1
   |exn x=>rw[e1]at h1;exact h1
   |ok dy0=>
    rw[e1]at h1;intro y H2 s2 r2;obtain⟨hA2,dx,dy,rx,ry,p⟩:=h1 y H2 s2 r2;cases dy with
    |int i=>
     have ey:=ry.int_of;subst ey;cases dx with
     |lst ds=>
      obtain⟨q,xs,rfl,sq,r⟩:=rx.lst_of;rw[ZO]at p;cases e2:DA ds i with
      |ok d=>
       rw[e2]at p;obtain⟨v,hv,rv⟩:=VP r e2;exact .inl ⟨q,xs,i,v,rfl,rfl,sq,hv,p v H2 (AN.refl H2) rv⟩
      |exn x=>exact(U_4 e2).elim
      |bad=>rw[e2]at p;exact p.elim
     |tup ds=>
      obtain⟨q,xs,rfl,_,sq,r⟩:=rx.tup_of;rw[Z_5]at p;cases e2:DA ds i with
      |ok d=>
       rw[e2]at p;obtain⟨v,hv,rv⟩:=VP r e2;exact .inr ⟨q,xs,i,v,rfl,rfl,sq,hv,p v H2 (AN.refl H2) rv⟩
      |exn x=>exact(U_4 e2).elim
      |bad=>rw[e2]at p;exact p.elim
     |dic=>exact rx.plain.elim
     |_=>exact p.elim
    |_=>cases dx<;>first|exact p.elim|exact rx.plain.elim
theorem wD:SA X CL W [] (λ_=>.ok []):=λA=>PA.weak G5 λY H Q ⟨hA,U,g,p⟩=>p [] H (AN.refl H) trivial
theorem mM(ha:SE X CL W a fa)(hs:SA X CL W es fs)(hst:AI (a::es) X.env=(Ae,eval a X.env)::AI es X.env):SA X CL W (a::es) (λU=>(fa U).bind λx=>(fs U).bind λxs=>.ok (x::xs)):=
 λA=>PA.weak (Fj (ha A) (hs A) hst) λY H Q ⟨hA,U,g,p⟩=>by
  dsimp only at p;refine⟨hA,U,g,?_⟩;cases e:fa U with
  |bad=>rw[e]at p;exact p
  |exn x=>rw[e]at p;exact p
  |ok d=>
   rw[e]at p;intro v H1 s1 r1;refine⟨hA.same s1,U,g.same s1,?_⟩;cases e1:fs U with
   |bad=>rw[R.bind_ok,e1]at p;exact p
   |exn x=>rw[R.bind_ok,e1]at p;exact λH2 s2=>p H2 (s1.trans s2)
   |ok ds=>
    rw[R.bind_ok,e1]at p;exact λvs H2 s2 r2=>p (v::vs) H2 (s1.trans s2) ⟨r1.same s2,r2⟩
theorem xI(hs:SA X CL W es fs)(hz:∀ U ds,fs U=.ok ds->ds.length<=100000):SE X CL W (.Tuple es k pos) (λU=>(fs U).bind λxs=>.ok (.tup xs)):=
 λA=>PE.weak (zV (hs A)) λY H Q ⟨hA,U,g,p⟩=>⟨hA,U,g,Ig.bind p λds vs H1 e s1 r1 p1=>⟨by
  rw[r1.length,Ew];have:=hz U ds e;omega,λq hq=>p1 _ _ (GR hq _) (Lj (hA.same s1) hq r1)⟩⟩
def KB(W:XW)(H:Hp)(r:R (Aq Ad))(Q:Aq Ad->Hp->Prop):Prop:=match r with
  |.ok o=>∀ H',AN H H'->Q o H'
  |.exn x=>∀ H',AN H H'->W x H'
  |.bad=>BF
theorem KB.bind{r:R (Aq Ad)}{f:Aq Ad->R D}(h:By Rq W H (r.bind f) Q)(k:∀ o H',r=.ok o->AN H H'->By Rq W H' (f o) Q->Q' o H'):KB W H r Q':=by
 cases r with
 |ok d=>exact λH2 s2=>k d H2 rfl s2 (By.same s2 h)
 |exn x=>exact h
 |bad=>exact h
def SO(X:Cx)(CL:ClA)(W:XW)(e:Aq Ao)(f:Rho->R (Aq Ad)):Prop:=∀ A,PO X e (λY H Q=>AOk H A/\∃ U,Good X.K CL A U Y H/\KB W H (f U) Q)
theorem PO.weak{e:Aq Ao}{t t':TO}(h:PO X e t)(k:∀ Y H Q,t' Y H Q->t Y H Q):PO X e t':=λpI s Y H Q I q=>h pI s Y H Q I (k _ _ _ q)
theorem mC:SO X CL W Af (λ_=>.ok Af):=λA=>PO.weak oD λY H Q ⟨hA,U,g,p⟩=>p H (AN.refl H)
theorem mB(ha:ST X CL W a fa):SO X CL W (Ab a) (λU=>(fa U).bind λd=>(EX d).bind λi=>.ok (Ab i)):=λA=>PO.weak (oC (ha A)) λY H Q ⟨hA,U,g,p⟩=>by
 dsimp only at p;refine⟨hA,U,g,?_⟩;cases e:fa U with
 |bad=>rw[e]at p;exact p
 |exn x=>rw[e]at p;exact p
 |ok d=>
  rw[e]at p;intro v H1 s1 r1;cases d with
  |int i=>exact⟨i,r1.int_of,p H1 s1⟩
  |_=>exact p.elim
theorem VB{ds:Ac D}(lo hi:Aq Ad)(r:Reps K CL H A xs ds):Reps K CL H A (J3 xs lo hi) (LQ ds lo hi):=by
 unfold J3 LQ;have e:∀ d o,HT.sIx xs.length d o=Gx ds.length d o:=λd o=>by rw[r.length];cases o<;>rfl
 rw[e,e,r.length];exact(r.drop _).take _
end
section
variable{X:Cx}{CL:ClA}{W:XW}{a b c:Ao}{fa fb fc:Rho->R D}{pos:A6}
def Gu(K:Fg)(CL:ClA)(H:Hp)(A:Am->Prop):Ac V->Ac D->Prop
 |[],[]=>Ix
 |v::vs,d::ds=>Dp K CL H A v d/\Gu K CL H A vs ds
 |_,_=>BF
theorem Gu.same{K:Fg}{H H':Hp}{A:Am->Prop}(s:AN H H'):∀{vs:Ac V}{ds:Ac D},Gu K CL H A vs ds->Gu K CL H' A vs ds
 |[],[],h=>h
 |_::_,_::_,h=>⟨h.1.same s,Gu.same s h.2⟩
 |[],_::_,h=>h.elim
 |_::_,[],h=>h.elim
theorem Gu.one(h:Gu K CL H A vs [d]):∃ v,vs=[v]/\Dp K CL H A v d:=by
 cases vs with
 |nil=>exact h.elim
 |cons v vs=>
  cases vs with
  |nil=>exact⟨v,rfl,h.1⟩
  |cons=>exact h.2.elim
theorem Gu.two{e:D}(h:Gu K CL H A vs [d,e]):∃ v w',vs=[v,w']/\Dp K CL H A v d/\Dp K CL H A w' e:=by
 cases vs with
 |nil=>exact h.elim
 |cons v vs=>
  cases vs with
  |nil=>exact h.2.elim
  |cons w' vs=>
   cases vs with
   |nil=>exact⟨v,w',rfl,h.1,h.2.1⟩
   |cons=>exact h.2.2.elim
def SAT(X:Cx)(CL:ClA)(W:XW)(es:Ac Ao)(f:Rho->R (Ac D)):Prop:=∀ A,PA X es (λY H Q=>AOk H A/\∃ U,Good X.K CL A U Y H/\Ig (λH=>Gu X.K CL H A) W H (f U) Q)
theorem mL:SAT X CL W [] (λ_=>.ok []):=λA=>PA.weak G5 λY H Q ⟨hA,U,g,p⟩=>p [] H (AN.refl H) trivial
theorem gQ(ha:ST X CL W a fa)(hs:SAT X CL W es fs)(hst:AI (a::es) X.env=(Ae,eval a X.env)::AI es X.env):SAT X CL W (a::es) (λU=>(fa U).bind λx=>(fs U).bind λxs=>.ok (x::xs)):=
 λA=>PA.weak (Fj (ha A) (hs A) hst) λY H Q ⟨hA,U,g,p⟩=>by
  dsimp only at p;refine⟨hA,U,g,?_⟩;cases e:fa U with
  |bad=>rw[e]at p;exact p
  |exn x=>rw[e]at p;exact p
  |ok d=>
   rw[e]at p;intro v H1 s1 r1;refine⟨hA.same s1,U,g.same s1,?_⟩;cases e1:fs U with
   |bad=>rw[R.bind_ok,e1]at p;exact p
   |exn x=>rw[R.bind_ok,e1]at p;exact λH2 s2=>p H2 (s1.trans s2)
   |ok ds=>
    rw[R.bind_ok,e1]at p;exact λvs H2 s2 r2=>p (v::vs) H2 (s1.trans s2) ⟨r1.same s2,r2⟩
def Jt(X:Cx)(CL:ClA)(W:XW)(f:Ai)(g:Ac D->R D):Prop:=∀ A,Ih X f (λxs H Q=>AOk H A/\∃ ds,Gu X.K CL H A xs ds/\By (λH=>Rep X.K CL H A) W H (g ds) Q)
theorem Lm{x:An}{id:Dy}{g:Ac D->R D}(hc:Jt X CL W (.builtin id) g)(hg:Gl X x)(hm:X.mg x=Af)(hv:Dx x=Ab (.builtin id))(ha:SAT X CL W (e::es) fs)(hn:x≠"__name__")(hdb:(x==("__debug__" : An))=Ae)(he:AI (e::es) X.env=(Ae,eval e X.env)::AI es X.env)(hpl:∀ pos,(CU pos (AI es X.env)).any (·.1)=Ae):SE X CL W (.Call (.Name x p) (e::es) [] pos) (λU=>(fs U).bind g):=λA=>PE.weak (UP (hc A) hg hm hv (ha A) hn hdb he (hpl _)) λY H Q ⟨hA,U,gd,q⟩=>⟨hA,U,gd,Ig.bind q λds vs H1 _ s1 r1 p1=>⟨hA.same s1,ds,r1,p1⟩⟩
theorem xS{x:An}{g:Ac D->R D}(hc:Jt X CL W (.type T) g)(hg:Gl X x)(hm:X.mg x=Af)(hv:Dx x=Ab (.type T))(ha:SAT X CL W (e::es) fs)(hn:x≠"__name__")(hdb:(x==("__debug__" : An))=Ae)(he:AI (e::es) X.env=(Ae,eval e X.env)::AI es X.env)(hpl:∀ pos,(CU pos (AI es X.env)).any (·.1)=Ae):SE X CL W (.Call (.Name x p) (e::es) [] pos) (λU=>(fs U).bind g):=λA=>PE.weak (TU (hc A) hg hm hv (ha A) hn hdb he (hpl _)) λY H Q ⟨hA,U,gd,q⟩=>⟨hA,U,gd,Ig.bind q λds vs H1 _ s1 r1 p1=>⟨hA.same s1,ds,r1,p1⟩⟩
theorem au:Jt X CL W (.builtin "len") (biD .len):=by
  intro A pI s Y H xs us Q I r ⟨hA,ds,rs,p⟩
  match ds,rs,p with
  |[.lst es],rs,p=>
    obtain⟨v,rfl,rv⟩:=rs.one;obtain⟨q,ys,rfl,sq,ry⟩:=rv.lst_of;exact Te pI s Y H _ us Q I r ⟨q,ys,rfl,.inl sq,p _ H (AN.refl H) (by rw[ry.length];rfl)⟩
  |[.tup es],rs,p=>
    obtain⟨v,rfl,rv⟩:=rs.one;obtain⟨q,ys,rfl,_,sq,ry⟩:=rv.tup_of;exact Te pI s Y H _ us Q I r ⟨q,ys,rfl,.inr sq,p _ H (AN.refl H) (by rw[ry.length];rfl)⟩
  |[.str x],rs,p=>
    obtain⟨v,rfl,rv⟩:=rs.one;have e:=rv.str_of;subst e;have p':By (λH=>Rep X.K CL H A) W H (if Do x.length=Aa then .ok (.int x.length) else .bad) Q:=p
    split at p'
    · rename_i h;exact dQ pI s Y H _ us Q I r ⟨x,rfl,Iy h,p' _ H (AN.refl H) rfl⟩
    · exact p'.elim
  |[],_,p=>exact p.elim
  |[.non],_,p=>exact p.elim
  |[.bl _],_,p=>exact p.elim
  |[.int _],_,p=>exact p.elim
  |[.obj _ _],_,p=>exact p.elim
  |[.exc _ _],_,p=>exact p.elim
  |[.dic _],rs,p=>first|exact p.elim|(obtain⟨v,rfl,rv⟩:=rs.one;exact rv.plain.elim)
  |x::_::_,_,p=>cases x<;>exact p.elim
theorem gK(ds:Ac D):(∃ i j,ds=[.int i,.int j])\/biD .max ds=.bad:=by
  match ds with
  |[.int i,.int j]=>exact .inl ⟨i,j,rfl⟩
  |[]=>exact .inr rfl
  |[x]=>cases x<;>exact .inr rfl
  |x::y::z::r=>cases x<;>cases y<;>exact .inr rfl
  |[x,.non]=>cases x<;>exact .inr rfl
  |[x,.bl _]=>cases x<;>exact .inr rfl
  |[x,.str _]=>cases x<;>exact .inr rfl
  |[x,.tup _]=>cases x<;>exact .inr rfl
  |[x,.lst _]=>cases x<;>exact .inr rfl
  |[x,.obj _ _]=>cases x<;>exact .inr rfl
  |[x,.exc _ _]=>cases x<;>exact .inr rfl
  |[x,.dic _]=>cases x<;>exact .inr rfl
  |[.non,.int _]=>exact .inr rfl
  |[.bl _,.int _]=>exact .inr rfl
  |[.str _,.int _]=>exact .inr rfl
  |[.tup _,.int _]=>exact .inr rfl
  |[.lst _,.int _]=>exact .inr rfl
  |[.obj _ _,.int _]=>exact .inr rfl
  |[.exc _ _,.int _]=>exact .inr rfl
  |[.dic _,.int _]=>exact .inr rfl
theorem T7:∀(is:Ac Ad)(i:Ad),IJ i is∈i::is/\∀ a∈i::is,IJ i is<=a
 |[],i=>⟨Ax,λa h=>by rw[BY]at h;rw[h];exact Hb _⟩
 |j::r,i=>by
  obtain⟨h1,h2⟩:=T7 r (if j<i then j else i)
  refine⟨?_,λa h=>?_⟩
  .show IJ (if j<i then j else i) r∈_
   rcases Av.mp h1 with e|e
   .rw[e];split
    .exact At _ Ax
    .exact Ax
   .exact At _ (At _ e)
  .show IJ (if j<i then j else i) r<=a
   have h0:=h2 _ Ax;rcases Av.mp h with e|e
   .subst e;refine JE h0 ?_;split<;>omega
   .rcases Av.mp e with e|e
    .subst e;refine JE h0 ?_;split<;>omega
    .exact h2 a (At _ e)
theorem Tk:∀{is:Ac Ad}{its:Ac Ai},Bj (is.map V.int) its->∃ xs:A1 (Ad×DO),its.toArray=L6 xs/\xs.toList.map (·.1)=is
 |[],_,h=>by cases h;exact⟨#[],by simp[L6],rfl⟩
 |i::is,_,h=>by
  cases h with
  |cons h1 h2=>
   obtain⟨t,rfl⟩:=h1;obtain⟨xs,e1,e2⟩:=Tk h2;refine⟨((i,t)::xs.toList).toArray,?_,?_⟩
   .apply Array.toList_inj.mp
    have e1':=congrArg JD e1;simp[L6]at e1' ⊢;exact e1'
   .simp[e2]
theorem fU(hc:X.calm=Aa):Ih X (.builtin "min") (λxs H Q=>∃ a i is,xs=[.ref a]/\SqL X.K H a ((i::is).map V.int)/\Q (.int (IJ i is)) H):=by
 intro pI s Y H xs us Q I r h;obtain⟨a,i,is,rfl,sq,q⟩:=h;obtain⟨u,rfl,ru⟩:=IH r;cases ru;obtain⟨its,rv,pl,hz⟩:=I.list sq;obtain⟨ys,e1,e2⟩:=Tk rv;have hsz:0<ys.size:=by
  have:=congrArg XG e2;simp at this;omega
 have hl:=pl.isList;rw[e1]at hl;refine min_intList (I.ok.hd hc) hl hsz λv h' tk hv hk=>?_
 obtain⟨t,rfl⟩:=intItems_at hv;obtain⟨h1,h2⟩:=argBest_lt (Jh ys) (ys.size-1);have nm:∀ j,j<ys.size->Jh ys j∈i::is:=λj hj=>by
  rw[<-e2];unfold Jh;rw[BV hj];simp only[Ef,Option.getD_some];exact Bb.mpr ⟨ys[j],by simp,rfl⟩
 have nx:∀ x∈i::is,∃ j,j<ys.size/\Jh ys j=x:=λx hx=>by
  rw[<-e2]at hx;obtain⟨y,hy,rfl⟩:=Bb.mp hx;obtain⟨j,hj,ej⟩:=Xf.mp (Xg.mp hy);refine⟨j,hj,?_⟩;unfold Jh;rw[BV hj,ej];rfl
 obtain⟨m1,m2⟩:=T7 is i;have em:Jh ys (argBest (λi j=>decide (Jh ys i<Jh ys j)) (ys.size-1))=IJ i is:=by
  refine Int.le_antisymm ?_ (m2 _ (nm _ (by omega)))
  obtain⟨j,hj,ej⟩:=nx _ m1;rw[<-ej];exact h2 j (by omega)
 rw[em];exact⟨.int (IJ i is),H,I.kept hk,⟨_,rfl⟩,q⟩
theorem ND{K:Fg}{CL:ClA}{H:Hp}{A:Am->Prop}:∀{es:Ac D}{is:Ac Ad}{ys:Ac V},Hu es=Ab is->Reps K CL H A ys es->ys=is.map V.int
 |[],_,[],h,_=>by cases h;rfl
 |[],_,_::_,_,r=>r.elim
 |_::_,_,[],_,r=>r.elim
 |e::es,is,y::ys,h,r=>by
  cases e with
  |int i=>
   have h':(Hu es).map (i :: ·)=Ab is:=h;cases e2:Hu es with
   |none=>rw[e2]at h';cases h'
   |some js=>
    rw[e2]at h';cases h';have ih:=ND e2 r.2;have e1:y=.int i:=r.1;rw[ih,e1];rfl
  |_=>cases h
theorem gJ(ds:Ac D)(hl:∀ es,ds≠[.lst es]):(∃ i j,ds=[.int i,.int j])\/biD .min ds=.bad:=by
 rcases ds with _|⟨x,_|⟨y,_|⟨z,r⟩⟩⟩
 .exact .inr rfl
 .cases x with
  |lst es=>exact absurd rfl (hl es)
  |_=>exact .inr rfl
 .cases x with
  |int i=>
   cases y with
   |int j=>exact .inl ⟨i,j,rfl⟩
   |_=>exact .inr rfl
  |_=>exact .inr rfl
 .cases x with
  |int i=>cases y<;>exact .inr rfl
  |_=>exact .inr rfl
theorem ar(hc:X.calm=Aa):Jt X CL W (.builtin "max") (biD .max):=by
 intro A pI s Y H xs us Q I r ⟨hA,ds,rs,p⟩;rcases gK ds with ⟨i,j,rfl⟩|e
 .obtain⟨v,w',rfl,rv,rw'⟩:=rs.two;have e1:=rv.int_of;have e2:=rw'.int_of
  subst e1 e2;exact fW hc pI s Y H _ us Q I r ⟨i,j,rfl,p _ H (AN.refl H) rfl⟩
 .rw[e]at p;exact p.elim
theorem aq(hc:X.calm=Aa):Jt X CL W (.builtin "min") (biD .min):=by
  intro A pI s Y H xs us Q I r ⟨hA,ds,rs,p⟩;by_cases hls:∃ es,ds=[.lst es]
  · obtain⟨es,rfl⟩:=hls;obtain⟨v,rfl,rv⟩:=rs.one;obtain⟨a,ys,rfl,sq,ry⟩:=rv.lst_of;have p':By (Rep X.K CL · A) W H (match Hu es with
      |some (i::is)=>R.ok (.int (IJ i is))
      | _=>.bad) Q:=p
    cases e1:Hu es with
    |none=>rw[e1]at p';exact p'.elim
    |some is=>
      cases is with
      |nil=>rw[e1]at p';exact p'.elim
      |cons i is=>
        rw[e1]at p';have ey:=ND e1 ry;subst ey;exact fU hc pI s Y H _ us Q I r ⟨a,i,is,rfl,sq,p' _ H (AN.refl H) rfl⟩
  rcases gJ ds (λes z=>hls ⟨es,z⟩) with ⟨i,j,rfl⟩|e
  · obtain⟨v,w',rfl,rv,rw'⟩:=rs.two;have e1:=rv.int_of;have e2:=rw'.int_of
    subst e1 e2;exact fV hc pI s Y H _ us Q I r ⟨i,j,rfl,p _ H (AN.refl H) rfl⟩
  · rw[e]at p;exact p.elim
theorem kS:Jt X CL W (.type "tuple") (biD .tuple):=by
  intro A pI s Y H xs us Q I r ⟨hA,ds,rs,p⟩
  match ds,rs,p with
  |[.lst es],rs,p=>
    obtain⟨v,rfl,rv⟩:=rs.one;obtain⟨q,ys,rfl,sq,ry⟩:=rv.lst_of;exact S5 pI s Y H _ us Q I r ⟨q,ys,rfl,.inl ⟨sq,λl hl=>p _ _ (GR hl _) (Lj hA hl ry)⟩⟩
  |[.tup es],rs,p=>
    obtain⟨v,rfl,rv⟩:=rs.one;obtain⟨q,ys,rfl,na,sq,ry⟩:=rv.tup_of;exact S5 pI s Y H _ us Q I r ⟨q,ys,rfl,.inr ⟨sq,p _ H (AN.refl H) ⟨q,ys,rfl,na,sq,ry⟩⟩⟩
  |[],_,p=>exact p.elim
  |[.non],_,p=>exact p.elim
  |[.bl _],_,p=>exact p.elim
  |[.int _],_,p=>exact p.elim
  |[.str _],_,p=>exact p.elim
  |[.obj _ _],_,p=>exact p.elim
  |[.exc _ _],_,p=>exact p.elim
  |[.dic _],rs,p=>first|exact p.elim|(obtain⟨v,rfl,rv⟩:=rs.one;exact rv.plain.elim)
  |x::_::_,_,p=>cases x<;>exact p.elim
end
section
variable{X:Cx}{CL:ClA}{W:XW}{a b c:Ao}{fa fb fc:Rho->R D}{pos:A6}
theorem SB.congr{g:Rho->R Ak}(h:SB X CL W a f)(e:∀ U,g U=f U):SB X CL W a g:=λA=>PT.weak (h A) λY H Q ⟨hA,U,q,p⟩=>⟨hA,U,q,by rw[<-e];exact p⟩
theorem xV(ha:SB X CL W a f):SB X CL W (.UnaryOp .Not a pos) (λU=>(f U).bind λb=>.ok (!b)):=λA=>PT.weak (zH (ha A)) λY H Q ⟨hA,U,g,p⟩=>⟨hA,U,g,DD.bindB p λb H1 _ s1 p1=>p1 H1 (AN.refl H1)⟩
def SW(X:Cx)(CL:ClA)(W:XW)(e:Ao)(f:Rho->R Ak):Prop:=∀ A,PW X e (λY H Q=>AOk H A/\∃ U,Good X.K CL A U Y H/\DD W H (f U) Q)
theorem PW.weak{t t':TT}(h:PW X e t)(k:∀ Y H Q,t' Y H Q->t Y H Q):PW X e t':=λwh pI s Y H Q I q=>h wh pI s Y H Q I (k _ _ _ q)
theorem SW.sb(h:SW X CL W a f):SB X CL W a f:=λA=>PW.pt (h A)
theorem SW.congr{g:Rho->R Ak}(h:SW X CL W a f)(e:∀ U,g U=f U):SW X CL W a g:=λA=>PW.weak (h A) λY H Q ⟨hA,U,q,p⟩=>⟨hA,U,q,by rw[<-e];exact p⟩
theorem nP(ha:SB X CL W a f):SW X CL W (.BoolOp .And [a] pos) f:=λA=>qC (ha A)
theorem vG(ha:SB X CL W a f):SW X CL W (.BoolOp .Or [a] pos) f:=λA=>zF (ha A)
theorem vH{g:Rho->R Ak}{rest:Ac Ao}(ha:SB X CL W a f)(hb:SW X CL W (.BoolOp .And (b::rest) pos) g):SW X CL W (.BoolOp .And (a::b::rest) pos) (λU=>(f U).bind λc=>if c=Aa then g U else .ok Ae):=
 λA=>PW.weak (zG (ha A) (hb A)) λY H Q ⟨hA,U,gd,p⟩=>⟨hA,U,gd,DD.bindB p λc H1 _ s1 p1=>by
  cases c with
  |true=>exact⟨hA.same s1,U,gd.same s1,p1⟩
  | false=>exact p1 H1 (AN.refl H1)⟩
theorem j5{g:Rho->R Ak}{rest:Ac Ao}(ha:SB X CL W a f)(hb:SW X CL W (.BoolOp .Or (b::rest) pos) g):SW X CL W (.BoolOp .Or (a::b::rest) pos) (λU=>(f U).bind λc=>if c=Aa then .ok Aa else g U):=
 λA=>PW.weak (ju (ha A) (hb A)) λY H Q ⟨hA,U,gd,p⟩=>⟨hA,U,gd,DD.bindB p λc H1 _ s1 p1=>by
  cases c with
  |false=>exact⟨hA.same s1,U,gd.same s1,p1⟩
  | true=>exact p1 H1 (AN.refl H1)⟩
theorem xW(ho:OpD X CL W (C3 op) g)(ha:ST X CL W a fa)(hb:ST X CL W b fb)(hm:Hl op b=Ae):SB X CL W (.Compare a [op] [b] pos) (λU=>(fa U).bind λx=>(fb U).bind λy=>(g x y).bind Ek):=
 λA=>PT.weak (qF (ho A) (ha A) (hb A) hm) λY H Q ⟨hA,U,gd,p⟩=>⟨hA,U,gd,DD.bind p λdx x H1 _ s1 r1 p1=>⟨hA.same s1,U,gd.same s1,DD.bind p1 λdy y H2 _ s2 r2 p2=>
  ⟨(hA.same s1).same s2,dx,dy,r1.same s2,r2,DD.bind p2 λdz z H3 _ s3 r3 p3=>by
   cases dz with
   |bl k=>exact⟨k,r3,p3 H3 (AN.refl H3)⟩
   | _=>exact p3.elim⟩⟩⟩
theorem gP{op':DI}(hu:X.A.units+64<Cs)(ha:ST X CL W a fa)(hb:ST X CL W b fb)(hc:ST X CL W c fc)(hm:JM [op,op'] [b,c]=Ae):SB X CL W (.Compare a [op,op'] [b,c] pos) (λU=>(fa U).bind λx=>(fb U).bind λy=>(B9 op x y).bind λz=>(Ek z).bind λk=>if k=Aa then (fc U).bind λu=>(B9 op' y u).bind Ek else .ok Ae):=
  λA=>PT.weak (jY (Li hu op A) (Li hu op' A) (ha A) (hb A) (hc A) hm) λY H Q ⟨hA,U,g,p⟩=>⟨hA,U,g,DD.bind p λdx x H1 _ s1 r1 p1=>⟨hA.same s1,U,g.same s1,DD.bind p1 λdy y H2 _ s2 r2 p2=>
    ⟨(hA.same s1).same s2,dx,dy,r1.same s2,r2,DD.bind p2 λdz z H3 _ s3 r3 p3=>by
      cases dz with
      |bl k=>
        refine⟨k,r3,?_⟩;cases k with
        |false=>exact⟨Ae,rfl,p3 H3 (AN.refl H3)⟩
        | true=>exact⟨((hA.same s1).same s2).same s3,U,((g.same s1).same s2).same s3,DD.bind p3 λdu u H4 _ s4 r4 p5=>⟨(((hA.same s1).same s2).same s3).same s4,dy,du,(r2.same s3).same s4,r4,DD.bind p5 λdv v H5 _ s5 r5 p6=>by
            cases dv with
            |bl k'=>exact⟨k',r5,p6 H5 (AN.refl H5)⟩
            | _=>exact p6.elim⟩⟩
      | _=>exact p3.elim⟩⟩⟩
theorem xU(ha:ST X CL W a fa)(he:∀ whole,IU a X.env whole=(do let v <-whole;J9 a.pos;holding [v] (truthy v))):SB X CL W a (λU=>(fa U).bind CJ):=
 λA=>PT.weak (jX (ha A) he) λY H Q ⟨hA,U,g,p⟩=>⟨hA,U,g,DD.bind p λd v H1 _ s1 r1 p1=>by
  cases d with
  |non=>
   have e:=r1.non_of;subst e;exact⟨Ae,rfl,p1 H1 (AN.refl H1)⟩
  |bl b=>
   have e:=r1.bl_of;subst e;exact⟨b,rfl,p1 H1 (AN.refl H1)⟩
  |int i=>
   have e:=r1.int_of;subst e;exact⟨_,rfl,p1 H1 (AN.refl H1)⟩
  |str x=>
   have e:=r1.str_of;subst e;have p2:DD W H1 (if Do x.length=Aa then .ok (x.length != 0) else .bad) Q:=p1
   split at p2
   .rename_i h;refine⟨_,⟨Iy h,rfl⟩,?_⟩;have e:((x.length:Ad) != 0)=(x.length != 0):=by
     rw[C8];simp
    rw[e];exact p2 H1 (AN.refl H1)
   .exact p2.elim
  |tup ds=>
   obtain⟨q,xs,rfl,_,sq,r⟩:=r1.tup_of;refine⟨_,.inr (.inl ⟨xs,sq,rfl⟩),?_⟩;have e:xs.isEmpty=ds.isEmpty:=by
    have:=r.length;cases xs<;>cases ds<;>first|rfl|cases this
   rw[e];exact p1 H1 (AN.refl H1)
  |lst ds=>
   obtain⟨q,xs,rfl,sq,r⟩:=r1.lst_of;refine⟨_,.inl ⟨xs,sq,rfl⟩,?_⟩;have e:xs.isEmpty=ds.isEmpty:=by
    have:=r.length;cases xs<;>cases ds<;>first|rfl|cases this
   rw[e];exact p1 H1 (AN.refl H1)
  | _=>exact p1.elim⟩
noncomputable def bB(K:Fg)(CL:ClA)(H:Hp)(A:Am->Prop)(cls:Ai)(dx:Aq Am)(x:Ex):Prop:=
 ∃ C,CL x.c=Ab C/\cls=.ref C/\(x.fs=[]\/∃ d vs,dx=Ab d/\¬ A d/\H d=Ab (.xd vs)/\Repf K CL H A vs x.fs)
def Ie(K:Fg)(CL:ClA)(H:Hp)(cls:Ai)(dx:Aq Am)(x:Ex):Prop:=∀ A,AOk H A->bB K CL H A cls dx x
end
def CQ(B:Am->Prop)(U:Rho)(Y:L2.St):Am->Prop:=λa=>B a\/∃(j:Ag)(d:D),U[j]?=Ab (Ab (d,Aa))/\Y[j]?=Ab (Ab (.ref a))
structure Sx (K:Fg) (CL:ClA) (Fz:Am->HO->Prop) (B:Am->Prop) (U:Rho) (Y:L2.St) (H:Hp):Prop where
 good:Good K CL (CQ B U Y) U Y H
 aok:AOk H (CQ B U Y)
 new:∀(j:Ag)(d:D)(a:Am),U[j]?=Ab (Ab (d,Aa))->Y[j]?=Ab (Ab (.ref a))->(∀ o,¬ Fz a o)/\¬ B a
 dis:∀(i j:Ag)(d e:D)(a:Am),U[i]?=Ab (Ab (d,Aa))->U[j]?=Ab (Ab (e,Aa))->Y[i]?=Ab (Ab (.ref a))->Y[j]?=Ab (Ab (.ref a))->i=j
 same:∀ b o,Fz b o->H b=Ab o
 len:U.length=Y.length
def CT(K:Fg)(CL:ClA)(Fz:Am->HO->Prop)(B:Am->Prop)(W:XW)(o:O)(D:Ends):Prop:=match o with
  |.next U=>∀ Y H,Sx K CL Fz B U Y H->D.nx Y H
  |.brk U=>∀ Y H,Sx K CL Fz B U Y H->D.bk Y H
  |.cont U=>∀ Y H,Sx K CL Fz B U Y H->D.ct Y H
  |.ret d fr=>∀ v H,(∀ b o,Fz b o->H b=Ab o)->Rep K CL H B v d->(fr=Aa->∀ ds,d=.lst ds->∃ a xs,v=.ref a/\(∀ o,¬ Fz a o)/\H a=Ab (.lst xs)/\Reps K CL H (λb=>B b\/b=a) xs ds)->D.rt v H
  |.exn x _=>∀ H,(∀ b o,Fz b o->H b=Ab o)->W x H
  |.bad=>BF
section
variable{K:Fg}{CL:ClA}{Fz Fy:Am->HO->Prop}{B:Am->Prop}{U:Rho}{Y:L2.St}{H H':Hp}
theorem Sx.mono(k:∀ b o,Fz b o->Fy b o)(x:Sx K CL Fy B U Y H):Sx K CL Fz B U Y H:=⟨x.good,x.aok,λj d a h1 h2=>⟨λo z=>(x.new j d a h1 h2).1 o (k _ _ z),(x.new j d a h1 h2).2⟩,x.dis,λb o z=>x.same b o (k _ _ z),x.len⟩
theorem Sx.grow(x:Sx K CL Fz B U Y H)(s:AN H H'):Sx K CL Fz B U Y H':=⟨x.good.same s,x.aok.same s,x.new,x.dis,λb o z=>s _ _ (x.same b o z),x.len⟩
theorem Dm{l:Ac α}{v:α}(h:i≠j):(l.set i v)[j]?=l[j]?:=by rw[GB h]
theorem HU{l:Ac α}{v w':α}(h:(l.set i v)[i]?=Ab w'):w'=v:=by
 rw[FX]at h;cases e:l[i]? with
 |none=>rw[e]at h;cases h
 |some x=>rw[e]at h;cases h;rfl
theorem Sx.set(x:Sx K CL Fz B U Y H){v:V}{d:D}(i:Ag)(r:Rep K CL H (CQ B U Y) v d):Sx K CL Fz B (U.set i (Ab (d,Ae))) (Y.set i (Ab v)) H:=by
 have own:∀(j:Ag)(e:D),(U.set i (Ab (d,Ae)))[j]?=Ab (Ab (e,Aa))->i≠j/\U[j]?=Ab (Ab (e,Aa)):=λj e h=>by
  by_cases hj:i=j
  .subst hj;have:=HU h;cases this
  .exact⟨hj,by rw[Dm hj]at h;exact h⟩
 have sub:∀ a,CQ B (U.set i (Ab (d,Ae))) (Y.set i (Ab v)) a->CQ B U Y a:=λa h=>by
  rcases h with h|⟨j,e,h1,h2⟩
  .exact .inl h
  .obtain⟨hj,h1⟩:=own j e h1;rw[Dm hj]at h2;exact .inr ⟨j,e,h1,h2⟩
 refine⟨⟨λj e h=>?_,λj e h=>?_,by rw[BH,BH];exact x.len⟩,λa h=>x.aok a (sub a h),λj e a h1 h2=>?_,λj k e f a h1 h2 h3 h4=>?_,x.same,by rw[BH,BH];exact x.len⟩
 .by_cases hj:i=j
  .subst hj;have e1:=HU h;cases e1;refine⟨v,?_,Rep.sub sub _ r⟩;have hl:i<Y.length:=by
    rw[<-x.len];have:=(Be.mp h).1;simpa using this
   rw[Dv hl]
  .rw[Dm hj]at h;obtain⟨w',q,rw'⟩:=x.good.sh j e h;exact⟨w',by rw[Dm hj];exact q,Rep.sub sub _ rw'⟩
 .obtain⟨hj,h1⟩:=own j e h;obtain⟨a,xs,ds,q,z,ha,hh,rr⟩:=x.good.ow j e h1;exact⟨a,xs,ds,by rw[Dm hj];exact q,z,.inr ⟨j,e,h,by rw[Dm hj];exact q⟩,hh,Reps.sub sub _ rr⟩
 .obtain⟨hj,h1⟩:=own j e h1;rw[Dm hj]at h2;exact x.new j e a h1 h2
 .obtain⟨hj,h1⟩:=own j e h1;obtain⟨hk,h2⟩:=own k f h2;rw[Dm hj]at h3;rw[Dm hk]at h4;exact x.dis j k e f a h1 h2 h3 h4
end
section
variable{X:Cx}{CL:ClA}{W:XW}{pos:A6}{e:Ao}{fe:Rho->R D}
def SS(X:Cx)(CL:ClA)(W:XW)(st:BA)(f:Rho->O):Prop:=∀ Fz B,PS X st (λD Y H=>∃ U,Sx X.K CL Fz B U Y H/\CT X.K CL Fz B W (f U) D)
def SSs(X:Cx)(CL:ClA)(W:XW)(st:Ac BA)(f:Rho->O):Prop:=∀ Fz B,PSs X st (λD Y H=>∃ U,Sx X.K CL Fz B U Y H/\CT X.K CL Fz B W (f U) D)
theorem PS.weak{e:BA}{t t':TS}(h:PS X e t)(k:∀ D Y H,t' D Y H->t D Y H):PS X e t':=λpI s Y H D I q=>h pI s Y H D I (k _ _ _ q)
theorem PSs.weak{e:Ac BA}{t t':TS}(h:PSs X e t)(k:∀ D Y H,t' D Y H->t D Y H):PSs X e t':=λpI s Y H D I q=>h pI s Y H D I (k _ _ _ q)
theorem CT.ex{f:D->O}(x:Sx X.K CL Fz B U Y H)(h:CT X.K CL Fz B W (O.of U r f) D')(k:∀ d v H',r=.ok d->AN H H'->Rp H' v d->Sx X.K CL Fz B U Y H'->CT X.K CL Fz B W (f d) D'->Q v H'):By Rp W H r Q:=by
 cases r with
 |ok d=>exact λv H' s r=>k d v H' rfl s r (x.grow s) h
 |exn y=>exact λH' s=>h H' λb o z=>s _ _ (x.same b o z)
 |bad=>exact h
theorem CT.exB{r:R Ak}{f:Ak->O}{Q:Ak->Hp->Prop}(x:Sx X.K CL Fz B U Y H)(h:CT X.K CL Fz B W (O.of U r f) D')(k:∀ b H',r=.ok b->AN H H'->Sx X.K CL Fz B U Y H'->CT X.K CL Fz B W (f b) D'->Q b H'):DD W H r Q:=by
 cases r with
 |ok d=>exact λH' s=>k d H' rfl s (x.grow s) h
 |exn y=>exact λH' s=>h H' λb o z=>s _ _ (x.same b o z)
 |bad=>exact h
theorem lX(he:SE X CL W e fe)(hs:DU e Af pos.line X.env=pure Ae):SS X CL W (.Expr e pos) (λU=>O.of U (fe U) λ_=>.next U):=λFz B pI s Y H D I ⟨U,x,p⟩=>
 ME (he (CQ B U Y)) hs pI s Y H D I ⟨x.aok,U,x.good,CT.ex x p λd v H' _ s r x' q=>q Y H' x'⟩
theorem lU(he:SE X CL W e fe):SS X CL W (.Return (Ab e) pos) (λU=>O.of U (fe U) λd=>.ret d Ae):=λFz B pI s Y H D I ⟨U,x,p⟩=>
 Q7 (he (CQ B U Y)) pI s Y H D I ⟨x.aok,U,x.good,CT.ex x p λd v H' _ s r x' q=>q v H' x'.same (Rep.sub (λa h=>.inl h) _ r) λz=>nomatch z⟩
theorem jd{a b:Ac BA}{fa fb:Rho->O}(hc:SB X CL W c fc)(ha:SSs X CL W a fa)(hb:SSs X CL W b fb):SS X CL W (.If c a b pos) (λU=>O.of U (fc U) λk=>if k=Aa then fa U else fb U):=λFz B pI s Y H D I ⟨U,x,p⟩=>
 jw (hc (CQ B U Y)) (ha Fz B) (hb Fz B) pI s Y H D I ⟨x.aok,U,x.good,CT.exB x p λk H' _ s x' q=>by
  cases k with
  |true=>exact⟨U,x',q⟩
  | false=>exact⟨U,x',q⟩⟩
theorem lP:SSs X CL W [] (λU=>.next U):=λFz B=>PSs.weak oA λD Y H ⟨U,x,p⟩=>p Y H x
theorem iN{st:BA}{rest:Ac BA}{f g:Rho->O}(h1:SS X CL W st f)(h2:SSs X CL W rest g):SSs X CL W (st::rest) (λU=>(f U).seq g):=λFz B=>PSs.weak (jZ (h1 Fz B) (h2 Fz B)) λD Y H ⟨U,x,p⟩=>⟨U,x,by
 dsimp only at p;cases e:f U with
 |next U'=>rw[e]at p;exact λY' H' x'=>⟨U',x',p⟩
 |ret d b=>rw[e]at p;exact p
 |brk U'=>rw[e]at p;exact p
 |cont U'=>rw[e]at p;exact p
 |exn y U'=>rw[e]at p;exact p
 | bad=>rw[e]at p;exact p⟩
end
def Jx(K:Fg)(CL:ClA)(A:Am->Prop)(ds:Ac D)(J:It)(H1:Hp):Prop:=∀ H,Kp A H1 H->∀ i:Ag,(ds.length<=i->J.stop i H)/\∀ d,ds[i]?=Ab d->J.go i H/\∀ x H',J.yld i H x H'->AN H H'/\∀ B,(∀ a,B a->A a\/H1 a=Af)->AOk H B->Rep K CL H' B x d
def Fl(K:Fg)(CL:ClA)(A:Am->Prop)(W:XW)(H:Hp)(r:R (Ac D))(Q:It->Hp->Prop):Prop:=match r with
  |.ok ds=>∀ J H',AN H H'->Jx K CL A ds J H'->ds.length<=sizeLine->Q J H'
  |.exn x=>∀ H',AN H H'->W x H'
  |.bad=>BF
def SI(X:Cx)(CL:ClA)(W:XW)(tg iter:Ao)(f:Rho->R (Ac D)):Prop:=∀ A,PI X tg iter (λY H R=>AOk H A/\∃ U,Good X.K CL A U Y H/\Fl X.K CL A W H (f U) R)
theorem PI.weak{t t':TI}(h:PI X tg e t)(k:∀ Y H Q,t' Y H Q->t Y H Q):PI X tg e t':=λpI s Y H Q I q=>h pI s Y H Q I (k _ _ _ q)
section
variable{X:Cx}{CL:ClA}{W:XW}{pos p:A6}{tg e a b:Ao}{fe fa fb:Rho->R D}
theorem Fl.ex{f:D->R (Ac D)}{Q:It->Hp->Prop}{Q':VK}(h:Fl X.K CL A W H (r.bind f) Q)(k:∀ d v H',r=.ok d->AN H H'->Rp H' v d->Fl X.K CL A W H' (f d) Q->Q' v H'):By Rp W H r Q':=by
  cases r with
  | ok d=>exact λv H' s q=>k d v H' rfl s q (by
      have h':Fl X.K CL A W H (f d) Q:=h;cases e:f d with
      |ok ds=>rw[e]at h';exact λJ H2 s2 y z=>h' J H2 (s.trans s2) y z
      |exn y=>rw[e]at h';exact λH2 s2=>h' H2 (s.trans s2)
      | bad=>rw[e]at h';exact h')
  |exn y=>exact h
  |bad=>exact h
theorem MA{x:V}(r:Rep K CL H1 A x d)(k:Kp A H1 H)(hB:∀ a,B a->A a\/H1 a=Af):Rep K CL H B x d:=by
 have r1:Rep K CL H1 (λa=>A a\/B a) x d:=Rep.wide (λa ha=>ha.elim .inl (hB a)) _ r
 have r2:Rep K CL H (λa=>A a\/B a) x d:=Rep.kp (λb o e na=>k b o e λz=>na (.inl z)) _ r1
 exact Rep.sub (λa ha=>.inr ha) _ r2
theorem eG{ds:Ac D}(na:¬ A q\/KL K q xs)(s:SqL K H q xs)(r:Reps K CL H A xs ds):Jx K CL A ds (Itl K q) H:=λH' k i=>by
 have s':=N5 k na s;refine⟨λh=>⟨xs,s',by rw[r.length];exact h⟩,λd hd=>?_⟩
 obtain⟨v,hv,rv⟩:=r.get hd;exact⟨⟨xs,v,s',hv⟩,λx H2 ⟨e,y⟩=>by
  subst e;have:=y xs s';rw[hv]at this;cases this;exact⟨AN.refl _,λB hB _=>MA rv k hB⟩⟩
theorem iG{ds:Ac D}(na:¬ A q\/KT K q xs)(s:SqT K H q xs)(r:Reps K CL H A xs ds):Jx K CL A ds (Itt K q) H:=λH' k i=>by
 have s':=N4 k na s;refine⟨λh=>⟨xs,s',by rw[r.length];exact h⟩,λd hd=>?_⟩
 obtain⟨v,hv,rv⟩:=r.get hd;exact⟨⟨xs,v,s',hv⟩,λx H2 ⟨e,y⟩=>by
  subst e;have:=y xs s';rw[hv]at this;cases this;exact⟨AN.refl _,λB hB _=>MA rv k hB⟩⟩
theorem Uk(lo:Ad)(n:Ag):Jx K CL A (CK lo n) (Itr lo n) H:=λH' k i=>by
 refine⟨λh=>by rw[Mp]at h;exact h,λd hd=>?_⟩
 obtain⟨h1,rfl⟩:=QD hd;exact⟨h1,λx H2 ⟨e,y⟩=>by
  subst e y;exact⟨AN.refl _,λ_ _ _=>rfl⟩⟩
theorem zS{l:Ao}{tl:TE}(hl:PE X l tl):PI X tg l (λY H R=>tl Y H λx H1=>(∃ a,x=.ref a/\(∃ xs,SqL X.K H1 a xs/\(xs.length<=sizeLine->R (Itl X.K a) H1)))\/∃ a,x=.ref a/\(∃ xs,SqT X.K H1 a xs/\(xs.length<=sizeLine->R (Itt X.K a) H1))):=by
 intro pI s Y H R I h;refine thn (hl pI s Y H _ I h) λv s1 ⟨x,H1,I1,r1,q1⟩=>?_
 rcases q1 with ⟨a,e,xs,hq,q⟩|⟨a,e,xs,hq,q⟩
 .subst e;cases r1;obtain⟨its,rv,p,hz⟩:=I1.list hq;refine En p.isList ?_;refine⟨s1.heap.objs.size,[s1.heap.objs.size],_,_,H1,rfl,I1.kept (t':=s1.toks) λb o e=>Ar _ e,eW a _,⟨_,AB _ rfl,rfl,rfl⟩,λb hb=>?_,q hz⟩
  have e:b=s1.heap.objs.size:=by simpa using hb
  subst e;exact I1.fpOk (A5 _) (I1.hok.fresh (A5 _))
 .subst e;cases r1;obtain⟨its,rv,p,hz⟩:=I1.tuple hq;refine ET (show s1.heap.IsTuple a its.toArray from p) ?_
  refine⟨s1.heap.objs.size,[s1.heap.objs.size],_,_,H1,rfl,I1.kept (t':=s1.toks) λb o e=>Ar _ e,eH a _,⟨_,AB _ rfl,rfl,rfl⟩,λb hb=>?_,q hz⟩
  have e:b=s1.heap.objs.size:=by simpa using hb
  subst e;exact I1.fpOk (A5 _) (I1.hok.fresh (A5 _))
theorem cZ(he:SE X CL W e fe):SI X CL W tg e (λU=>(fe U).bind Ch):=λA=>PI.weak (zS (he A)) λY H R ⟨hA,U,g,p⟩=>⟨hA,U,g,Fl.ex p λd v H1 _ s1 r1 p1=>by
 cases d with
 |lst ds=>
  obtain⟨q,xs,rfl,na,sq,r⟩:=r1;exact .inl ⟨q,rfl,xs,sq,λhz=>p1 _ H1 (AN.refl H1) (eG na sq r) (by rw[<-r.length];exact hz)⟩
 |tup ds=>
  obtain⟨q,xs,rfl,na,sq,r⟩:=r1;exact .inr ⟨q,rfl,xs,sq,λhz=>p1 _ H1 (AN.refl H1) (iG na sq r) (by rw[<-r.length];exact hz)⟩
 | _=>exact p1.elim⟩
theorem TN{lo hi:Ad}{ds:Ac D}(h:CI lo hi=.ok ds):(-(2 ^ 62)<=lo/\lo<2 ^ 62)/\(-(2 ^ 62)<=hi/\hi<2 ^ 62)/\ds=CK lo (hi-lo).toNat/\(CK lo (hi-lo).toNat).length<=sizeLine:=by
 unfold CI at h;split at h
 .rename_i q;cases h;exact⟨by omega,by omega,rfl,by rw[Mp,Ew];omega⟩
 .cases h
theorem Ti{lo hi:Ad}(h:CI lo hi=.exn x):BF:=by
 unfold CI at h;split at h<;>cases h
theorem xE(ha:ST X CL W a fa)(hg:Gl X "range")(hm:X.mg "range" = Af)(hs:AI [a] X.env=[(Ae,eval a X.env)]):SI X CL W tg (.Call (.Name "range" p) [a] [] pos) (λU=>(fa U).bind λx=>(EX x).bind λj=>CI 0 j):=
 λA=>PI.weak (eV hg hm (Fj (ha A) G5 hs) hs) λY H R ⟨hA,U,g,q⟩=>⟨hA,U,g,Fl.ex q λd v H1 _ s1 r1 p1=>by
  cases d with
  |int j=>
   have e:=r1.int_of;subst e;have p2:Fl X.K CL A W H1 (CI 0 j) R:=p1;cases e2:CI 0 j with
   |ok ds=>
    rw[e2]at p2;obtain⟨_,h2,rfl,hz⟩:=TN e2;exact⟨j,rfl,h2.1,h2.2,p2 _ H1 (AN.refl H1) (by rw[E1];exact Uk 0 j.toNat) hz⟩
   |exn y=>exact(Ti e2).elim
   |bad=>rw[e2]at p2;exact p2.elim
  | _=>exact p1.elim⟩
theorem mF(ha:ST X CL W a fa)(hb:ST X CL W b fb)(hg:Gl X "range")(hm:X.mg "range" = Af)(hs:AI [a,b] X.env=[(Ae,eval a X.env),(Ae,eval b X.env)])(hs2:AI [b] X.env=[(Ae,eval b X.env)]):
  SI X CL W tg (.Call (.Name "range" p) [a,b] [] pos) (λU=>(fa U).bind λx=>(fb U).bind λy=>(EX x).bind λi=>(EX y).bind λj=>CI i j):=
 λA=>PI.weak (eU hg hm (Fj (ha A) (Fj (hb A) G5 hs2) (by rw[hs,hs2])) hs hs2) λY H R ⟨hA,U,g,q⟩=>⟨hA,U,g,Fl.ex q λd v H1 _ s1 r1 p1=>⟨hA.same s1,U,g.same s1,Fl.ex p1 λd2 v2 H2 _ s2 r2 p2=>by
  cases d with
  |int i=>
   cases d2 with
   |int j=>
    have e:=r1.int_of;have e':=r2.int_of
    subst e e';have p3:Fl X.K CL A W H2 (CI i j) R:=p2;cases e2:CI i j with
    |ok ds=>
     rw[e2]at p3;obtain⟨h1,h2,rfl,hz⟩:=TN e2;exact⟨i,j,rfl,⟨h1.1,h1.2,h2.1,h2.2⟩,p3 _ H2 (AN.refl H2) (Uk _ _) hz⟩
    |exn y=>exact(Ti e2).elim
    |bad=>rw[e2]at p3;exact p3.elim
   |_=>exact p2.elim
  | _=>exact p2.elim⟩⟩
theorem CT.exI{r:R (Ac D)}{f:Ac D->O}{Q:It->Hp->Prop}(x:Sx X.K CL Fz B U Y H)(h:CT X.K CL Fz B W (O.of U r f) D')(k:∀ ds J H',r=.ok ds->AN H H'->Jx X.K CL A ds J H'->ds.length<=sizeLine->Sx X.K CL Fz B U Y H'->CT X.K CL Fz B W (f ds) D'->Q J H'):Fl X.K CL A W H r Q:=by
 cases r with
 |ok d=>exact λJ H' s y z=>k d J H' rfl s y z (x.grow s) h
 |exn y=>exact λH' s=>h H' λb o z=>s _ _ (x.same b o z)
 |bad=>exact h
theorem CT.turn{Fy:Am->HO->Prop}{o:O}{g:Rho->O}{N:L2.St->Hp->Prop}(hf:∀ b q,Fz b q->Fy b q)(h:CT K CL Fz B W (o.turn g) D')(k:∀ U' Y' H',Sx K CL Fy B U' Y' H'->CT K CL Fz B W (g U') D'->N Y' H'):CT K CL Fy B W o {D' with nx:=N,ct:=N,bk:=D'.nx}:=by
 cases o with
 |next U'=>exact λY' H' x=>k U' Y' H' x h
 |cont U'=>exact λY' H' x=>k U' Y' H' x h
 |brk U'=>exact λY' H' x=>h Y' H' (x.mono hf)
 |ret d b=>exact λv H' s r n=>h v H' (λb o z=>s b o (hf b o z)) r λz ds e=>let ⟨a,xs,h1,h2,h3⟩:=n z ds e;⟨a,xs,h1,λo q=>h2 o (hf a o q),h3⟩
 |exn y U'=>exact λH' s=>h H' (λb o z=>s b o (hf b o z))
 |bad=>exact h
noncomputable def FP(ts:Ac Ag)(U:Rho):Rho:=ts.foldl (λU t=>U.set t Af) U
def GT(K:Fg)(CL:ClA)(as:D->Rho->R Rho)(g:TG):Prop:=∀ Fz B U Y H v d U' Q,Sx K CL Fz B U Y H->Rep K CL H (CQ B U Y) v d->as d U=.ok U'->(∀ Y',Sx K CL Fz B U' Y' H->Q Y' H)->g v Y H Q
theorem qR(i:Ag):GT K CL (λd U=>.ok (U.set i (Ab (d,Ae)))) (FC i):=λFz B U Y H v d U' Q x r e k=>by
 cases e;exact k _ (x.set i r)
theorem Rl{K:Fg}{Fz:Am->HO->Prop}{B:Am->Prop}{H:Hp}:∀(ts:Ac Ag)(ds:Ac D)(vs:Ac V)(U U':Rho)(Y:L2.St)(Q:L2.St->Hp->Prop),Sx K CL Fz B U Y H->Reps K CL H (CQ B U Y) vs ds->EW ts ds U=Ab U'->(∀ Y',Sx K CL Fz B U' Y' H->Q Y' H)->(ts.foldr (λt u=>Ia (FC t) u) Il) vs Y H Q
 |[],[],[],U,U',Y,Q,x,_,e,k=>by
  cases e;exact⟨rfl,k Y x⟩
 |t::ts,d::ds,v::vs,U,U',Y,Q,x,r,e,k=>by
  refine⟨v,vs,rfl,Rl ts ds vs _ U' _ Q (x.set t r.1) (Reps.sub (λa ha=>?_) ds r.2) e k⟩
  rcases ha with ha|⟨j,c,h1,h2⟩
  .exact .inl ha
  .by_cases hj:t=j
   .subst hj;have:=HU h1;cases this
   .rw[Dm hj]at h1 h2;exact .inr ⟨j,c,h1,h2⟩
 |[],_::_,_,_,_,_,_,_,_,e,_=>by cases e
 |_::_,[],_,_,_,_,_,_,_,e,_=>by cases e
 |[],[],_::_,_,_,_,_,_,r,_,_=>r.elim
 |_::_,_::_,[],_,_,_,_,_,r,_,_=>r.elim
theorem NB:∀(ts:Ac Ag)(ds:Ac D)(U U':Rho),EW ts ds U=Ab U'->ds.length=ts.length
 |[],[],_,_,_=>rfl
 |_::ts,_::ds,_,_,e=>congrArg (· + 1) (NB ts ds _ _ e)
 |[],_::_,_,_,e=>by cases e
 |_::_,[],_,_,e=>by cases e
theorem Wk(ts:Ac Ag):GT K CL (F4 ts) (LP K ts.length (ts.foldr (λt u=>Ia (FC t) u) Il)):=λFz B U Y H v d U' Q x r e k=>by
 cases d with
 |tup ds=>
  obtain⟨a,xs,rfl,na,sq,rs⟩:=r;rw[Tq]at e;cases e2:EW ts ds U with
  |none=>rw[e2]at e;cases e
  |some U2=>
   rw[e2]at e;cases e;exact⟨a,xs,rfl,sq,by rw[rs.length];exact NB _ _ _ _ e2,Rl ts ds xs U _ Y Q x rs e2 k⟩
 |_=>cases e
theorem WB{body:Ac BA}{fbd:Rho->O}{g:TG}(hp:GA (model X.prog X.w) X.A X.env X.xe)(hc:X.calm=Aa)(hGT:GT X.K CL as g)(hg:PG X tg g)(hit:SI X CL W tg iter fi)(hb:SSs X CL W body fbd)(hs:∀ x,Dr iter X.env x=pure x)(hax:∀ d U x,as d U≠.exn x):SS X CL W (.For tg iter body [] pos) (λU=>O.of U (fi U) λxs=>Cq (λx U'=>O.of U' (as x U') fbd) xs U):=λFz B pI s Y H D I ⟨U,x,p⟩=>by
 refine zL hp hc (hit (CQ B U Y)) hg (tb:=λD Y H=>∃ Fy,(λD Y H=>∃ U,Sx X.K CL Fy B U Y H/\CT X.K CL Fy B W (fbd U) D) D Y H) (λpI s Y H D I ⟨Fy,q⟩=>hb Fy B pI s Y H D I q) hs pI s Y H D I ⟨x.aok,U,x.good,CT.exI x p λds J H1 _ s1 y _ x1 q=>?_⟩
 let Fy:Am->HO->Prop:=λb o=>H1 b=Ab o/\¬ ∃(j:Ag)(d:Ov.D),U[j]?=Ab (Ab (d,Aa))/\Y[j]?=Ab (Ab (.ref b))
 have hfy:∀ b o,Fz b o->Fy b o:=λb o z=>⟨x1.same b o z,λ⟨j,d,h1,h2⟩=>(x1.new j d b h1 h2).1 o z⟩
 have xy:Sx X.K CL Fy B U Y H1:=⟨x1.good,x1.aok,λj d a h1 h2=>⟨λo z=>z.2 ⟨j,d,h1,h2⟩,(x1.new j d a h1 h2).2⟩,x1.dis,λb o z=>z.1,x1.len⟩
 refine⟨λk m Y' H'=>m=ds.length-k/\k<=ds.length/\∃ U',Sx X.K CL Fy B U' Y' H'/\CT X.K CL Fz B W (Cq (λx U'=>O.of U' (as x U') fbd) (ds.drop k) U') D,⟨ds.length,by simp,Fs _,U,xy,q⟩,?_⟩
 rintro k m Y' H' ⟨rfl,hk,U',x',q'⟩;have kp:Kp (CQ B U Y) H1 H':=λb o e na=>x'.same b o ⟨e,λz=>na (.inr z)⟩
 obtain⟨yst,ygo⟩:=y H' kp k;by_cases hlt:k<ds.length
 .have hd:ds[k]?=Ab ds[k]:=BP hlt;obtain⟨hgo,hyl⟩:=ygo _ hd;refine .inr ⟨hgo,λY'' H''=>∃ U'',Sx X.K CL Fy B U'' Y'' H''/\CT X.K CL Fz B W (Cq (λx U'=>O.of U' (as x U') fbd) (ds.drop (k+1)) U'') D,λY'' H'' z=>⟨ds.length-(k+1),by omega,rfl,hlt,z⟩,λv H2 hv=>?_⟩
  obtain⟨e2,rv⟩:=hyl v H2 hv;rw[FG hlt]at q';have q2:CT X.K CL Fz B W ((O.of U' (as ds[k] U') fbd).turn (Cq (λx U'=>O.of U' (as x U') fbd) (ds.drop (k+1)))) D:=q'
  have rv':Rep X.K CL H2 (CQ B U' Y') v ds[k]:=rv _ (λa ha=>by
    rcases ha with ha|⟨j,d,h1,h2⟩
    .exact .inl (.inl ha)
    .cases e:H1 a with
     |none=>exact .inr rfl
     |some o=>
      by_cases ho:∃(j:Ag)(d:Ov.D),U[j]?=Ab (Ab (d,Aa))/\Y[j]?=Ab (Ab (.ref a))
      .exact .inl (.inr ho)
      .exact absurd ⟨e,ho⟩ ((x'.new j d a h1 h2).1 o)) x'.aok
  cases ea:as ds[k] U' with
  |bad=>rw[ea]at q2;exact q2.elim
  |exn z=>exact absurd ea (hax _ _ z)
  |ok U2=>
   rw[ea,O.of_ok]at q2;exact hGT Fy B U' Y' H2 v ds[k] U2 _ (x'.grow e2) rv' ea λY3 x3=>⟨Fy,U2,x3,CT.turn hfy q2 λU3 Y3 H3 x3 q3=>⟨U3,x3,q3⟩⟩
 .have hk':ds.length<=k:=by omega
  rw[Xz hk']at q';exact .inl ⟨yst hk',q' Y' H' (x'.mono hfy)⟩
end
section
variable{X:Cx}{CL:ClA}{W:XW}{a b c:Ao}{fa fb fc:Rho->R D}{pos:A6}
noncomputable def tyK:Ki->Aq Dy
 |.int=>Ab "int"
 |.bool=>Ab "bool"
 |.str=>Ab "str"
 |.list=>Ab "list"
 |.tuple=>Ab "tuple"
 |_=>Af
noncomputable def Q8:D->Ak
 |.obj _ _=>Ae
 |.exc _ _=>Ae
 |.dic _=>Ae
 |_=>Aa
theorem bz{k:Ki}{Q:Vq}{E:Vq}(I:Inv X pI Y H s)(r:Dp X.K CL H A v d)(q:Ca v u)(hT:tyK k=Ab T)(hd:Q8 d=Aa)(h:∀ s',Inv X pI Y H s'->Q (.bool (kiD up k d)) s'):
  AC (model X.prog X.w) X.A (call (.builtin "isinstance") [u,.type T]) Q E s:=by
 have r':=r.plain;have it:=λt=>h _ (I.tok t)
 cases d with
 |obj=>cases hd
 |exc=>cases hd
 |dic=>cases hd
 |non=>
  cases r';cases q;cases k<;>simp only[tyK]at hT<;>cases hT
  .exact IsiPair.NoneType_int (it _)
  .exact IsiPair.NoneType_bool (it _)
  .exact IsiPair.NoneType_str (it _)
  .exact IsiPair.NoneType_list (it _)
  .exact IsiPair.NoneType_tuple (it _)
 |bl b=>
  cases r';cases q;cases k<;>simp only[tyK]at hT<;>cases hT
  .exact IsiPair.bool_int (h _ I)
  .exact IsiPair.bool_bool (h _ I)
  .exact IsiPair.bool_str (it _)
  .exact IsiPair.bool_list (it _)
  .exact IsiPair.bool_tuple (it _)
 |int i=>
  cases r';obtain⟨t,rfl⟩:=q;cases k<;>simp only[tyK]at hT<;>cases hT
  .exact IsiPair.int_int (h _ I)
  .exact IsiPair.int_bool (it _)
  .exact IsiPair.int_str (it _)
  .exact IsiPair.int_list (it _)
  .exact IsiPair.int_tuple (it _)
 |str x=>
  cases r';obtain⟨t,rfl⟩:=q;cases k<;>simp only[tyK]at hT<;>cases hT
  .exact IsiPair.str_int (it _)
  .exact IsiPair.str_bool (it _)
  .exact IsiPair.str_str (h _ I)
  .exact IsiPair.str_list (it _)
  .exact IsiPair.str_tuple (it _)
 |tup ds=>
  obtain⟨p,xs,rfl,_,sq,rr⟩:=r';obtain⟨its,rv,pt,_⟩:=I.tuple sq;cases q;have pt':s.heap.IsTuple p its.toArray:=pt;cases k<;>simp only[tyK]at hT<;>cases hT
  .exact IsiPair.isTuple_int pt' (λ_ _ e=>e) (it _)
  .exact IsiPair.isTuple_bool pt' (λ_ _ e=>e) (it _)
  .exact IsiPair.isTuple_str pt' (λ_ _ e=>e) (it _)
  .exact IsiPair.isTuple_list pt' (λ_ _ e=>e) (it _)
  .exact IsiPair.isTuple_tuple pt' (λ_ _ e=>e) (h _ I)
 |lst ds=>
  obtain⟨p,xs,rfl,_,sq,rr⟩:=r';obtain⟨its,rv,pl,_⟩:=I.list sq;cases q;have pt':s.heap.IsList p its.toArray:=ID pl;cases k<;>simp only[tyK]at hT<;>cases hT
  .exact IsiPair.isList_int pt' (λ_ _ e=>e) (it _)
  .exact IsiPair.isList_bool pt' (λ_ _ e=>e) (it _)
  .exact IsiPair.isList_str pt' (λ_ _ e=>e) (it _)
  .exact IsiPair.isList_list pt' (λ_ _ e=>e) (h _ I)
  .exact IsiPair.isList_tuple pt' (λ_ _ e=>e) (it _)
theorem gM{k:Ki}(hT:tyK k=Ab T)(p:By Rp W H (FQ up [k] d) Q):Q8 d=Aa/\By Rp W H (.ok (.bl (kiD up k d))) Q:=by
 cases k<;>simp only[tyK]at hT<;>cases hT<;>cases d<;>first|exact p.elim|exact⟨rfl,by simpa using p⟩
theorem xN{k:Ki}{x:An}(hT:tyK k=Ab T)(hg:Gl X "isinstance")(hm:X.mg "isinstance" = Af)(hg2:Gl X x)(hm2:X.mg x=Af)(hv:Dx x=Ab (.type T))(hn:x≠"__name__")(hdb:(x==("__debug__" : An))=Ae)(ha:ST X CL W a fa)(he:AI [a,.Name x p2] X.env=(Ae,eval a X.env)::AI [.Name x p2] X.env):SE X CL W (.Call (.Name "isinstance" p) [a,.Name x p2] [] pos) (λU=>(fa U).bind λx=>FQ up [k] x):=λA=>
 PE.weak (UP (r:=λxs H Q=>∃ y d,xs=[y,.ty T]/\Dp X.K CL H A y d/\Q8 d=Aa/\Q (.bl (kiD up k d)) H) (λpI s Y H xs us Q I r ⟨y,d,e,ry,hd,q⟩=>by
   subst e;obtain⟨u,w',rfl,r1,r2⟩:=RF r;cases r2;exact bz I ry r1 hT hd λs' I'=>⟨.bl _,H,I',rfl,q⟩)
  hg hm boot_isinstance (Fj (ha A) (Fj (oJ (v:=.ty T) hg2 hm2 hv rfl hn hdb) G5 rfl) he) (by decide) (by decide) he rfl) λY H Q ⟨hA,U,g,q⟩=>⟨hA,U,g,By.bind q λd v H1 _ s1 r1 p1=>by
   obtain⟨hd,p2⟩:=gM hT p1;exact⟨v,d,rfl,r1,hd,p2 _ H1 (AN.refl H1) rfl⟩⟩
theorem QZ{b:Ak}{A':Bc}{E:Vq}{Q:Ak->As->Prop}(r:Rep X.K CL H A v d)(q:Ca v u)(h:EN d=.ok b)(hq:Q b s):AC (model prog w) A' (truthy u) Q E s:=by
 cases d with
 |non=>
  cases r;cases q;cases h;exact truthy_none hq
 |bl k=>
  cases r;cases q;cases h;exact C4 hq
 |int i=>
  cases r;obtain⟨t,rfl⟩:=q;cases h;exact truthy_int hq
 |_=>cases h
theorem Tw:∀{ds:Ac D}{b:Ak},FD ds=.ok b->(∀ j,j<ds.length->∃ c,EN (ds.getD j .non)=.ok c)/\b=(AT ds.length).all λj=>match EN (ds.getD j .non) with
  |.ok c=>c
  |_=>Ae
 |[],b,h=>by cases h;exact⟨λj hj=>absurd hj (GH _),rfl⟩
 |d::ds,b,h=>by
  rw[Qk]at h;cases e:EN d with
  |bad=>rw[e]at h;cases h
  |exn x=>rw[e]at h;cases h
  |ok c=>
   rw[e,R.bind_ok]at h;cases e2:FD ds with
   |bad=>rw[e2]at h;cases h
   |exn x=>rw[e2]at h;cases h
   |ok c2=>
    rw[e2,R.bind_ok]at h;cases h;obtain⟨h1,h2⟩:=Tw e2;refine⟨λj hj=>?_,?_⟩
    .cases j with
     |zero=>exact⟨c,e⟩
     |succ j=>exact h1 j (by simpa using hj)
    .rw[BE,S6,h2];show (c&&_)=((match EN d with | .ok c=>c|_=>Ae)&&_)
     rw[e];rfl
theorem Tv:∀{ds:Ac D}{b:Ak},F6 ds=.ok b->(∀ j,j<ds.length->∃ c,EN (ds.getD j .non)=.ok c)/\b=(AT ds.length).any λj=>match EN (ds.getD j .non) with
  |.ok c=>c
  |_=>Ae
 |[],b,h=>by cases h;exact⟨λj hj=>absurd hj (GH _),rfl⟩
 |d::ds,b,h=>by
  rw[Ts]at h;cases e:EN d with
  |bad=>rw[e]at h;cases h
  |exn x=>rw[e]at h;cases h
  |ok c=>
   rw[e,R.bind_ok]at h;cases e2:F6 ds with
   |bad=>rw[e2]at h;cases h
   |exn x=>rw[e2]at h;cases h
   |ok c2=>
    rw[e2,R.bind_ok]at h;cases h;obtain⟨h1,h2⟩:=Tv e2;refine⟨λj hj=>?_,?_⟩
    .cases j with
     |zero=>exact⟨c,e⟩
     |succ j=>exact h1 j (by simpa using hj)
    .rw[BE,EU,Jy,Xx,h2];show (c||_)=((match EN d with | .ok c=>c|_=>Ae)||_)
     rw[e];rfl
theorem Uf:∀(ds:Ac D)(a z:Ad),GW a ds=.ok z->(∀ j,j<ds.length->∃ i,ds.getD j .non=.int i)/\z=a+JO (λj=>match ds.getD j .non with
  |.int i=>i
  | _=>0) ds.length
 |[],a,z,h=>by cases h;exact⟨λj hj=>absurd hj (GH _),by simp[JO]⟩
 |.int i::ds,a,z,h=>by
  obtain⟨h1,h2⟩:=Uf ds (a+i) z h;refine⟨λj hj=>?_,?_⟩
  .cases j with
   |zero=>exact⟨i,rfl⟩
   |succ j=>exact h1 j (by simpa using hj)
  .have key:∀ n,JO (λj=>match (D.int i::ds).getD j .non with | .int i=>i|_=>0) (n+1)=i+JO (λj=>match ds.getD j .non with | .int i=>i|_=>0) n:=by
    intro n
    induction n with
    |zero=>show (0:Ad)+i=i+0;omega
    |succ n ih=>
     show JO _ (n+1)+(match ds.getD n .non with | .int i=>i|_=>0)=i+(JO _ n+(match ds.getD n .non with | .int i=>i|_=>0))
     rw[ih];omega
   rw[h2,BE,key];omega
 |.non::_,_,_,h=>by cases h
 |.bl _::_,_,_,h=>by cases h
 |.str _::_,_,_,h=>by cases h
 |.tup _::_,_,_,h=>by cases h
 |.lst _::_,_,_,h=>by cases h
 |.obj _ _::_,_,_,h=>by cases h
 |.exc _ _::_,_,_,h=>by cases h
 |.dic _::_,_,_,h=>by cases h
theorem MK{ds:Ac D}{its:Ac Ai}(r:Reps X.K CL H A0 xs ds)(rv:Bj xs its){v:Ai}(h:its.toArray[j]?=Ab v):j<ds.length/\∃ x,Rep X.K CL H A0 x (ds.getD j .non)/\Ca x v:=by
 have h':its[j]?=Ab v:=by simpa using h
 obtain⟨hj,e⟩:=Be.mp h';obtain⟨x,rx,q⟩:=KA r rv hj;have l1:=rv.length;have l2:=r.length
 exact⟨by omega,x,rx,by rw[<-e];exact q⟩
theorem MV(k:∀ b q,b∉[h.objs.size]->(h.push o).get? b=Ab q->h'.get? b=Ab q):∀ b q,h.get? b=Ab q->h'.get? b=Ab q:=λb q e=>k b q (by
 intro z;have:=BY.mp z;rw[this]at e;exact absurd (AE e) (Bw _)) (Ar _ e)
theorem d9(hc:X.calm=Aa):Jt X CL W (.builtin "all") (biD .all):=by
  intro A pI s Y H xs us Q I r ⟨hA,ds,rs,p⟩
  match ds,rs,p with
  |[.lst es],rs,p=>
    obtain⟨v,rfl,rv⟩:=rs.one;obtain⟨q,ys,e,_,sq,ry⟩:=rv.plain;subst e;obtain⟨u,rfl,ru⟩:=IH r;cases ru;rw[Z_6]at p;cases e1:FD es with
    |bad=>rw[e1]at p;exact p.elim
    |exn x=>
      exfalso
      have:∀(es:Ac D) x,FD es≠.exn x:=by
        intro es
        induction es with
        |nil=>intro x h;cases h
        |cons d ds ih=>
          intro x h;rw[Qk]at h;cases e:EN d with
          |bad=>rw[e]at h;cases h
          |exn y=>cases d<;>cases e
          |ok c=>
            rw[e,R.bind_ok]at h;cases e2:FD ds with
            |bad=>rw[e2]at h;cases h
            |exn y=>exact ih y e2
            |ok c2=>rw[e2]at h;cases h
      exact this es x e1
    |ok b=>
      rw[e1,R.bind_ok]at p;obtain⟨h1,h2⟩:=Tw e1;obtain⟨its,rvv,pl,_⟩:=I.list sq;have hlt:q<s.heap.objs.size:=by obtain⟨o,n,e,_⟩:=pl;exact AE e
      have hl:its.toArray.size=es.length:=by rw[AD,<-rvv.length,ry.length]
      refine call_all_walk (En (ID pl) ⟨s.heap.objs.size,_,_,_,_,_,(λj=>match EN (es.getD j .non) with | .ok c=>c|_=>Ae),rfl,KN (A:=X.A.in1) (I.ok.hd hc) s.heap.objs.size q (AZ hlt) its.toArray,⟨⟨_,AB _ rfl,rfl,rfl⟩,(ID pl).push _⟩,λj v s' Q' E' hv hQ=>?_,λh' tk k=>?_⟩)
      · obtain⟨hj,x,rx,qx⟩:=MK ry rvv hv;obtain⟨c,ec⟩:=h1 j hj;exact QZ rx qx ec (by dsimp only at hQ;rw[ec]at hQ;exact hQ)
      · rw[hl,<-h2];exact⟨.bl b,H,I.kept (MV k),rfl,p _ H (AN.refl H) rfl⟩
  |[],_,p=>exact p.elim
  |[.non],_,p=>exact p.elim
  |[.bl _],_,p=>exact p.elim
  |[.int _],_,p=>exact p.elim
  |[.str _],_,p=>exact p.elim
  |[.tup _],_,p=>exact p.elim
  |[.obj _ _],_,p=>exact p.elim
  |[.exc _ _],_,p=>exact p.elim
  |[.dic _],_,p=>exact p.elim
  |x::_::_,_,p=>cases x<;>exact p.elim
theorem VR(hc:X.calm=Aa){ys:Ac V}{es:Ac D}(I:Inv X pI Y H s)(sq:SqL X.K H q ys\/SqT X.K H q ys)(ry:Reps X.K CL H A0 ys es)(p:By (λH=>Rep X.K CL H A) W H ((F6 es).bind λb=>.ok (.bl b)) Q):AC (model X.prog X.w) X.A (call (.builtin "any") [.ref q]) (EP X pI Y Q) X.xe s:=by
 cases e1:F6 es with
 |bad=>rw[e1]at p;exact p.elim
 |exn x=>
  exfalso
  clear p
  have:∀(es:Ac D) x,F6 es≠.exn x:=by
   intro es
   induction es with
   |nil=>intro x h;cases h
   |cons d ds ih=>
    intro x h;rw[Ts]at h;cases e:EN d with
    |bad=>rw[e]at h;cases h
    |exn y=>cases d<;>cases e
    |ok c=>
     rw[e,R.bind_ok]at h;cases e2:F6 ds with
     |bad=>rw[e2]at h;cases h
     |exn y=>exact ih y e2
     |ok c2=>rw[e2]at h;cases h
  exact this es x e1
 |ok b=>
  rw[e1,R.bind_ok]at p;obtain⟨h1,h2⟩:=Tv e1;rcases sq with sq|sq
  .obtain⟨its,rvv,pl,_⟩:=I.list sq;have hlt:q<s.heap.objs.size:=by obtain⟨o,n,e,_⟩:=pl;exact AE e
   have hl:its.toArray.size=es.length:=by rw[AD,<-rvv.length,ry.length]
   refine call_any_walk (En (ID pl) ⟨s.heap.objs.size,_,_,_,_,_,(λj=>match EN (es.getD j .non) with | .ok c=>c|_=>Ae),rfl,KN (A:=X.A.in1) (I.ok.hd hc) s.heap.objs.size q (AZ hlt) its.toArray,⟨⟨_,AB _ rfl,rfl,rfl⟩,(ID pl).push _⟩,λj v s' Q' E' hv hQ=>?_,λh' tk k=>?_⟩)
   .obtain⟨hj,x,rx,qx⟩:=MK ry rvv hv;obtain⟨c,ec⟩:=h1 j hj;exact QZ rx qx ec (by dsimp only at hQ;rw[ec]at hQ;exact hQ)
   .rw[hl,<-h2];exact⟨.bl b,H,I.kept (MV k),rfl,p _ H (AN.refl H) rfl⟩
  .obtain⟨its,rvv,pl,_⟩:=I.tuple sq;have pl':s.heap.IsTuple q its.toArray:=pl;have hlt:q<s.heap.objs.size:=by obtain⟨o,e,_⟩:=pl';exact AE e
   have hl:its.toArray.size=es.length:=by rw[AD,<-rvv.length,ry.length]
   refine call_any_walk (ET pl' ⟨s.heap.objs.size,_,_,_,_,_,(λj=>match EN (es.getD j .non) with | .ok c=>c|_=>Ae),rfl,Kb (A:=X.A.in1) (I.ok.hd hc) s.heap.objs.size q (AZ hlt) its.toArray,⟨⟨_,AB _ rfl,rfl,rfl⟩,pl'.push _⟩,λj v s' Q' E' hv hQ=>?_,λh' tk k=>?_⟩)
   .obtain⟨hj,x,rx,qx⟩:=MK ry rvv hv;obtain⟨c,ec⟩:=h1 j hj;exact QZ rx qx ec (by dsimp only at hQ;rw[ec]at hQ;exact hQ)
   .rw[hl,<-h2];exact⟨.bl b,H,I.kept (MV k),rfl,p _ H (AN.refl H) rfl⟩
theorem av(hc:X.calm=Aa):Jt X CL W (.builtin "any") (biD .any):=by
  intro A pI s Y H xs us Q I r ⟨hA,ds,rs,p⟩
  match ds,rs,p with
  |[.lst es],rs,p=>
    obtain⟨v,rfl,rv⟩:=rs.one;obtain⟨q,ys,e,_,sq,ry⟩:=rv.plain;subst e;obtain⟨u,rfl,ru⟩:=IH r;cases ru;exact VR hc I (.inl sq) ry p
  |[.tup es],rs,p=>
    obtain⟨v,rfl,rv⟩:=rs.one;obtain⟨q,ys,e,_,sq,ry⟩:=rv.plain;subst e;obtain⟨u,rfl,ru⟩:=IH r;cases ru;exact VR hc I (.inr sq) ry p
  |[],_,p=>exact p.elim
  |[.non],_,p=>exact p.elim
  |[.bl _],_,p=>exact p.elim
  |[.int _],_,p=>exact p.elim
  |[.str _],_,p=>exact p.elim
  |[.obj _ _],_,p=>exact p.elim
  |[.exc _ _],_,p=>exact p.elim
  |[.dic _],_,p=>exact p.elim
  |x::_::_,_,p=>cases x<;>exact p.elim
theorem Vd(hc:X.calm=Aa){ys:Ac V}{es:Ac D}(I:Inv X pI Y H s)(sq:SqL X.K H q ys\/SqT X.K H q ys)(ry:Reps X.K CL H A0 ys es)(p:By (λH=>Rep X.K CL H A) W H ((GW 0 es).bind λb=>.ok (.int b)) Q):AC (model X.prog X.w) X.A (call (.builtin "sum") [.ref q]) (EP X pI Y Q) X.xe s:=by
 cases e1:GW 0 es with
 |bad=>rw[e1]at p;exact p.elim
 |exn x=>
  exfalso
  have:∀(es:Ac D)(a:Ad) x,GW a es≠.exn x:=by
   intro es
   induction es with
   |nil=>intro a x h;cases h
   |cons d ds ih=>
    intro a x h;cases d<;>first|exact ih _ _ h|cases h
  exact this es 0 x e1
 |ok z=>
  rw[e1,R.bind_ok]at p;obtain⟨h1,h2⟩:=Uf es 0 z e1;rw[C0]at h2;rcases sq with sq|sq
  .obtain⟨its,rvv,pl,_⟩:=I.list sq;have hlt:q<s.heap.objs.size:=by obtain⟨o,n,e,_⟩:=pl;exact AE e
   have hl:its.toArray.size=es.length:=by rw[AD,<-rvv.length,ry.length]
   refine Zv (En (ID pl) ⟨s.heap.objs.size,_,_,_,_,_,(λj=>match es.getD j .non with | .int i=>i|_=>0),rfl,KN (A:=X.A.in1) (I.ok.hd hc) s.heap.objs.size q (AZ hlt) its.toArray,⟨⟨_,AB _ rfl,rfl,rfl⟩,(ID pl).push _⟩,λb hb=>?_,λj v hv=>?_,λh' tk t' k=>?_⟩)
   .show b<(s.heap.push _).objs.size;rw[Bk];rcases Av.mp hb with rfl|hb
    .exact EA _
    .rw[BY.mp hb];exact CN hlt
   .obtain⟨hj,x,rx,qx⟩:=MK ry rvv hv;obtain⟨i,ei⟩:=h1 j hj;rw[ei]at rx;dsimp only;rw[ei];cases rx;exact qx
   .rw[hl,<-h2];exact⟨.int z,H,I.kept (MV k),⟨_,rfl⟩,p _ H (AN.refl H) rfl⟩
  .obtain⟨its,rvv,pl,_⟩:=I.tuple sq;have pl':s.heap.IsTuple q its.toArray:=pl;have hlt:q<s.heap.objs.size:=by obtain⟨o,e,_⟩:=pl';exact AE e
   have hl:its.toArray.size=es.length:=by rw[AD,<-rvv.length,ry.length]
   refine Zv (ET pl' ⟨s.heap.objs.size,_,_,_,_,_,(λj=>match es.getD j .non with | .int i=>i|_=>0),rfl,Kb (A:=X.A.in1) (I.ok.hd hc) s.heap.objs.size q (AZ hlt) its.toArray,⟨⟨_,AB _ rfl,rfl,rfl⟩,pl'.push _⟩,λb hb=>?_,λj v hv=>?_,λh' tk t' k=>?_⟩)
   .show b<(s.heap.push _).objs.size;rw[Bk];rcases Av.mp hb with rfl|hb
    .exact EA _
    .rw[BY.mp hb];exact CN hlt
   .obtain⟨hj,x,rx,qx⟩:=MK ry rvv hv;obtain⟨i,ei⟩:=h1 j hj;rw[ei]at rx;dsimp only;rw[ei];cases rx;exact qx
   .rw[hl,<-h2];exact⟨.int z,H,I.kept (MV k),⟨_,rfl⟩,p _ H (AN.refl H) rfl⟩
theorem ao(hc:X.calm=Aa):Jt X CL W (.builtin "sum") (biD .sum):=by
  intro A pI s Y H xs us Q I r ⟨hA,ds,rs,p⟩
  match ds,rs,p with
  |[.lst es],rs,p=>
    obtain⟨v,rfl,rv⟩:=rs.one;obtain⟨q,ys,e,_,sq,ry⟩:=rv.plain;subst e;obtain⟨u,rfl,ru⟩:=IH r;cases ru;exact Vd hc I (.inl sq) ry p
  |[.tup es],rs,p=>
    obtain⟨v,rfl,rv⟩:=rs.one;obtain⟨q,ys,e,_,sq,ry⟩:=rv.plain;subst e;obtain⟨u,rfl,ru⟩:=IH r;cases ru;exact Vd hc I (.inr sq) ry p
  |[],_,p=>exact p.elim
  |[.non],_,p=>exact p.elim
  |[.bl _],_,p=>exact p.elim
  |[.int _],_,p=>exact p.elim
  |[.str _],_,p=>exact p.elim
  |[.obj _ _],_,p=>exact p.elim
  |[.exc _ _],_,p=>exact p.elim
  |[.dic _],_,p=>exact p.elim
  |x::_::_,_,p=>cases x<;>exact p.elim
end
section
variable(K:Fg)(CL:ClA)
def aC(H0:Hp)(A:Am->Prop)(H:Hp)(v:V)(d:D):Prop:=∀ ds,d=.lst ds->∃ a xs,v=.ref a/\H0 a=Af/\H a=Ab (.lst xs)/\Reps K CL H (λb=>A b\/b=a) xs ds
def Fb(fr:Ak)(H0:Hp)(A:Am->Prop)(H:Hp)(v:V)(d:D):Prop:=Rep K CL H A v d/\(fr=Aa->aC K CL H0 A H v d)
end
section
variable{X:Cx}{CL:ClA}{W:XW}{a b c:Ao}{fa fb fc:Rho->R D}{pos:A6}
def SC(X:Cx)(CL:ClA)(W:XW)(fr:Ak)(e:Ao)(f:Rho->R D):Prop:=∀ A,PE X e (λY H Q=>AOk H A/\∃ U,Good X.K CL A U Y H/\By (Fb X.K CL fr H A) W H (f U) Q)
theorem SC.se{fr:Ak}(h:SC X CL W fr a fa):SE X CL W a fa:=λA=>PE.weak (h A) λY H Q ⟨hA,U,g,p⟩=>⟨hA,U,g,by
 cases e:fa U with
 |ok d=>rw[e]at p;exact λv H' s r=>p v H' s r.1
 |exn x=>rw[e]at p;exact p
 | bad=>rw[e]at p;exact p⟩
theorem SE.sc(h:SE X CL W a fa):SC X CL W Ae a fa:=λA=>PE.weak (h A) λY H Q ⟨hA,U,g,p⟩=>⟨hA,U,g,by
 cases e:fa U with
 |ok d=>rw[e]at p;exact λv H' s r=>p v H' s ⟨r,λz=>nomatch z⟩
 |exn x=>rw[e]at p;exact p
 | bad=>rw[e]at p;exact p⟩
theorem SC.congr{fr:Ak}{f g:Rho->R D}(h:SC X CL W fr a f)(e:∀ U,g U=f U):SC X CL W fr a g:=λA=>PE.weak (h A) λY H Q ⟨hA,U,q,p⟩=>⟨hA,U,q,by rw[<-e];exact p⟩
theorem K9{p:Am}{ds:Ac D}(s:AN H0 H)(hA:AOk H A)(hp:H p=Af)(r:Reps K CL H A xs ds):Fb K CL Aa H0 A (upd H p (.lst xs)) (.ref p) (.lst ds):=
 ⟨VL hA hp r,λ_ ds' e=>by
  cases e;exact⟨p,xs,rfl,s.free hp,Jm,(Reps.wide (λa ha=>ha.imp id λe=>by rw[e];exact hp) _ r).same (GR hp _)⟩⟩
theorem Vi{fr:Ak}(r:Rep K CL H A v d)(h:∀ ds,d≠.lst ds):Fb K CL fr H0 A H v d:=⟨r,λ_ ds e=>absurd e (h ds)⟩
theorem uU(hs:SA X CL W es fs)(hz:∀ U ds,fs U=.ok ds->ds.length<=100000):SC X CL W Aa (.List es pos) (λU=>(fs U).bind λxs=>.ok (.lst xs)):=
 λA=>PE.weak (aa (hs A)) λY H Q ⟨hA,U,g,p⟩=>⟨hA,U,g,Ig.bind p λds vs H1 e s1 r1 p1=>⟨by
  rw[r1.length,Ew];have:=hz U ds e;omega,λq hq=>p1 _ _ (GR hq _) (K9 s1 (hA.same s1) hq r1)⟩⟩
theorem By.bindF{fr:Ak}{f:D->R D}{Q':VK}(h:By (Fb K CL fr H A) W H (r.bind f) Q)(k:∀ d v H',r=.ok d->AN H H'->Rp H' v d->By (Fb K CL fr H A) W H' (f d) Q->Q' v H'):By Rp W H r Q':=by
 cases r with
 |ok d=>exact λv H2 s2 q=>k d v H2 rfl s2 q (By.same s2 h)
 |exn x=>exact h
 |bad=>exact h
theorem Ig.bindF{Rp:Hp->Ac V->Ac D->Prop}{r:R (Ac D)}{f:Ac D->R D}{Q':Ac V->Hp->Prop}(h:By Rq W H (r.bind f) Q)(k:∀ d v H',r=.ok d->AN H H'->Rp H' v d->By Rq W H' (f d) Q->Q' v H'):Ig Rp W H r Q':=by
 cases r with
 |ok d=>exact λv H2 s2 q=>k d v H2 rfl s2 q (By.same s2 h)
 |exn x=>exact h
 |bad=>exact h
theorem KB.bindF{r:R (Aq Ad)}{f:Aq Ad->R D}(h:By Rq W H (r.bind f) Q)(k:∀ o H',r=.ok o->AN H H'->By Rq W H' (f o) Q->Q' o H'):KB W H r Q':=by
 cases r with
 |ok d=>exact λH2 s2=>k d H2 rfl s2 (By.same s2 h)
 |exn x=>exact h
 |bad=>exact h
theorem je{lo hi:Aq Ao}{fl fh:Rho->R (Aq Ad)}(ha:ST X CL W a fa)(hl:SO X CL W lo fl)(hh:SO X CL W hi fh):SC X CL W Aa (.Subscript a (.Slice lo hi Af p2) pos) (λU=>(fa U).bind λx=>(fl U).bind λl=>(fh U).bind λh=>slD x l h):=
 λA=>PE.weak (kC (r:=λx l h H Q=>SQ X.K x l h H Q\/SN X.K x l h H Q) (λpI s Y H x v vl vu lo hi sl Q I rx hs pl pu h=>h.elim (mE pI s Y H x v vl vu lo hi sl Q I rx hs pl pu) (xC pI s Y H x v vl vu lo hi sl Q I rx hs pl pu)) (ha A) (hl A) (hh A)) λY H Q ⟨hA,U,g,p⟩=>⟨hA,U,g,By.bindF p λdx x H1 _ s1 r1 p1=>⟨hA.same s1,U,g.same s1,KB.bindF p1 λl H2 _ s2 p2=>⟨(hA.same s1).same s2,U,(g.same s1).same s2,KB.bindF p2 λh H3 _ s3 p3=>by
  cases dx with
  |lst ds=>
   obtain⟨q,xs,rfl,sq,r⟩:=((r1.same s2).same s3).lst_of;exact .inl ⟨q,xs,rfl,sq,λt ht=>p3 _ _ (GR ht _) (K9 ((s1.trans s2).trans s3) (((hA.same s1).same s2).same s3) ht (VB l h r))⟩
  |tup ds=>
   obtain⟨q,xs,rfl,_,sq,r⟩:=((r1.same s2).same s3).tup_of;rw[cY]at p3;split at p3
   .exact p3.elim
   .rename_i hw;refine .inr ⟨q,xs,rfl,sq,?_,λt ht=>p3 _ _ (GR ht _) (Vi (Lj (((hA.same s1).same s2).same s3) ht (VB l h r)) (by intro _ z;cases z))⟩
    rintro⟨h1,h2⟩;refine hw ?_;have e:∀ d o,HT.sIx xs.length d o=Gx ds.length d o:=λd o=>by rw[r.length];cases o<;>rfl
    rw[e]at h1 h2;rw[r.length]at h2;simp[h1,h2]
  | _=>exact p3.elim⟩⟩⟩
noncomputable def OpN(X:Cx)(CL:ClA)(W:XW)(f:Ai->Ai->Hk Ai)(g:D->D->R D):Prop:=
 ∀ A H0,OpR X f (λx y H Q=>AN H0 H/\AOk H A/\∃ dx dy,Dp X.K CL H A x dx/\Dp X.K CL H A y dy/\By (Fb X.K CL Aa H0 A) W H (g dx dy) Q)
theorem oR:OpN X CL W (CB .Add) (Dj .Add):=by
 intro A H0 pI s Y H x y v u Q I rx ry ⟨s0,hA,dx,dy,hx,hy,p⟩;have key:(∀ ds,dx≠.lst ds)->EP X pI Y Q=EP X pI Y Q->AC (model X.prog X.w) X.A (CB .Add v u) (EP X pI Y Q) X.xe s:=λhd _=>by
  refine VG (W:=W) A pI s Y H x y v u Q I rx ry ⟨hA,dx,dy,hx,hy,?_⟩;cases e:Dj .Add dx dy with
  |bad=>rw[e]at p;exact p
  |exn x=>rw[e]at p;exact p
  |ok d=>
   rw[e]at p;refine λv' H' s' r'=>p v' H' s' (Vi r' λds z=>?_)
   subst z;cases dx with
   |lst ds=>exact hd _ rfl
   |tup xs=>
    cases dy with
    |tup ys=>rw[VZ]at e;split at e<;>cases e
    |_=>cases e
   |str xs=>
    cases dy with
    |str ys=>rw[V3]at e;split at e<;>cases e
    |_=>cases e
   |int i=>cases dy<;>cases e
   |_=>cases e
 cases dx with
 |lst ds=>
  cases dy with
  |lst es=>
   obtain⟨a,xs,rfl,s1,r1⟩:=hx.lst_of;obtain⟨b,ys,rfl,s2,r2⟩:=hy.lst_of;simp only[V4]at p;split at p
   .rename_i h;refine VH pI s Y H _ _ v u Q I rx ry ⟨a,b,xs,ys,rfl,rfl,s1,s2,by rw[r1.length,r2.length];exact Iy h,λq hq=>?_⟩
    exact p _ _ (GR hq _) (K9 s0 hA hq (r1.append r2))
   .exact p.elim
  |_=>exact p.elim
 |_=>exact key (by intro _ z;cases z) rfl
theorem xB(ha:ST X CL W a fa)(hb:ST X CL W b fb):SC X CL W Aa (.BinOp a .Add b pos) (λU=>(fa U).bind λx=>(fb U).bind λy=>Dj .Add x y):=
 λA pI s Y H Q I h=>by
  obtain⟨hA,U,g,p⟩:=h;exact WW (oR (W:=W) A H) (ha A) (hb A) pI s Y H Q I ⟨hA,U,g,By.bindF p λdx x H1 _ s1 r1 p1=>⟨hA.same s1,U,g.same s1,By.bind (Rq:=Fb X.K CL Aa H A) p1 λdy y H2 _ s2 r2 p2=>⟨s1.trans s2,(hA.same s1).same s2,dx,dy,r1.same s2,r2,p2⟩⟩⟩
def Xc(X:Cx)(CL:ClA)(W:XW)(f:Ai)(g:Ac D->R D):Prop:=∀ A H0,Ih X f (λxs H Q=>AN H0 H/\AOk H A/\∃ ds,Gu X.K CL H A xs ds/\By (Fb X.K CL Aa H0 A) W H (g ds) Q)
theorem tN:Xc X CL W (.type "list") (biD .list):=by
  intro A H0 pI s Y H xs us Q I r ⟨s0,hA,ds,rs,p⟩
  match ds,rs,p with
  |[.lst es],rs,p=>
    obtain⟨v,rfl,rv⟩:=rs.one;obtain⟨q,ys,rfl,sq,ry⟩:=rv.lst_of;exact Td pI s Y H _ us Q I r ⟨q,ys,rfl,.inl sq,λl hl=>p _ _ (GR hl _) (K9 s0 hA hl ry)⟩
  |[.tup es],rs,p=>
    obtain⟨v,rfl,rv⟩:=rs.one;obtain⟨q,ys,rfl,_,sq,ry⟩:=rv.tup_of;exact Td pI s Y H _ us Q I r ⟨q,ys,rfl,.inr sq,λl hl=>p _ _ (GR hl _) (K9 s0 hA hl ry)⟩
  |[],_,p=>exact p.elim
  |[.non],_,p=>exact p.elim
  |[.bl _],_,p=>exact p.elim
  |[.int _],_,p=>exact p.elim
  |[.str _],_,p=>exact p.elim
  |[.obj _ _],_,p=>exact p.elim
  |[.exc _ _],_,p=>exact p.elim
  |[.dic _],_,p=>exact p.elim
  |x::_::_,_,p=>cases x<;>exact p.elim
theorem xA{x:An}{g:Ac D->R D}(hc:Xc X CL W (.type T) g)(hg:Gl X x)(hm:X.mg x=Af)(hv:Dx x=Ab (.type T))(ha:SAT X CL W (e::es) fs)(hn:x≠"__name__")(hdb:(x==("__debug__" : An))=Ae)(he:AI (e::es) X.env=(Ae,eval e X.env)::AI es X.env)(hpl:∀ pos,(CU pos (AI es X.env)).any (·.1)=Ae):SC X CL W Aa (.Call (.Name x p) (e::es) [] pos) (λU=>(fs U).bind g):=λA pI s Y H Q I ⟨hA,U,gd,q⟩=>
 TU (hc A H) hg hm hv (ha A) hn hdb he (hpl _) pI s Y H Q I ⟨hA,U,gd,Ig.bindF q λds vs H1 _ s1 r1 p1=>⟨s1,hA.same s1,ds,r1,p1⟩⟩
mutual
theorem WU{K:Fg}{H:Hp}{A:Am->Prop}(hA:AOk H A):∀(n:Ag)(d:D){v:V},nlD n d=Aa->Rep K CL H A0 v d->Rep K CL H A v d
 |_,.non,_,_,h=>h
 |_,.bl _,_,_,h=>h
 |_,.int _,_,_,h=>h
 |_,.str _,_,_,h=>h
 |0,.tup _,_,hn,_=>by cases hn
 |n+1,.tup ds,_,hn,h=>by
  obtain⟨a,xs,e,_,s,r⟩:=h;refine⟨a,xs,e,?_,s,nls_up hA n ds hn r⟩;rcases s with s|s
  .refine .inl λz=>?_
   obtain⟨ys,q⟩:=hA a z;rcases s with s|⟨o,s⟩<;>rw[q]at s<;>cases s
  .exact .inr s
 |n,.lst _,_,hn,_=>by cases n<;>cases hn
 |n,.obj _ _,_,hn,_=>by cases n<;>cases hn
 |n,.exc _ _,_,hn,_=>by cases n<;>cases hn
 |n,.dic _,_,hn,_=>by cases n<;>cases hn
theorem nls_up{K:Fg}{H:Hp}{A:Am->Prop}(hA:AOk H A):∀(n:Ag)(ds:Ac D){vs:Ac V},ds.all (nlD n)=Aa->Reps K CL H A0 vs ds->Reps K CL H A vs ds
 |_,[],[],_,h=>h
 |n,d::ds,_::_,hn,h=>by
  simp only[Hj,Ap]at hn;exact⟨WU hA n d hn.1 h.1,nls_up hA n ds hn.2 h.2⟩
 |_,[],_::_,_,h=>h.elim
 |_,_::_,[],_,h=>h.elim
end
theorem bn{fr:Ak}(hA0:AOk H0 A)(s:AN H0 H)(hc:LR fr d=Aa)(r:Fb K CL fr H0 A0 H v d):Fb K CL fr H0 A H v d:=by
 have hA:=hA0.same s;cases d with
 |lst ds=>
  have hc':(fr&&ds.all (nlD 5))=Aa:=hc;rw[Ap]at hc';obtain⟨a,xs,e,h0,h1,rs⟩:=r.2 hc'.1 ds rfl;have hA2:AOk H (λb=>A b\/b=a):=λb hb=>hb.elim (hA b) λe=>by rw[e];exact⟨xs,h1⟩
  have rs':=nls_up hA2 5 ds hc'.2 (Reps.sub (λ_ z=>z.elim) _ rs)
  refine⟨⟨a,xs,e,.inl (hA0.new h0),SqL.of h1,Reps.sub (λ_ z=>.inl z) _ rs'⟩,λ_ ds' e'=>?_⟩
  cases e';exact⟨a,xs,e,h0,h1,rs'⟩
 |_=>exact⟨WU hA 5 _ hc r.1,λ_ _ z=>nomatch z⟩
def spD(K:Fg)(CL:ClA)(n:Ag)(fr:Ak)(F:Ac D->R D):Sp:=λvs H Q E=>∃(ds:Ac D)(A:Am->Prop),vs.length=n/\AOk H A/\Reps K CL H A vs ds/\(match F ds with
  |.ok d=>∀ v H',AN H H'->Fb K CL fr H A H' v d->Q v H'
  |.exn x=>∀ cls dx H',AN H H'->Ie K CL H' cls dx x->E cls dx H'
  | .bad=>BF)
def EKW(K:Fg)(CL:ClA)(A:Am->Prop)(W:XW):XK:=λcls dx H'=>∃ x,Ie K CL H' cls dx x/\W x H'
theorem Gu.plain{K:Fg}{H:Hp}{A:Am->Prop}:∀{vs:Ac V}{ds:Ac D},Gu K CL H A vs ds->Reps K CL H A0 vs ds
 |[],[],h=>trivial
 |_::_,_::_,h=>⟨h.1.plain,Gu.plain h.2⟩
 |[],_::_,h=>h.elim
 |_::_,[],h=>h.elim
theorem mK{CX:CXT}{fr:Ak}{f:Am}{fd:CA}{ps:Ac An}{F:Ac D->R D}{x:An}{ft:Rho->R (Ac D)}{sh:Rho->Ak}(G:FnOk X.prog X.w X.K X.mg X.base CX k f fd ps (spD X.K CL n fr F))(hr:Room k X.A)(hg:Gl X x)(hm:X.mg x=Ab (.ref f))(hk:DG X.K (.ref f)=Aa)(hb:IG X.K fd ps [])(hx:∀ A,Lr CX X (EKW X.K CL A W))(ha:SA X CL W (e::es) fs)(hat:SAT X CL W (e::es) ft)(hst:∀ U,sh U=Aa->ft U=fs U)(hn:∀ U ds,ft U=.ok ds->ds.length=n)(hdb:(x==("__debug__" : An))=Ae)(he:AI (e::es) X.env=(Ae,eval e X.env)::AI es X.env)(hpl:∀ pos,(CU pos (AI es X.env)).any (·.1)=Ae):SC X CL W fr (.Call (.Name x p) (e::es) [] pos) (λU=>(ft U).bind λds=>(F ds).bind λd=>if sh U=Aa then .ok d else if LR fr d=Aa then .ok d else .bad):=λA pI s Y H Q I ⟨hA,U,gd,q⟩=>by
 dsimp only at q;by_cases hs:sh U=Aa
 .rw[hst U hs]at q;refine U_9 G hr hg hm hk hb .nil (hx A) (ha A) hdb he (hpl _) pI s Y H Q I ⟨hA,U,gd,?_⟩;cases e1:fs U with
  |bad=>rw[e1]at q;exact q
  |exn y=>rw[e1]at q;exact q
  |ok ds=>
   rw[e1]at q;intro vs H1 s1 r1;refine⟨ds,A,by rw[DK,r1.length];exact hn U ds (by rw[hst U hs];exact e1),hA.same s1,by rw[DK];exact r1,?_⟩
   have q':By (Fb X.K CL fr H A) W H ((F ds).bind λd=>if sh U=Aa then .ok d else if LR fr d=Aa then .ok d else .bad) Q:=q
   cases e2:F ds with
   |ok d=>
    rw[e2,R.bind_ok,AO hs]at q';exact λv H2 s2 r2=>q' v H2 (s1.trans s2) ⟨r2.1,λz ds' e'=>let ⟨a,xs,z1,z2,z3⟩:=r2.2 z ds' e';⟨a,xs,z1,s1.free z2,z3⟩⟩
   |exn y=>rw[e2]at q';exact λcls dx H2 s2 xr=>⟨y,xr,q' H2 (s1.trans s2)⟩
   |bad=>rw[e2]at q';exact q'.elim
 .refine U_9 G hr hg hm hk hb .nil (hx A0) (hat A) hdb he (hpl _) pI s Y H Q I ⟨hA,U,gd,?_⟩;cases e1:ft U with
  |bad=>rw[e1]at q;exact q
  |exn y=>rw[e1]at q;exact q
  |ok ds=>
   rw[e1]at q;intro vs H1 s1 r1;refine⟨ds,A0,by rw[DK,r1.plain.length];exact hn U ds e1,λ_ z=>z.elim,by rw[DK];exact r1.plain,?_⟩
   have q':By (Fb X.K CL fr H A) W H ((F ds).bind λd=>if sh U=Aa then .ok d else if LR fr d=Aa then .ok d else .bad) Q:=q
   cases e2:F ds with
   |ok d=>
    rw[e2,R.bind_ok,AW hs]at q';split at q'
    .rename_i hc;exact λv H2 s2 r2=>q' v H2 (s1.trans s2) (bn hA (s1.trans s2) hc ⟨r2.1,λz ds' e'=>let ⟨a,xs,z1,z2,z3⟩:=r2.2 z ds' e';⟨a,xs,z1,s1.free z2,z3⟩⟩)
    .exact q'.elim
   |exn y=>rw[e2]at q';exact λcls dx H2 s2 xr=>⟨y,xr,q' H2 (s1.trans s2)⟩
   |bad=>rw[e2]at q';exact q'.elim
end
theorem Qe(env:C1):∀(ns:Ac (An×ED))(acc:Ac (An×Am)),(∀ x∈ns,x.2=.free->∃ c,env.cells.lookup x.1=Ab c)->(∀ x c,acc.lookup x=Ab c->env.cells.lookup x=Ab c) ->
  ∃ cl,(forIn ns acc fun(x:An×ED)(cs:Ac (An×Am))=>(if (x.2==.free)=Aa then do let c <-cellOf env x.1;pure (ES ((x.1,c)::cs)) else pure (ES cs):Hk (ForInStep (Ac (An×Am)))))=pure cl /\
   (∀ x c,cl.lookup x=Ab c->env.cells.lookup x=Ab c)/\(∀ x,((x,Ej)∈ns\/∃ c,acc.lookup x=Ab c)->∃ c,cl.lookup x=Ab c)
 |[],acc,_,h2=>⟨acc,by rw[D4],h2,λx hx=>hx.elim (λz=>nomatch z) id⟩
 |(n,k)::r,acc,h1,h2=>by
  rw[Eb];by_cases hk:k=.free
  .subst hk;obtain⟨c,hc⟩:=h1 (n,.free) Ax rfl;obtain⟨cl,e,p,q⟩:=Qe env r ((n,c)::acc) (λx hx=>h1 x (At _ hx)) (λx d hd=>by
    rw[B6]at hd;split at hd
    .rename_i hx;cases hd;rw[eq_of_beq hx];exact hc
    .exact h2 x d hd)
   refine⟨cl,?_,p,λx hx=>q x ?_⟩
   .have e1:cellOf env n=pure c:=by unfold cellOf;dsimp only at hc;rw[hc]
    rw[AO (by rfl),e1]
    exact e
   .rcases hx with hx|⟨d,hd⟩
    .rcases Av.mp hx with z|z
     .cases z;exact .inr ⟨c,by simp[B6]⟩
     .exact .inl z
    .by_cases hxn:x=n
     .exact .inr ⟨c,by subst hxn;simp[B6]⟩
     .exact .inr ⟨d,by rw[B6];rw[Du.mpr hxn];exact hd⟩
  .obtain⟨cl,e,p,q⟩:=Qe env r acc (λx hx=>h1 x (At _ hx)) h2
   refine⟨cl,?_,p,λx hx=>q x ?_⟩
   .rw[AW (by simpa using hk)]
    exact e
   .rcases hx with hx|hx
    .rcases Av.mp hx with z|z
     .cases z;exact absurd rfl hk
     .exact .inl z
    .exact .inr hx
theorem To(h:∀ x∈scope.names,x.2=.free->∃ c,env.cells.lookup x.1=Ab c):∃ cl,closureFor scope env=pure cl/\(∀ x c,cl.lookup x=Ab c->env.cells.lookup x=Ab c)/\∀ x,(x,Ej)∈scope.names->∃ c,cl.lookup x=Ab c:=by
 obtain⟨cl,e,p,q⟩:=Qe env scope.names [] h (λx c z=>by simp at z)
 refine⟨cl,?_,p,λx hx=>q x (.inl hx)⟩
 unfold closureFor
 first
  |exact e
  |(simp only[bind_pure];exact e)
  |(rw[show (forIn scope.names ([]:Ac (An×Am)) _:Hk _)=pure cl from e];rfl)
theorem Qq:∀(names:Ac (An×ED))(h:AM)(acc:Ac (An×Am))(x:An)(c:Am),(DH h.objs.size names acc).lookup x=Ab c->acc.lookup x=Ab c\/((x,Ck)∈names/\h.objs.size<=c/\(Hh h names).IsCell c Af)
 |[],_,_,_,_,e=>.inl e
 |(n,k)::r,h,acc,x,c,e=>by
  unfold DH at e;unfold Hh;by_cases hk:(k==Ck)=Aa
  .rw[AO hk]at e ⊢;have hs:h.objs.size+1=(h.push { cls:=.type "cell",data:=.cell Af }).objs.size:=(Bk ..).symm;rw[hs]at e;rcases Qq r _ _ x c e with q|⟨q1,q2,q3⟩
   .rw[B6]at q;cases hx:x==n with
    |true=>
     rw[hx]at q;cases q;refine .inr ⟨?_,A5 _,?_⟩
     .rw[eq_of_beq hx,eq_of_beq hk];exact Ax
     .exact⟨_,Iu r _ _ _ (AB _ rfl),rfl⟩
    |false=>rw[hx]at q;exact .inl q
   .exact .inr ⟨At _ q1,by omega,q3⟩
  .rw[AW hk]at e ⊢;rcases Qq r h acc x c e with q|⟨q1,q2,q3⟩
   .exact .inl q
   .exact .inr ⟨At _ q1,q2,q3⟩
theorem Qr:∀(names:Ac (An×ED))(h:AM)(acc:Ac (An×Am)),(∀ x y c,acc.lookup x=Ab c->acc.lookup y=Ab c->x=y)->(∀ x c,acc.lookup x=Ab c->c<h.objs.size)->∀ x y c,(DH h.objs.size names acc).lookup x=Ab c->(DH h.objs.size names acc).lookup y=Ab c->x=y
 |[],_,_,i,_,x,y,c,e1,e2=>i x y c e1 e2
 |(n,k)::r,h,acc,i,b,x,y,c,e1,e2=>by
  unfold DH at e1 e2;by_cases hk:(k==Ck)=Aa
  .rw[AO hk]at e1 e2;have hs:h.objs.size+1=(h.push { cls:=.type "cell",data:=.cell Af }).objs.size:=(Bk ..).symm;rw[hs]at e1 e2;have look:∀ z d,XJ z ((n,h.objs.size)::acc)=Ab d->(z=n/\d=h.objs.size)\/(z≠n/\acc.lookup z=Ab d):=λz d q=>by
    rw[B6]at q;cases hx:z==n with
    |true=>rw[hx]at q;cases q;exact .inl ⟨eq_of_beq hx,rfl⟩
    |false=>rw[hx]at q;exact .inr ⟨λe=>by rw[e]at hx;simp at hx,q⟩
   refine Qr r _ _ (λz z' d q q'=>?_) (λz d q=>?_) x y c e1 e2
   .rcases look z d q with ⟨rfl,q1⟩|⟨_,q1⟩<;>rcases look z' d q' with ⟨rfl,q2⟩|⟨_,q2⟩
    .rfl
    .exact absurd (b _ _ q2) (by rw[q1];exact Bw _)
    .exact absurd (b _ _ q1) (by rw[q2];exact Bw _)
    .exact i _ _ _ q1 q2
   .rw[<-hs];rcases look z d q with ⟨_,q1⟩|⟨_,q1⟩
    .rw[q1];exact EA _
    .exact CN (b _ _ q1)
  .rw[AW hk]at e1 e2;exact Qr r h acc i b x y c e1 e2
theorem Qg:∀(names:Ac (An×ED))(n:Ag)(acc:Ac (An×Am))(x:An),(x,Ck)∉names->(DH n names acc).lookup x=acc.lookup x
 |[],_,_,_,_=>rfl
 |(m,k)::r,n,acc,x,hx=>by
  unfold DH;have hr:(x,Ck)∉r:=λz=>hx (At _ z)
  by_cases hk:(k==Ck)=Aa
  .rw[AO hk,Qg r _ _ x hr,B6];cases q:x==m with
   |true=>exact absurd (by rw[eq_of_beq q,eq_of_beq hk];exact Ax) hx
   |false=>rfl
  .rw[AW hk];exact Qg r n acc x hr
theorem Qs(n0:Ag):∀(names:Ac (An×ED))(n:Ag)(acc:Ac (An×Am))(x:An),n0<=n->((x,Ck)∈names\/∃ c,acc.lookup x=Ab c/\n0<=c)->∃ c,(DH n names acc).lookup x=Ab c/\n0<=c
 |[],_,_,_,_,h=>h.elim (λz=>nomatch z) id
 |(m,k)::r,n,acc,x,hn,h=>by
  unfold DH;by_cases hk:(k==Ck)=Aa
  .rw[AO hk];refine Qs n0 r _ _ x (by omega) ?_
   by_cases hx:(x==m)=Aa
   .exact .inr ⟨n,by rw[B6,hx],hn⟩
   .rcases h with h|⟨c,h,hc⟩
    .rcases Av.mp h with z|z
     .cases z;simp at hx
     .exact .inl z
    .exact .inr ⟨c,by rw[B6];simp only[hx];exact h,hc⟩
  .rw[AW hk];refine Qs n0 r _ _ x hn (h.imp (λh=>?_) id)
   rcases Av.mp h with z|z
   .cases z;simp at hk
   .exact z
theorem dN{M:J6}{A:Bc}{E:Vq}{globals:Am}{qual:An}{Q:C1->As->Prop}(hQ:Q (newEnv scope s.heap.objs.size globals (DH (s.heap.objs.size+1) scope.names cl) qual Af .none (Ab env) Jf) { s with heap:=Hh (s.heap.push { cls:=.type "dict",data:=.dict #[] }) scope.names }):AC M A (IV scope globals cl [] qual Af .none (Ab env)) Q E s:=by
 simp only[IV,Option.isSome_some,IY];refine Ah (wpAny_alloc ?_);refine Ah (wpAny_layCells _ (λname kind cells=>by cases hkc:kind==Ck<;>simp[hkc]) _ _ _ _ ?_)
 rw[show ({ s with heap:=s.heap.push { cls:=.type "dict",data:=.dict #[] } }:As).heap.objs.size=s.heap.objs.size+1 from Bk ..]
 rw[D4];exact Ah (Aw (Aw hQ))
noncomputable def cxC(X:Cx)(scope:Cz)(cl:Ac (An×Am))(C:Am)(N':Ac An)(s₀:As)(H₀:Hp)(fp:Ac Am):Cx where
 prog:=X.prog
 w:=X.w
 K:=X.K
 mg:=X.mg
 base:=X.base
 A:=X.A
 N:=N'
 s₀:=s₀
 H₀:=H₀
 env:=compEnvC scope cl C X.env
 outer:=X.stack
 stack:=X.stack
 ex:=fp
 fn:=λx=>scope.names.lookup x==Ab Ck
 calm:=X.calm
 pn:=[]
 xe:=λ_ _=>BF
theorem M8{env:C1}:∀{names:Ac (An×ED)}{x:An}{k:ED},(names.map λ(n,k)=>if (k==Ej&&env.scope.kind==.function&&env.kindOf n==Ab .cell) then (n,Ck) else (n,k)).lookup x=Ab k->names.lookup x=Ab k\/(k=.cell/\names.lookup x=Ab .free)
 |[],_,_,h=>by simp at h
 |(n,j)::r,x,k,h=>by
  have ih:=@M8 env r x k;have h':XJ x ((if (j==Ej&&env.scope.kind==.function&&env.kindOf n==Ab .cell)=Aa then (n,Ck) else (n,j))::(r.map λ(n,k)=>if (k==Ej&&env.scope.kind==.function&&env.kindOf n==Ab .cell) then (n,Ck) else (n,k)))=Ab k:=h
  by_cases hc:(j==Ej&&env.scope.kind==.function&&env.kindOf n==Ab .cell)=Aa
  .rw[AO hc]at h';rw[B6]at h' ⊢;cases hx:x==n with
   |true=>
    rw[hx]at h';cases h';simp only[Ap]at hc;exact .inr ⟨rfl,by rw[eq_of_beq hc.1.1]⟩
   |false=>rw[hx]at h';exact ih h'
  .rw[AW hc]at h';rw[B6]at h' ⊢;cases hx:x==n with
   |true=>rw[hx]at h';exact .inl h'
   |false=>rw[hx]at h';exact ih h'
structure BlockOk (X:Cx) (scope:Cz) (N':Ac An) (ts:Ac Ag):Prop where
 kind:scope.kind=.function
 uniq:∀ y∈scope.names,scope.names.lookup y.1=Ab y.2
 names:∀ y∈scope.names,y.2=.local->scope.names.lookup y.1=Ab .local
 free:∀ y∈scope.names,y.2=.free->X.env.scope.names.lookup y.1=Ab .cell\/X.env.scope.names.lookup y.1=Ab .free
 len:N'.length=X.N.length
 same:∀ i x,N'[i]?=Ab x->scope.names.lookup x=Ab .free->i∉ts->X.N[i]?=Ab x
 loc:∀ i x,N'[i]?=Ab x->(scope.names.lookup x=Ab .local\/scope.names.lookup x=Ab .cell)->i∈ts
structure BCells (X:Cx) (scope:Cz) (cl:Ac (An×Am)) (C:Am) (h:AM):Prop where
 own:∀ x c,cl.lookup x=Ab c->X.env.cells.lookup x=Ab c\/(scope.names.lookup x=Ab .cell/\C<c/\h.IsCell c Af)
 inj:∀ x y c,cl.lookup x=Ab c->cl.lookup y=Ab c->x=y
 has:∀ x,scope.names.lookup x=Ab .cell->∃ c,cl.lookup x=Ab c/\C<c
 fr:∀ x,(x,Ej)∈scope.names->∃ c,cl.lookup x=Ab c/\X.env.cells.lookup x=Ab c
section
variable{X:Cx}{pI:Pn}{Y:L2.St}{H:Hp}{s:As}
noncomputable def hideT(ts:Ac Ag)(Y:L2.St):L2.St:=ts.foldl (λY t=>Y.set t Af) Y
theorem P5:∀(ts:Ac Ag)(Y:L2.St),(hideT ts Y).length=Y.length
 |[],_=>rfl
 |t::ts,Y=>by show (hideT ts (Y.set t Af)).length=_;rw[P5 ts,BH]
theorem Ua:∀(ts:Ac Ag)(Y:L2.St){i:Ag}{v:V},(hideT ts Y)[i]?=Ab (Ab v)->Y[i]?=Ab (Ab v)/\i∉ts
 |[],_,_,_,h=>⟨h,by simp⟩
 |t::ts,Y,i,v,h=>by
  obtain⟨h1,h2⟩:=Ua ts (Y.set t Af) (i:=i) (v:=v) h;by_cases e:t=i
  .subst e;have:=HU h1;cases this
  .rw[Dm e]at h1;exact⟨h1,by simp only[Av,DB];exact⟨λz=>e z.symm,h2⟩⟩
theorem eA{tk:Ag}{C:Am}{m:An->Aq Ai}(I:Inv X pI Y H s)(B:BlockOk X scope N' ts)(hf:∀ b∈fp,G9 X pI H b)(hfo:∀ b∈fp,b<s.heap.objs.size)(hb:BCells X scope cl C h')(hk:∀ b o,s.heap.get? b=Ab o->h'.get? b=Ab o)(hC:s.heap.objs.size<=C)(hn:h'.Ns C m):Inv (cxC X scope cl C N' s H fp) [] (hideT ts Y) H {s with heap:=h',toks:=tk}:=by
 have stf:∀ b∈fp,b∉frs X.stack:=λb hb z=>by
  rcases Av.mp (I.stkSub b z) with e|e
  .exact(hf b hb).2.1 e
  .exact(hf b hb).2.2.1 e
 have frOf:∀ x,((relabel scope X.env).names.lookup x=Ab .cell\/(relabel scope X.env).names.lookup x=Ab .free)->scope.names.lookup x=Ab .free\/scope.names.lookup x=Ab .cell:=λx hx=>by
  rcases hx with z|z
  .rcases M8 z with z|⟨_,z⟩
   .exact .inr z
   .exact .inl z
  .rcases M8 z with z|⟨z,_⟩
   .exact .inl z
   .cases z
 have gtC:∀ c:Am,C<c->s.heap.objs.size<=c:=λc z=>Cv hC (E5 z)
 have cellK:∀ c v,s.heap.IsCell c v->h'.IsCell c v:=λc v ⟨o,ho,hd⟩=>⟨o,hk _ _ ho,hd⟩
 refine⟨⟨I.ok.mod,B.kind,I.ok.glob,I.ok.blt,hC,hb.inj,λx hx=>?_,λx c h e=>?_,I.ok.hd,I.ok.frames,.inl rfl,λb hbb=>⟨?_,λx c e=>?_⟩,I.bs,Cv I.ok.bsz I.sz,λb o e hbb=>?_,stf,I.stack,I.stkFree⟩,rfl,I.bare,Un.kept hk,⟨m,hn,λi x v h1 h2 h3=>?_⟩,λx c e=>?_,I.hok.fresh hC,λx c e=>(hb.own x c e).elim (I.freeC x c) (λz=>I.hok.fresh (gtC c z.2.1)),λp hp=>absurd (show p∈([]:Pn) from hp) (by simp),I.hok.kept hk,?_⟩
 .rcases frOf x hx with z|z
  .obtain⟨c,q,_⟩:=hb.fr x (C5 z);exact⟨c,q⟩
  .obtain⟨c,q,_⟩:=hb.has x z;exact⟨c,q⟩
 .obtain⟨c',q,z⟩:=hb.has x (eq_of_beq h);have e':cl.lookup x=Ab c:=e;rw[q]at e';cases e';exact gtC _ z
 .intro z;have z':b=C:=z;have:=hfo b hbb;rw[z']at this;exact absurd (AK this hC) (Bw _)
 .rcases hb.own x c e with z|z
  .exact(hf b hbb).2.2.2.2.1 x c z
  .intro q;have:=hfo b hbb;have:=gtC c z.2.1;rw[q]at this;exact absurd ‹b<_› (FT.mpr this)
 .rcases (hf b hbb).2.2.2.1 with z|z
  .exact I.ok.noex b o e z
  .exact absurd (AK (AE e) (Cv I.ok.bsz z)) (Bw _)
 .obtain⟨h2,hts⟩:=Ua ts Y h2;have h3':(relabel scope X.env).names.lookup x=Ab .local\/(relabel scope X.env).names.lookup x=Ab .cell\/(relabel scope X.env).names.lookup x=Ab .free:=h3;have h1':N'[i]?=Ab x:=h1;rcases h3' with z|z
  .rcases M8 z with z|⟨z,_⟩
   .exact absurd (B.loc i x h1' (.inl z)) hts
   .cases z
  .have fr:=(frOf x z).resolve_right λq=>hts (B.loc i x h1' (.inr q))
   have hm:=C5 fr;have hX:=B.same i x h1' fr hts;obtain⟨m0,hn0,hl0⟩:=I.loc;obtain⟨u,ru,lk⟩:=hl0 i x v hX h2 (by
    rcases B.free _ hm rfl with q|q
    .exact .inr (.inl q)
    .exact .inr (.inr q))
   refine⟨u,ru,?_⟩;obtain⟨c,hc,hcX⟩:=hb.fr x hm;rcases lk with ⟨q,_⟩|⟨_,c',hc',hcell⟩
   .have q':X.env.scope.names.lookup x=Ab .local:=q;rcases B.free _ hm rfl with p|p
    .rw[show X.env.scope.names.lookup x=_ from p]at q';cases q'
    .rw[show X.env.scope.names.lookup x=_ from p]at q';cases q'
   .have e:=hcX;rw[hc']at e;cases e;exact .inr ⟨z,c,hc,cellK _ _ hcell⟩
 .rcases hb.own x c e with z|z
  .obtain⟨v,q⟩:=I.cell x c z;exact⟨v,cellK _ _ q⟩
  .exact⟨_,z.2.2⟩
 .show (hideT ts Y).length=N'.length;rw[P5,I.len,B.len]
theorem TF{C D:Am}{s':As}{Y':L2.St}{pins':Pn}{h'':AM}{ys:Ac Ai}(I:Inv X pI Y H s)(hf:∀ b∈fp,G9 X pI H b)(I':Inv (cxC X scope cl C N' s H fp) pins' Y' H' s')(hD:s.heap.objs.size<=D)(hDC:D≠C)(hC:s.heap.objs.size<=C)(hd:s'.heap.get? D=Ab { cls:=.type "list",data:=.seq ys.toArray n })(hDn:H' D=Af)(rv:Bj xs ys)(hz:xs.length<=sizeLine)(hs:EC C s'.heap h''):Inv X pI Y (upd H' D (.lst xs)) {s' with heap:=h''}:=by
  have u:Un (frs X.stack) fp H H' s.heap s'.heap:=I'.base;have lt:∀ b o,s.heap.get? b=Ab o->b≠C/\b≠D:=λb o e=>⟨λz=>absurd (AK (AE e) (z ▸ hC)) (Bw _),λz=>absurd (AK (AE e) (z ▸ hD)) (Bw _)⟩
  have HD:H D=Af:=I.hok.fresh hD;have hCn:H' C=Af:=I'.free;have kb:∀ b o,b≠C->s'.heap.get? b=Ab o->h''.get? b=Ab o:=λb o hb e=>(hs.2 b hb).trans e
  have u2:Un (frs X.stack) fp H (upd H' D (.lst xs)) s.heap h'':=⟨λb o e q hb hx=>kb b o (lt b o e).1 (u.keep b o e q hb hx),λb o e q hb hx=>by
      obtain⟨sl,e1⟩:=u.slot b o e q hb hx;exact⟨sl,kb b _ (lt b o e).1 e1⟩,λb o e q hx=>by rw[Dz (lt b o e).2];exact u.free b o e q hx,λb o e hx=>by
      obtain⟨o',e1⟩:=u.there b o e hx;exact⟨o',kb b _ (lt b o e).1 e1⟩,λb zs q=>by rw[Dz (Go q HD)];exact u.tups b zs q,λb o zs q=>by rw[Dz (Go q HD)];exact u.frzs b o zs q,λb ps q=>by rw[Dz (Go q HD)];exact u.tbls b ps q⟩
  have hok:HOk X.prog X.w (upd H' D (.lst xs)) h'':=λb o e=>by
    by_cases hb:b=D
    · subst hb;rw[Jm]at e;cases e;exact⟨hz,ys,n,rv,kb _ _ hDC hd⟩
    · rw[Dz hb]at e;refine(I'.hok b o e).stay (λc v hc q=>kb c v ?_ q) (λc q=>by rw[Dz (Go q hDn)];exact q) λc zs q=>by rw[Dz (Go q hDn)];exact q
      rcases hc with rfl|hc
      · exact Go e hCn
      · exact Go hc hCn
  exact I.call' (s':={s' with heap:=h''}) (ch:=fp) I'.os u2 hok I'.bare λb hb=>⟨(hf b hb).2.2.2.1,(hf b hb).2.1,(hf b hb).2.2.2.2.1,(hf b hb).2.2.2.2.2⟩
end
def PTs(X:Cx)(ifs:Ac Ao)(tt:TT):Prop:=∀(pI:Pn)(s:As)(Y:L2.St)(H:Hp)(Q:Ak->Hp->Prop),Inv X pI Y H s->tt Y H Q ->
 AC (model X.prog X.w) X.A (forIn ifs Aa λc r=>if r=Aa then do let ok <-IU c X.env (eval c X.env);pure (ES ok) else pure (ES r)) (TP X pI Y Q) X.xe s
theorem qE:PTs X [] (λY H Q=>Q Aa H):=λpI s Y H Q I h=>wpAny_tests_nil ⟨H,I,h⟩
theorem qD{t:TT}(h:PT X c t):PTs X [c] t:=λpI s Y H Q I q=>wpAny_tests_one (h pI s Y H Q I q)
theorem fN{D:Am}{ys:Ac Ai}{E:Vq}{Q:Vq}(I:Inv X ((D,{ cls:=.type "list",data:=.seq ys.toArray n })::pI) Y H s)(hD:X.s₀.heap.objs.size<=D)(hp:∀ p∈X.pn++pI,p.1≠D)(hc:∀ x c,X.env.cells.lookup x=Ab c->c≠D)(hz:ys.length<=sizeLine)(h:∀ s',Inv X ((D,{ cls:=.type "list",data:=.seq (ys++[y]).toArray (n+1) })::pI) Y H s'->(∀ b o,b≠D->s.heap.get? b=Ab o->s'.heap.get? b=Ab o)->Q .none s'):AC (model X.prog X.w) X.A (call (.builtin "list.append") [.ref D,y]) Q E s:=by
 obtain⟨e,hn,hL,hfs,_⟩:=I.pin (D,{ cls:=.type "list",data:=.seq ys.toArray n }) (Bt _ Ax);refine append_at (hsz:=by rw[AD];exact hz) e λh' hs hd=>?_
 have hd':h'.get? D=Ab { cls:=.type "list",data:=.seq (ys++[y]).toArray (n+1) }:=by rw[hd];simp
 have kb:∀ b o,b≠D->s.heap.get? b=Ab o->h'.get? b=Ab o:=λb o hb q=>(hs.2 b hb).trans q
 have I0:Inv X pI Y H s:=I.pins_of λp hp=>I.pin p (Bt _ (At _ hp))
 have I1:Inv X pI Y H {s with heap:=h'}:=I0.turned (t':=s.toks) kb hn hL (.inr hD) hc hp
 refine h _ (I1.pins_of λp hp=>?_) kb
 rcases Av.mp hp with rfl|hp
 .exact⟨hd',hn,hL,hfs,λv z=>by
   have z':LX _ _=LW v:=z;cases z'⟩
 .exact I1.pin p (Bt _ hp)
section
variable{prog:AU}{w:AH}{A:Bc}{R:JH->As->Prop}{s:As}
theorem dZ{target:Ao}{it acc:Ai}(I:Ag->As->Prop)(turn:∀ n s,I n s->AC (model prog w) A (D0 it) (λr s₁=>match r with
      |none=>R (.ok .next) s₁
      | some v=>AC (model prog w) A (GN target it v) (λ_ s₁'=>AC (model prog w) A (assign target env v) (λ_ s₂=>
          AC (model prog w) A (forIn ifs Aa λc r=>if r=Aa then do let ok <-IU c env (eval c env);pure (ES ok) else pure (ES r)) (λok s₃=>
            if ok=Aa then AC (model prog w) A (eval elt env) (λx s₄=>
              AC (model prog w) A (call (.builtin "list.append") [acc,x]) (λ_ s₅=>∃ m,m<n/\I m s₅) (IW (model prog w) A env λe s'=>R (.error e) s') s₄) (IW (model prog w) A env λe s'=>R (.error e) s') s₃
            else ∃ m,m<n/\I m s₃) (IW (model prog w) A env λe s'=>R (.error e) s') s₂) (IW (model prog w) A env λe s'=>R (.error e) s') s₁') (IW (model prog w) A env λe s'=>R (.error e) s') s₁) (IW (model prog w) A env λe s'=>R (.error e) s') s)(n:Ag)(h:I n s):Fu (model prog w) A (.compLoop (.ListComp elt [⟨target,iter,ifs,0⟩] scope pos) 0 it acc env) R s:=by
  refine codeAny_loop rfl I (λn s hI=>?_) n h
  show AC _ A ((compTurn (.ListComp elt [⟨target,iter,ifs,0⟩] scope pos) 0 it acc env).onRaise (λx=>do JN x env;theTreesLotGoes x)) _ _ s
  refine wpAny_noted ?_;rw[compTurn_list];refine Ah (Hn (Ah (CY (turn n s hI) (λr s₁ h₁=>?_) λ_ _ h'=>h')))
  cases r with
  |none=>exact Aw h₁
  |some v=>
    refine Ah (CY h₁ (λ_ s₁' h₁'=>?_) λ_ _ h'=>h')
    refine Ah (CY h₁' (λ_ s₂ h₂=>Ah (CY h₂ (λok s₃ h₃=>?_) λ_ _ h'=>h')) λ_ _ h'=>h')
    cases ok with
    |false=>exact Aw ⟨rfl,h₃⟩
    |true=>
      exact Ah (Ah (CY h₃ (λx s₄ h₄=>Ah (CY h₄ (λ_ s₅ h₅=>Aw (Aw ⟨rfl,h₅⟩)) λ_ _ h'=>h')) λ_ _ h'=>h'))
end
def MI(J:It)(ts:Ac Ag)(g:TG)(tt:TT)(te:TE)(Y:L2.St)(H:Hp)(Q:VK):Prop:=∃ W:Ag->Ag->Ac V->L2.St->Hp->Prop,(∃ m,W 0 m [] (hideT ts Y) H)/\∀ i m xs Y H,W i m xs Y H ->
 (J.stop i H/\∀ p,H p=Af->Q (.ref p) (upd H p (.lst xs))) \/
 (J.go i H/\xs.length<sizeLine/\∀ x H',J.yld i H x H'->g x Y H' λY2 H2=>tt Y2 H2 λb H3=>if b=Aa then te Y2 H3 λy H4=>∃ m',m'<m/\W (i+1) m' (xs++[y]) Y2 H4 else ∃ m',m'<m/\W (i+1) m' xs Y2 H3)
theorem UF{g:TG}{it:Am}{tn:Ag->AM->Prop}{E:Vq}{RR:Ai->Am->JH->As->Prop}(hc:X.calm=Aa)(B:BlockOk X scope N' ts)(I:Inv X pI Y H s)(T:Turn X.prog X.w X.K tg J fp it tn)(st:tn 0 s.heap)(hf:∀ b∈fp,G9 X pI H b)(hcl:∀ x c,cl.lookup x=Ab c->X.env.cells.lookup x=Ab c)(hcl2:∀ x,(x,Ej)∈scope.names->∃ c,cl.lookup x=Ab c)(hg:∀ cl C s H,PG (cxC X scope cl C N' s H fp) tg g)(ht:∀ cl C s H,PTs (cxC X scope cl C N' s H fp) ifs tt)(he:∀ cl C s H,PE (cxC X scope cl C N' s H fp) elt te)(h:MI J ts g tt te Y H Q)(hRR:∀ cl D C s' H' Y' pins' xs ys n m,Inv (cxC X scope cl C N' s H fp) pins' Y' H' s'->s'.heap.get? D=Ab { cls:=.type "list",data:=.seq (GE ys) n }->H' D=Af->Bj xs ys->xs.length<=sizeLine->s.heap.objs.size<=D->D≠C->s.heap.objs.size<=C->s'.heap.Ns C m->Q (.ref D) (upd H' D (.lst xs))->RR (.ref D) C (.ok .next) s'):AC (model X.prog X.w) X.A (newList []) (λacc s₃=>AC (model X.prog X.w) X.A (IV scope X.env.globals cl [] X.env.qual Af .none (Ab X.env)) (λcenv s₄=>Fu (model X.prog X.w) X.A (.compStart (.ListComp elt [⟨tg,iter,ifs,0⟩] scope pos) 0 (.ref it) acc {cenv with scope:=relabel scope X.env}) (RR acc cenv.locals) s₄) E s₃) E s:=by
 refine CO (dN ?_);dsimp only;generalize hH2:s.heap.push { cls:=.type "list",dict:=Af,data:=.seq ([]:Ac Ai).toArray }=H2;have hns₁:(Hh (H2.push { cls:=.type "dict",data:=.dict #[] }) scope.names).Ns H2.objs.size (λ_=>Af):=(Heap.Ns.new H2 (.type "dict")).keeps (Iu _ _)
 have hkp₁:∀ b o,H2.get? b=Ab o->(Hh (H2.push { cls:=.type "dict",data:=.dict #[] }) scope.names).get? b=Ab o:=λb o e=>Iu _ _ b o (Ar _ e)
 have hown:=Qq scope.names (H2.push { cls:=.type "dict",data:=.dict #[] }) cl;have hinj:=Qr scope.names (H2.push { cls:=.type "dict",data:=.dict #[] }) cl;rw[Bk]at hown hinj;generalize hcl':DH (H2.objs.size+1) scope.names cl=cl' at hown hinj;have hcf:∀ x,(x,Ck)∉scope.names->cl'.lookup x=cl.lookup x:=λx hx=>by rw[<-hcl'];exact Qg _ _ _ x hx
 have hch:∀ x,(x,Ck)∈scope.names->∃ c,cl'.lookup x=Ab c/\H2.objs.size+1<=c:=λx hx=>by rw[<-hcl'];exact Qs _ _ _ _ x (A5 _) (.inl hx)
 generalize hh₁:Hh (H2.push { cls:=.type "dict",data:=.dict #[] }) scope.names=h₁ at hns₁ hkp₁ hown;have hC:H2.objs.size=s.heap.objs.size+1:=by rw[<-hH2,Bk]
 have hCle:s.heap.objs.size<=H2.objs.size:=by rw[hC];exact Nat.le_succ _
 have hDC:s.heap.objs.size≠H2.objs.size:=by rw[hC];exact AZ (EA _)
 have below:∀ b,b<s.heap.objs.size->b≠H2.objs.size:=λb hb=>by rw[hC];exact AZ (CN hb)
 have old:∀ b o,s.heap.get? b=Ab o->h₁.get? b=Ab o:=λb o e=>hkp₁ b o (hH2 ▸ Ar _ e)
 have hacc:h₁.get? s.heap.objs.size=Ab { cls:=.type "list",data:=.seq ([]:Ac Ai).toArray 0 }:=hkp₁ _ _ (hH2 ▸ AB _ rfl);have clt:∀ x c,cl.lookup x=Ab c->c<s.heap.objs.size:=λx c e=>by
  obtain⟨v,q⟩:=I.cell x c (hcl x c e);exact q.lt
 have bc:BCells X scope cl' H2.objs.size h₁:=by
  refine⟨λx c e=>?_,hinj (λx y c e1 e2=>I.ok.inj x y c (hcl x c e1) (hcl y c e2)) (λx c e=>CN (AK (clt x c e) hCle)),λx hx=>?_,λx hx=>?_⟩
  .rcases hown x c e with q|⟨q1,q2,q3⟩
   .exact .inl (hcl x c q)
   .exact .inr ⟨B.uniq _ q1,q2,q3⟩
  .have hm:=C5 hx;obtain⟨c,e,hc⟩:=hch x hm;exact⟨c,e,hc⟩
  .have hno:(x,Ck)∉scope.names:=λz=>by
    have e1:=B.uniq _ hx;have e2:=B.uniq _ z;rw[show scope.names.lookup x=_ from e1]at e2
    cases e2
   obtain⟨c,e⟩:=hcl2 x hx;exact⟨c,by rw[hcf x hno];exact e,hcl x c e⟩
 have hfo:∀ b∈fp,b<s.heap.objs.size:=λb hb=>by
  obtain⟨o,e,_⟩:=T.obj 0 _ st b hb;exact AE e
 generalize hD:s.heap.objs.size=D at *;generalize hC':H2.objs.size=C at *;have I0:Inv (cxC X scope cl' C N' s H fp) [] (hideT ts Y) H {s with heap:=h₁,toks:=s.toks+([]:Ac (An×Ai)).length}:=eA (tk:=s.toks+([]:Ac (An×Ai)).length) I B hf (λb hb=>by rw[hD];exact hfo b hb) bc old (by rw[hD];exact hCle) hns₁
 have nD:H D=Af:=I.hok.fresh (by rw[hD];exact A5 _)
 have noD:∀ b∈fp,b≠D:=λb hb=>AZ (hfo b hb)
 have noC:∀ b∈fp,b≠C:=λb hb=>below b (hfo b hb)
 have stfs:D∉frs X.stack:=λz=>by
  obtain⟨_,o,ho,_⟩:=I.stack.mem z;exact absurd (AE ho) (by rw[hD];exact Bw _)
 have cD:∀ x c,cl'.lookup x=Ab c->c≠D:=λx c e z=>by
  rcases bc.own x c e with q|⟨_,q,_⟩
  .obtain⟨v,q⟩:=I.cell x c q;exact absurd q.lt (by rw[z,hD];exact Bw _)
  .rw[z]at q;exact absurd (AK q hCle) (Bw _)
 have I1:Inv (cxC X scope cl' C N' s H fp) [(D,{ cls:=.type "list",data:=.seq ([]:Ac Ai).toArray 0 })] (hideT ts Y) H {s with heap:=h₁,toks:=s.toks+([]:Ac (An×Ai)).length}:=I0.pins_of λp hp=>by
  have e:=BY.mp hp;subst e;exact⟨hacc,nD,hDC,stfs,λv z=>by
   have z':LX _ _=LW v:=z;cases z'⟩
 have st1:tn 0 h₁:=T.keep _ _ _ st λb _ o e=>old b o e
 obtain⟨W,⟨m0,w0⟩,turn⟩:=h;have fpk:∀{pl:Pn}{H':Hp},(∀ p∈pl,p.1=D)->(∀ b∈fp,H' b=Af)->∀ b∈fp,G9 (cxC X scope cl' C N' s H fp) pl H' b:=λ{pl H'} hp hn b hb=>
  ⟨hn b hb,noC b hb,λz=>by
   rcases Av.mp (I.stkSub b z) with e|e
   .exact(hf b hb).2.1 e
   .exact(hf b hb).2.2.1 e,.inl hb,λx c e=>(bc.own x c e).elim ((hf b hb).2.2.2.2.1 x c) (λz q=>absurd (D7 hCle z.2.1) (FT.mpr (by rw[q];exact E5 (hfo b hb)))),λp hp'=>by
   have hp2:p∈pl:=hp';rw[hp p hp2];exact(noD b hb).symm⟩
 have loop:∀ s₃:As,s₃={s with heap:=h₁,toks:=s.toks+([]:Ac (An×Ai)).length} ->
   Fu (model X.prog X.w) X.A (.compLoop (.ListComp elt [⟨tg,iter,ifs,0⟩] scope pos) 0 (.ref it) (.ref D) (compEnvC scope cl' C X.env)) (RR (.ref D) C) s₃:=by
  rintro s₃ rfl;refine dZ (λk s'=>∃ i Y' H' xs ys n,Inv (cxC X scope cl' C N' s H fp) [(D,{ cls:=.type "list",data:=.seq (GE ys) n })] Y' H' s'/\tn i s'.heap/\(∀ b∈fp,H' b=Af)/\Bj xs ys/\xs.length<=sizeLine/\W i k xs Y' H') ?_ m0
   ⟨0,_,H,[],[],0,I1,st1,λb hb=>(hf b hb).1,.nil,Fs _,w0⟩
  rintro k s' ⟨i,Y',H',xs,ys,n,I',st',fr',rv,hz,w'⟩;have one:∀ p∈[((D,{ cls:=.type "list",data:=.seq (GE ys) n }):Am×Di)],p.1=D:=λp hp=>by rw[BY.mp hp]
  rcases turn i k xs Y' H' w' with ⟨stop,q⟩|⟨go,hlt,step⟩
  .refine CY (T.done (cxC X scope cl' C N' s H fp) rfl rfl rfl hc i _ s' Y' H' (λ_ _=>BF) I' (fpk one fr') st' stop) (λr s1 ⟨hr,J1⟩=>?_) λ_ _ f=>f.elim
   subst hr;obtain⟨e,hn,_⟩:=J1.pin _ (Bt _ Ax);obtain⟨m,hm,_⟩:=J1.loc;exact hRR cl' D C s1 H' Y' _ xs ys n m J1 e hn rv hz (A5 _) hDC hCle hm (q D hn)
  .refine CY (T.item (cxC X scope cl' C N' s H fp) rfl rfl rfl hc i _ s' Y' H' (λ_ _=>BF) I' (fpk one fr') st' go) (λr s1 ⟨u,hr,h4⟩=>?_) λ_ _ f=>f.elim
   subst hr;refine CY h4 (λ_ s5 ⟨x,H5,I5,r5,y5,st5,fr5⟩=>?_) λ_ _ f=>f.elim
   have I5':=I5.pinned (fpk one fr5) (T.obj _ _ st5);refine CY (hg cl' C s H _ s5 Y' H5 x u _ I5' r5 (step x H5 y5)) (λ_ s6 ⟨Y6,H6,I6,q6⟩=>?_) λ_ _ f=>f.elim
   refine CY (ht cl' C s H _ s6 Y6 H6 _ I6 q6) (λok s7 ⟨H7,I7,q7⟩=>?_) λ_ _ f=>f.elim
   have again:∀{s8:As}{H8:Hp}{ys':Ac Ai}{n':Ag},Inv (cxC X scope cl' C N' s H fp) ((D,{ cls:=.type "list",data:=.seq (GE ys') n' })::Kx fp s5.heap) Y6 H8 s8->Inv (cxC X scope cl' C N' s H fp) [(D,{ cls:=.type "list",data:=.seq (GE ys') n' })] Y6 H8 s8/\tn (i+1) s8.heap/\∀ b∈fp,H8 b=Af:=λ{s8 H8 ys' n'} I8=>
    ⟨I8.pins_of λp hp=>I8.pin p (Bt _ (by rw[BY.mp hp];exact Ax)),T.keep _ _ _ st5 λb hb o e=>(I8.pin (b,o) (Bt _ (At _ (NC hb e)))).1,λb hb=>by
     obtain⟨o,e,d⟩:=T.obj _ _ st5 b hb;exact(I8.pin (b,o) (Bt _ (At _ (NC hb e)))).2.1⟩
   cases ok with
   |false=>
    rw[AW (by decide)]at q7
    obtain⟨m',hm,w7⟩:=q7;obtain⟨a1,a2,a3⟩:=again I7;rw[AW (by decide)]
    exact⟨m',hm,i+1,Y6,H7,xs,ys,n,a1,a2,a3,rv,hz,w7⟩
   |true=>
    rw[AO rfl]at q7;rw[AO rfl];refine CY (he cl' C s H _ s7 Y6 H7 _ I7 q7) (λval s8 ⟨y,H8,I8,r8,m',hm,w8⟩=>?_) λ_ _ f=>f.elim
    have hl:=rv.length;refine fN (X:=cxC X scope cl' C N' s H fp) (ys:=ys) (n:=n) (pI:=Kx fp s5.heap) I8 (by show s.heap.objs.size<=D;rw[hD];exact A5 _) (λp hp=>?_) cD (by omega) λs9 I9 kb=>?_
    .have hp2:p∈Kx fp s5.heap:=hp;exact noD _ (TY hp2).1
    .obtain⟨a1,a2,a3⟩:=again I9;exact⟨m',hm,i+1,Y6,H8,xs++[y],ys++[val],n+1,a1,a2,a3,rv.append (.cons r8 .nil),by rw[BU];exact hlt,w8⟩
 exact codeAny_compStart_list (loop _ rfl) (T.self _ 0 _ _ _ st1 (loop _ rfl))
theorem oG{g:TG}(hc:X.calm=Aa)(B:BlockOk X scope N' ts)(hi:PI X tg iter wi)(hg:∀ cl C s H fp,PG (cxC X scope cl C N' s H fp) tg g)(ht:∀ cl C s H fp,PTs (cxC X scope cl C N' s H fp) ifs tt)(he:∀ cl C s H fp,PE (cxC X scope cl C N' s H fp) elt te)(hs:∀ x,Dr iter X.env x=pure x):PE X (.ListComp elt [⟨tg,iter,ifs,0⟩] scope pos) (λY H Q=>wi Y H λJ H1=>MI J ts g tt te Y H1 Q):=by
 intro pI s Y H Q I h;obtain⟨cl,hclos,hcl,hcl2⟩:=To (scope:=scope) (env:=X.env) λx hx hk=>I.ok.has x.1 ((B.free x hx hk).imp id id)
 rw[eval_ListComp];refine ZG (use:=Af) rfl hs hclos B.kind B.names (thn (hi pI s Y H _ I h) λv s1 h1=>thn h1 λitv s2 h2=>?_)
 obtain⟨it,fp,tn,J,H2,e,I2,T,st2,f2,h3⟩:=h2;subst e;refine UF (RR:=λacc C=>compPost (model X.prog X.w) X.A X.xe Af (EP X pI Y Q) acc C) hc B I2 T st2 f2 hcl hcl2 (λcl C s H=>hg cl C s H fp) (λcl C s H=>ht cl C s H fp) (λcl C s H=>he cl C s H fp) h3 λcl' D C s' H' Y' pins' xs ys n m I' hd hDn rv hz hD hDC hC hm q=>?_
 exact⟨m,hm,λh'' hs''=>⟨.ref D,_,TF I2 f2 I' hD hDC hC hd hDn rv hz hs'',rfl,q⟩⟩
theorem oB{n:An}{g:TG}(hc:X.calm=Aa)(B:BlockOk X scope N' ts)(hi:PI X tg iter wi)(hg:∀ cl C s H fp,PG (cxC X scope cl C N' s H fp) tg g)(ht:∀ cl C s H fp,PTs (cxC X scope cl C N' s H fp) ifs tt)(he:∀ cl C s H fp,PE (cxC X scope cl C N' s H fp) elt te)(hs:∀ x,Dr iter X.env x=pure x)(hN:X.N.Nodup)(hni:X.N[i]?=Ab n)(hx:X.env.scope.names.lookup n=Ab .local)(hsw:DU (.ListComp elt [⟨tg,iter,ifs,0⟩] scope pos) (Ab (.Name n pos')) pos2.line X.env=pure Aa):PS X (.Assign [.Name n pos'] (.ListComp elt [⟨tg,iter,ifs,0⟩] scope pos) pos2) (OM (λY H Q=>wi Y H λJ H1=>MI J ts g tt te Y H1 Q) (FC i)):=by
 intro pI s Y H Dn I h;obtain⟨cl,hclos,hcl,hcl2⟩:=To (scope:=scope) (env:=X.env) λx hx hk=>I.ok.has x.1 ((B.free x hx hk).imp id id)
 rw[exec_Assign_Name_used _ _ _ _ hsw];refine Ah (Hn (Ah ?_));show AC _ X.A (do let _ <-comprehension (.ListComp elt [⟨tg,iter,ifs,0⟩] scope pos) scope X.env _ (newList []) Ae (eval iter X.env) (Ab (assign (.Name n pos') X.env))) _ _ s
 refine Ah (CY (ZG (use:=Ab (assign (.Name n pos') X.env)) (Q:=λ_ s'=>SP X pI Dn .next s') rfl hs hclos B.kind B.names
  (thn (hi pI s Y H _ I h) λv s1 h1=>thn h1 λitv s2 h2=>?_)) (λ_ s' hq=>Aw (Aw hq)) λ_ _ e=>e)
 obtain⟨it,fp,tn,J,H2,e,I2,T,st2,f2,h3⟩:=h2;subst e;refine UF (RR:=λacc C=>compPost (model X.prog X.w) X.A X.xe (Ab (assign (.Name n pos') X.env)) (λ_ s'=>SP X pI Dn .next s') acc C) hc B I2 T st2 f2 hcl hcl2 (λcl C s H=>hg cl C s H fp) (λcl C s H=>ht cl C s H fp) (λcl C s H=>he cl C s H fp) h3 λcl' D C s' H' Y' pins' xs ys n' m I' hd hDn rv hz hD hDC hC hm q=>?_
 have J0:Inv X pI Y (upd H' D (.lst xs)) s':=TF I2 f2 I' hD hDC hC hd hDn rv hz (Y_2 ..);refine ZF (TH J0 hN hni (.inl hx) (show Ca (.ref D) (.ref D) from rfl) (λs'' J1 ⟨a,sb,ha⟩=>?_) (.inr hx))
 have hC0:X.s₀.heap.objs.size<=C:=Cv I2.sz hC;have hL:C≠X.env.locals:=λz=>absurd (AK I2.lt (z ▸ hC)) (Bw _)
 have hcC:∀ x c,X.env.cells.lookup x=Ab c->c≠C:=λx c e z=>by
  obtain⟨v,q'⟩:=I2.cell x c e;exact absurd (AK q'.lt (by rw[z];exact hC)) (Bw _)
 have hp:∀ p∈X.pn++pI,p.1≠C:=λp hp z=>absurd (AK (AE (I2.pin p hp).1) (by rw[z];exact hC)) (Bw _)
 have hCn:upd H' D (.lst xs) C=Af:=by rw[Dz hDC.symm];exact I'.free
 have hCa:C≠a:=by
  rcases ha with rfl|ha
  .exact hL
  .exact λz=>hcC n a ha z.symm
 refine⟨m,hm.sameBut sb hCa,λh'' hs''=>⟨_,_,J1.turned (t':=s''.toks) (λb o hb e=>(hs''.2 b hb).trans e) hCn hL (.inr hC0) hcC hp,q⟩⟩
theorem K6:∀(ts:Ac Ag)(U:Rho)(j:Ag),(FP ts U)[j]?=if j∈ts then (U[j]?).map (λ_=>Af) else U[j]?
 |[],U,j=>by simp[FP]
 |t::ts,U,j=>by
  show (FP ts (U.set t Af))[j]?=_;rw[K6 ts];by_cases h1:j∈ts
  .rw[AO h1,AO (At _ h1)];by_cases h2:t=j
   .subst h2;rw[FX];cases U[t]?<;>rfl
   .rw[Dm h2]
  .rw[AW h1];by_cases h2:t=j
   .subst h2;rw[AO Ax,FX];cases U[t]?<;>rfl
   .rw[Dm h2,AW (by simp only[Av,DB];exact⟨λz=>h2 z.symm,h1⟩)]
theorem NA:∀(ts:Ac Ag)(U:Rho),(FP ts U).length=U.length
 |[],_=>rfl
 |t::ts,U=>by show (FP ts (U.set t Af)).length=_;rw[NA ts,BH]
theorem Qc:∀(ts:Ac Ag)(Y:L2.St){i:Ag},i∉ts->(hideT ts Y)[i]?=Y[i]?
 |[],_,_,_=>rfl
 |t::ts,Y,i,h=>by
  simp only[Av,DB]at h;show (hideT ts (Y.set t Af))[i]?=_;rw[Qc ts _ h.2,Dm (λz=>h.1 z.symm)]
theorem S9:∀(ts:Ac Ag)(ds:Ac D)(U1 U2:Rho),U1.length=U2.length->(∀ j,j∉ts->U1[j]?=U2[j]?)->EW ts ds U1=EW ts ds U2
 |[],[],U1,U2,hl,h=>congrArg Ab (XC λj=>h j (by simp))
 |[],_::_,_,_,_,_=>rfl
 |_::_,[],_,_,_,_=>rfl
 |t::ts,d::ds,U1,U2,hl,h=>by
  refine S9 ts ds _ _ (by rw[BH,BH];exact hl) λj hj=>?_
  by_cases e:t=j
  .subst e;rw[Hy,Hy,AO rfl,AO rfl,hl]
  .rw[Dm e,Dm e];exact h j (by simp only[Av,DB];exact⟨λz=>e z.symm,hj⟩)
theorem S8:∀(ts us:Ac Ag)(ds:Ac D)(U U':Rho),(∀ t∈ts,t∈us)->EW ts ds U=Ab U'->FP us U'=FP us U
 |[],us,[],U,U',_,e=>by cases e;rfl
 |t::ts,us,d::ds,U,U',hs,e=>by
  rw[S8 ts us ds _ U' (λu hu=>hs u (At _ hu)) e]
  refine XC λj=>?_
  rw[K6,K6];by_cases h:j∈us
  .rw[AO h,AO h,Hy];split
   .rename_i e2;subst e2;split
    .rename_i h3;rw[BP h3];rfl
    .rename_i h3;rw[List.getElem?_eq_none (by omega)]
   .rfl
  .rw[AW h,AW h,Dm];rintro rfl;exact h (hs _ Ax)
 |[],_,_::_,_,_,_,e=>by cases e
 |_::_,_,[],_,_,_,e=>by cases e
section
variable{K:Fg}{CL:ClA}{A:Am->Prop}{U U':Rho}{Y:L2.St}{H:Hp}
theorem Good.less(g:Good K CL A U Y H)(hl:U'.length=U.length)(h:∀(i:Ag)(d:D)(o:Ak),U'[i]?=Ab (Ab (d,o))->U[i]?=Ab (Ab (d,o))):Good K CL A U' Y H:=⟨λi d e=>g.sh i d (h i d Ae e),λi d e=>g.ow i d (h i d Aa e),hl.trans g.len⟩
theorem Good.put(g:Good K CL A U Y H)(t:Ag)(r:Rep K CL H A v d):Good K CL A (U.set t (Ab (d,Ae))) (Y.set t (Ab v)) H:=by
 refine⟨λj e h=>?_,λj e h=>?_,by rw[BH,BH];exact g.len⟩
 .by_cases hj:t=j
  .subst hj;have e1:=HU h;cases e1;have hl:t<Y.length:=by
    rw[<-g.len];have:=(Be.mp h).1;simpa using this
   exact⟨v,by rw[Dv hl],r⟩
  .rw[Dm hj]at h;obtain⟨w',q,rw'⟩:=g.sh j e h;exact⟨w',by rw[Dm hj];exact q,rw'⟩
 .have hj:t≠j:=by
   rintro rfl;have:=HU h;cases this
  rw[Dm hj]at h;obtain⟨a,xs,ds,q,z⟩:=g.ow j e h;exact⟨a,xs,ds,by rw[Dm hj];exact q,z⟩
theorem Good.hide(g:Good K CL A U Y H)(ts:Ac Ag):Good K CL A (FP ts U) Y H:=g.less (NA _ _) λi d o e=>by
 rw[K6]at e;split at e
 .cases q:U[i]? with
  |none=>rw[q]at e;cases e
  |some x=>rw[q]at e;cases e
 .exact e
theorem Good.hideT(g:Good K CL A U Y H)(ts:Ac Ag):Good K CL A (FP ts U) (hideT ts Y) H:=by
 have key:∀ i x,(FP ts U)[i]?=Ab (Ab x)->U[i]?=Ab (Ab x)/\i∉ts:=λi x e=>by
  rw[K6]at e;split at e
  .cases q:U[i]? with
   |none=>rw[q]at e;cases e
   |some x=>rw[q]at e;cases e
  .exact⟨e,by assumption⟩
 refine⟨λi d e=>?_,λi d e=>?_,by rw[NA,P5];exact g.len⟩
 .obtain⟨e1,e2⟩:=key i _ e;obtain⟨v,q,r⟩:=g.sh i d e1;exact⟨v,by rw[Qc _ _ e2];exact q,r⟩
 .obtain⟨e1,e2⟩:=key i _ e;obtain⟨a,xs,ds,q,r⟩:=g.ow i d e1;exact⟨a,xs,ds,by rw[Qc _ _ e2];exact q,r⟩
end
def GG(K:Fg)(CL:ClA)(ts:Ac Ag)(as:D->Rho->R Rho)(g:TG):Prop:=∀ A U Y H v d U' Q,Good K CL A (FP ts U) Y H->Rep K CL H A v d->as d U=.ok U'->(∀ Y',Good K CL A U' Y' H->Good K CL A (FP ts U) Y' H->Q Y' H)->g v Y H Q
theorem qU(i:Ag):GG K CL [i] (λd U=>.ok (U.set i (Ab (d,Ae)))) (FC i):=λA U Y H v d U' Q g r e k=>by
 cases e;have g2:=g.put i r;have e1:(FP [i] U).set i (Ab (d,Ae))=U.set i (Ab (d,Ae)):=by
  show (U.set i Af).set i (Ab (d,Ae))=_;rw[XZ]
 rw[e1]at g2;refine k _ g2 ?_;have:=g2.hide [i];have e2:FP [i] (U.set i (Ab (d,Ae)))=FP [i] U:=by
  show (U.set i _).set i Af=U.set i Af;rw[XZ]
 rw[e2]at this;exact this
theorem Vp{K:Fg}{CL:ClA}{A:Am->Prop}{H:Hp}:∀(ts:Ac Ag)(ds:Ac D)(vs:Ac V)(U U':Rho)(Y:L2.St)(Q:L2.St->Hp->Prop),Good K CL A U Y H->Reps K CL H A vs ds->EW ts ds U=Ab U'->(∀ Y',Good K CL A U' Y' H->Q Y' H)->(ts.foldr (λt u=>Ia (FC t) u) Il) vs Y H Q
 |[],[],[],U,U',Y,Q,x,_,e,k=>by
  cases e;exact⟨rfl,k Y x⟩
 |t::ts,d::ds,v::vs,U,U',Y,Q,x,r,e,k=>⟨v,vs,rfl,Vp ts ds vs _ U' _ Q (x.put t r.1) r.2 e k⟩
 |[],_::_,_,_,_,_,_,_,_,e,_=>by cases e
 |_::_,[],_,_,_,_,_,_,_,e,_=>by cases e
 |[],[],_::_,_,_,_,_,_,r,_,_=>r.elim
 |_::_,_::_,[],_,_,_,_,_,r,_,_=>r.elim
theorem cq(ts:Ac Ag):GG K CL ts (F4 ts) (LP K ts.length (ts.foldr (λt u=>Ia (FC t) u) Il)):=λA U Y H v d U' Q g r e k=>by
 cases d with
 |tup ds=>
  obtain⟨a,xs,rfl,na,sq,rs⟩:=r;rw[Tq]at e;cases e2:EW ts ds U with
  |none=>rw[e2]at e;cases e
  |some U2=>
   rw[e2]at e;cases e;have e3:EW ts ds (FP ts U)=Ab U':=by
    rw[<-e2];exact S9 ts ds _ _ (NA _ _) λj hj=>by rw[K6,AW hj]
   refine⟨a,xs,rfl,sq,by rw[rs.length];exact NB _ _ _ _ e2,Vp ts ds xs _ U' Y Q g rs e3 λY' g'=>k Y' g' ?_⟩
   have:=g'.hide ts;rw[S8 ts ts ds U U' (λ_ h=>h) e2]at this
   exact this
 |_=>cases e
noncomputable abbrev W0:XW:=λ_ _=>BF
def STs(X:Cx)(CL:ClA)(ifs:Ac Ao)(f:Rho->R Ak):Prop:=∀ A,PTs X ifs (λY H Q=>AOk H A/\∃ U,Good X.K CL A U Y H/\DD W0 H (f U) Q)
theorem nS:STs X CL [] (λ_=>.ok Aa):=λA pI s Y H Q I ⟨hA,U,g,p⟩=>qE pI s Y H Q I (p H (AN.refl H))
theorem nR(h:SB X CL W0 c f):STs X CL [c] f:=λA pI s Y H Q I q=>qD (h A) pI s Y H Q I q
section
variable{X:Cx}{CL:ClA}{W:XW}{tg iter elt:Ao}{ifs:Ac Ao}{scope:Cz}{pos:A6}{N':Ac An}{ts:Ac Ag}{fi:Rho->R (Ac D)}{fc:Rho->R Ak}{fe:Rho->R D}{as:D->Rho->R Rho}{g:TG}
theorem dY{g:D->R Ak}{f:D->R D}{x:D}{xs ys:Ac D}(h:BK g f (x::xs)=.ok ys):(g x=.ok Ae/\BK g f xs=.ok ys)\/∃ y r,g x=.ok Aa/\f x=.ok y/\BK g f xs=.ok r/\ys=y::r:=by
 unfold BK at h;cases e:g x with
 |bad=>rw[e]at h;cases h
 |exn z=>rw[e]at h;cases h
 |ok b=>
  rw[e,R.bind_ok]at h;cases b with
  |false=>exact .inl ⟨rfl,h⟩
  |true=>
   rw[AO rfl]at h;cases e2:f x with
   |bad=>rw[e2]at h;cases h
   |exn z=>rw[e2]at h;cases h
   |ok y=>
    rw[e2,R.bind_ok]at h;cases e3:BK g f xs with
    |bad=>rw[e3]at h;cases h
    |exn z=>rw[e3]at h;cases h
    |ok r=>
     rw[e3,R.bind_ok]at h;cases h;exact .inr ⟨y,r,rfl,rfl,rfl,rfl⟩
theorem Km{β:Type}{r:R α}{f:α->R β}{b:β}(h:r.bind f=.ok b):∃ a,r=.ok a/\f a=.ok b:=by
 cases r with
 |ok a=>exact⟨a,rfl,h⟩
 |exn x=>cases h
 |bad=>cases h
theorem gD{ds ys:Ac D}(hGG:GG K CL ts as g)(hA:AOk H1 A)(gd:Good K CL A U Y H1)(yl:Jx K CL A ds J H1)(hz:ds.length<=sizeLine)(hcp:BK (λx=>(as x U).bind fc) (λx=>(as x U).bind fe) ds=.ok ys)(q:∀ xs H2,AN H1 H2->Reps K CL H2 A xs ys->∀ p,H2 p=Af->Q (.ref p) (upd H2 p (.lst xs))):MI J ts g (λY H Q=>AOk H A/\∃ U,Good K CL A U Y H/\DD W0 H (fc U) Q) (λY H Q=>AOk H A/\∃ U,Good K CL A U Y H/\By (λH=>Rep K CL H A) W0 H (fe U) Q) Y H1 Q:=by
 refine⟨λi m xs Y' H'=>m=ds.length-i/\i<=ds.length/\xs.length<=i/\AN H1 H'/\Good K CL A (FP ts U) Y' H'/\∃ outs rest,Reps K CL H' A xs outs/\BK (λx=>(as x U).bind fc) (λx=>(as x U).bind fe) (ds.drop i)=.ok rest/\ys=outs++rest,
  ⟨ds.length,by simp,Fs _,A5 _,AN.refl _,gd.hideT ts,[],ys,trivial,hcp,rfl⟩,?_⟩
 rintro i m xs Y' H' ⟨rfl,hi,hxl,sm,g',outs,rest,rs,hc,e⟩;obtain⟨yst,ygo⟩:=yl H' (Kp.of sm) i;by_cases hlt:i<ds.length
 .have hd:ds[i]?=Ab ds[i]:=BP hlt;obtain⟨hgo,hyl⟩:=ygo _ hd;refine .inr ⟨hgo,by omega,λx H2 hx=>?_⟩
  obtain⟨s2,rx⟩:=hyl x H2 hx;have rx':=rx A (λa ha=>.inl ha) (hA.same sm)
  rw[FG hlt]at hc;have sm2:=sm.trans s2;rcases dY hc with ⟨h1,h2⟩|⟨y,r,h1,h2,h3,h4⟩
  .obtain⟨U',ea,ec⟩:=Km h1;refine hGG A U Y' H2 x ds[i] U' _ (g'.same s2) rx' ea λY3 g3 g4=>⟨hA.same sm2,U',g3,?_⟩
   rw[ec];exact λH3 s3=>by
    dsimp only;rw[AW (by decide)]
    exact⟨ds.length-(i+1),by omega,rfl,hlt,by omega,sm2.trans s3,g4.same s3,outs,rest,(rs.same s2).same s3,h2,e⟩
  .obtain⟨U',ea,ec⟩:=Km h1;obtain⟨U2,ea2,ee⟩:=Km h2;rw[ea]at ea2;cases ea2;refine hGG A U Y' H2 x ds[i] U' _ (g'.same s2) rx' ea λY3 g3 g4=>⟨hA.same sm2,U',g3,?_⟩
   rw[ec];exact λH3 s3=>by
    dsimp only;rw[AO rfl];refine⟨(hA.same sm2).same s3,U',g3.same s3,?_⟩;rw[ee];exact λv H4 s4 r4=>⟨ds.length-(i+1),by omega,rfl,hlt,by rw[BU,Ec];omega,(sm2.trans s3).trans s4,(g4.same s3).same s4,outs++[y],r,(((rs.same s2).same s3).same s4).append ⟨r4,trivial⟩,h3,by rw[e,h4];simp⟩
 .have hk':ds.length<=i:=by omega
  rw[Xz hk']at hc;have hr:rest=[]:=by cases hc;rfl
  subst hr;rw[DK]at e;subst e;exact .inl ⟨yst hk',λp hp=>q xs H' sm rs p hp⟩
theorem Fl.ok_of{r:R (Ac D)}{f:Ac D->R D}{Q':It->Hp->Prop}(h:By Rq W H (r.bind f) Q)(k:∀ ds J H',r=.ok ds->AN H H'->Jx K CL A ds J H'->ds.length<=sizeLine->By Rq W H' (f ds) Q->Q' J H'):Fl K CL A W H r Q':=by
 cases r with
 |ok d=>exact λJ H2 s2 y z=>k d J H2 rfl s2 y z (By.same s2 h)
 |exn x=>exact h
 |bad=>exact h
theorem yS{r:R α}{a:α}(h:noX r=.ok a):r=.ok a:=by
 cases r with
 |ok b=>exact h
 |exn x=>cases h
 |bad=>cases h
theorem TC(hGG:GG X.K CL ts as g)(hA:AOk H A)(gd:Good X.K CL A U Y H)(p:By (Fb X.K CL Aa H A) W H ((fi U).bind λxs=>(noX (BK (λx=>(as x U).bind fc) (λx=>(as x U).bind fe) xs)).bind λys=>.ok (.lst ys)) Q):Fl X.K CL A W H (fi U) (λJ H1=>MI J ts g (λY H Q=>AOk H A/\∃ U,Good X.K CL A U Y H/\DD W0 H (fc U) Q) (λY H Q=>AOk H A/\∃ U,Good X.K CL A U Y H/\By (λH=>Rep X.K CL H A) W0 H (fe U) Q) Y H1 Q):=
 Fl.ok_of p λds J H1 e1 s1 yl hz p1=>by
  cases e2:noX (BK (λx=>(as x U).bind fc) (λx=>(as x U).bind fe) ds) with
  |ok ys=>
   rw[e2]at p1;exact gD hGG (hA.same s1) (gd.same s1) yl hz (yS e2) λxs H2 s2 rs q hq=>p1 _ _ (s2.trans (GR hq _)) (K9 (s1.trans s2) ((hA.same s1).same s2) hq rs)
  |exn x=>rw[e2]at p1;cases hq:BK (λx=>(as x U).bind fc) (λx=>(as x U).bind fe) ds<;>rw[hq]at e2<;>cases e2
  |bad=>rw[e2]at p1;exact p1.elim
theorem mJ(hc:X.calm=Aa)(B:BlockOk X scope N' ts)(hi:SI X CL W tg iter fi)(hGG:GG X.K CL ts as g)(hg:∀ cl C s H fp,PG (cxC X scope cl C N' s H fp) tg g)(ht:∀ cl C s H fp,STs (cxC X scope cl C N' s H fp) CL ifs fc)(he:∀ cl C s H fp,SE (cxC X scope cl C N' s H fp) CL W0 elt fe)(hs:∀ x,Dr iter X.env x=pure x):SC X CL W Aa (.ListComp elt [⟨tg,iter,ifs,0⟩] scope pos) (λU=>(fi U).bind λxs=>(noX (BK (λx=>(as x U).bind fc) (λx=>(as x U).bind fe) xs)).bind λys=>.ok (.lst ys)):=λA pI s Y H Q I ⟨hA,U,gd,p⟩=>
 oG hc B (hi A) hg (λcl C s H fp=>ht cl C s H fp A) (λcl C s H fp=>he cl C s H fp A) hs pI s Y H Q I ⟨hA,U,gd,TC hGG hA gd p⟩
end
section
variable{K:Fg}{CL:ClA}{Fz:Am->HO->Prop}{B:Am->Prop}{U:Rho}{Y:L2.St}{H H':Hp}
theorem Sx.setF(x:Sx K CL Fz B U Y H)(s:AN H H'){ds:Ac D}(h0:H a=Af)(h1:H' a=Ab (.lst xs))(r:Reps K CL H' (λb=>CQ B U Y b\/b=a) xs ds):Sx K CL Fz B (U.set i (Ab (.lst ds,Aa))) (Y.set i (Ab (.ref a))) H':=by
 have nA:¬ CQ B U Y a:=x.aok.new h0;have own:∀(j:Ag)(e:D),(U.set i (Ab (.lst ds,Aa)))[j]?=Ab (Ab (e,Aa))->(i=j/\e=.lst ds)\/(i≠j/\U[j]?=Ab (Ab (e,Aa))):=λj e h=>by
  by_cases hj:i=j
  .subst hj;have:=HU h;cases this;exact .inl ⟨rfl,rfl⟩
  .exact .inr ⟨hj,by rw[Dm hj]at h;exact h⟩
 have atI:∀{j:Ag}{y:Sl},(U.set i (Ab (.lst ds,Aa)))[j]?=Ab y->i=j->(Y.set i (Ab (.ref a)))[j]?=Ab (Ab (.ref a)):=λ{j y} h e=>by
  subst e;have hl:i<Y.length:=by
   rw[<-x.len];have:=(Be.mp h).1;simpa using this
  rw[Dv hl]
 have sub:∀ b,CQ B (U.set i (Ab (.lst ds,Aa))) (Y.set i (Ab (.ref a))) b->CQ B U Y b\/b=a:=λb h=>by
  rcases h with h|⟨j,e,h1,h2⟩
  .exact .inl (.inl h)
  .rcases own j e h1 with ⟨hj,_⟩|⟨hj,h1'⟩
   .rw[atI h1 hj]at h2;cases h2;exact .inr rfl
   .rw[Dm hj]at h2;exact .inl (.inr ⟨j,e,h1',h2⟩)
 have wide:∀{v:V}{d:D},Rep K CL H (CQ B U Y) v d->Rep K CL H' (CQ B (U.set i (Ab (.lst ds,Aa))) (Y.set i (Ab (.ref a)))) v d:=λr=>(Rep.wide (λb hb=>(sub b hb).imp id λe=>by rw[e];exact h0) _ r).same s
 have wides:∀{v:Ac V}{d:Ac D},Reps K CL H (CQ B U Y) v d->Reps K CL H' (CQ B (U.set i (Ab (.lst ds,Aa))) (Y.set i (Ab (.ref a)))) v d:=λr=>(Reps.wide (λb hb=>(sub b hb).imp id λe=>by rw[e];exact h0) _ r).same s
 refine⟨⟨λj e h=>?_,λj e h=>?_,by rw[BH,BH];exact x.len⟩,λb h=>?_,λj e b g1 g2=>?_,λj k e f b g1 g2 g3 g4=>?_,λb o z=>s _ _ (x.same b o z),by rw[BH,BH];exact x.len⟩
 .have hj:i≠j:=by
   rintro rfl;have:=HU h;cases this
  rw[Dm hj]at h;obtain⟨w',q,rw'⟩:=x.good.sh j e h;exact⟨w',by rw[Dm hj];exact q,wide rw'⟩
 .rcases own j e h with ⟨hj,rfl⟩|⟨hj,h'⟩
  .have q:=atI h hj;exact⟨a,xs,ds,q,rfl,.inr ⟨j,_,h,q⟩,h1,Reps.sub sub _ r⟩
  .obtain⟨b,ys,es,q,z,ha,hh,rr⟩:=x.good.ow j e h';have q':(Y.set i (Ab (.ref a)))[j]?=Ab (Ab (.ref b)):=by rw[Dm hj];exact q
   exact⟨b,ys,es,q',z,.inr ⟨j,e,h,q'⟩,s _ _ hh,wides rr⟩
 .rcases sub b h with z|z
  .obtain⟨ys,q⟩:=x.aok b z;exact⟨ys,s _ _ q⟩
  .rw[z];exact⟨xs,h1⟩
 .rcases own j e g1 with ⟨hj,_⟩|⟨hj,h'⟩
  .rw[atI g1 hj]at g2;cases g2;refine⟨λo z=>?_,λz=>nA (.inl z)⟩
   have:=x.same a o z;rw[h0]at this;cases this
  .rw[Dm hj]at g2;exact x.new j e b h' g2
 .rcases own j e g1 with ⟨hj,_⟩|⟨hj,h'⟩
  .rw[atI g1 hj]at g3;cases g3;rcases own k f g2 with ⟨hk,_⟩|⟨hk,h''⟩
   .exact hj.symm.trans hk
   .rw[Dm hk]at g4;exact absurd (.inr ⟨k,f,h'',g4⟩) nA
  .rw[Dm hj]at g3;rcases own k f g2 with ⟨hk,_⟩|⟨hk,h''⟩
   .rw[atI g2 hk]at g4;cases g4;exact absurd (.inr ⟨j,e,h',g3⟩) nA
   .rw[Dm hk]at g4;exact x.dis j k e f b h' h'' g3 g4
theorem Sx.upd(x:Sx K CL Fz B U Y H){i:Ag}{d:D}{a:Am}{xs:Ac V}{ds:Ac D}(hi:U[i]?=Ab (Ab (d,Aa)))(ha:Y[i]?=Ab (Ab (.ref a)))(r:Reps K CL H (CQ B U Y) xs ds):Sx K CL Fz B (U.set i (Ab (.lst ds,Aa))) Y (L2.upd H a (.lst xs)):=by
 have oa:CQ B U Y a:=.inr ⟨i,d,hi,ha⟩;have hil:i<U.length:=(Be.mp hi).1;have get:∀(j:Ag)(e:D),(U.set i (Ab (.lst ds,Aa)))[j]?=Ab (Ab (e,Aa))↔(i=j/\e=.lst ds)\/(i≠j/\U[j]?=Ab (Ab (e,Aa))):=λj e=>by
  by_cases hj:i=j
  .subst hj;rw[Dv hil];simp;exact⟨λz=>z.symm,λz=>z.symm⟩
  .rw[Dm hj];simp[hj]
 have same:∀ b,CQ B (U.set i (Ab (.lst ds,Aa))) Y b↔CQ B U Y b:=λb=>by
  constructor
  .rintro (h|⟨j,e,h1,h2⟩)
   .exact .inl h
   .rcases (get j e).mp h1 with ⟨rfl,_⟩|⟨_,h1⟩
    .exact .inr ⟨i,d,hi,h2⟩
    .exact .inr ⟨j,e,h1,h2⟩
  .rintro (h|⟨j,e,h1,h2⟩)
   .exact .inl h
   .by_cases hj:i=j
    .subst hj;exact .inr ⟨i,.lst ds,(get i _).mpr (.inl ⟨rfl,rfl⟩),h2⟩
    .exact .inr ⟨j,e,(get j e).mpr (.inr ⟨hj,h1⟩),h2⟩
 have kp:Kp (CQ B U Y) H (L2.upd H a (.lst xs)):=λb o e na=>by
  have hne:b≠a:=by
   rintro rfl;exact na oa
  rw[Dz hne];exact e
 refine⟨⟨λj e h=>?_,λj e h=>?_,by rw[BH];exact x.len⟩,λb h=>?_,λj e b g1 g2=>?_,λj k e f b g1 g2 g3 g4=>?_,λb o z=>?_,by rw[BH];exact x.len⟩
 .have hj:i≠j:=by
   rintro rfl;have:=HU h;cases this
  rw[Dm hj]at h;obtain⟨w',q,rw'⟩:=x.good.sh j e h;exact⟨w',q,Rep.sub (λb hb=>(same b).mp hb) _ (Rep.kp kp _ rw')⟩
 .rcases (get j e).mp h with ⟨rfl,rfl⟩|⟨hj,h'⟩
  .exact⟨a,xs,ds,ha,rfl,(same a).mpr oa,Jm,Reps.sub (λb hb=>(same b).mp hb) _ (Reps.kp kp _ r)⟩
  .obtain⟨b,ys,es,q,z,hb,hh,rr⟩:=x.good.ow j e h';have hne:b≠a:=λz=>hj (x.dis i j d e a hi h' ha (z ▸ q))
   exact⟨b,ys,es,q,z,(same b).mpr hb,by rw[Dz hne];exact hh,Reps.sub (λb hb=>(same b).mp hb) _ (Reps.kp kp _ rr)⟩
 .obtain⟨ys,q⟩:=x.aok b ((same b).mp h);by_cases e:b=a
  .rw[e];exact⟨xs,Jm⟩
  .exact⟨ys,by rw[Dz e];exact q⟩
 .rcases (get j e).mp g1 with ⟨rfl,_⟩|⟨_,h'⟩
  .exact x.new i d b hi g2
  .exact x.new j e b h' g2
 .rcases (get j e).mp g1 with ⟨rfl,_⟩|⟨hj,h'⟩
  .rcases (get k f).mp g2 with ⟨rfl,_⟩|⟨hk,h''⟩
   .rfl
   .exact x.dis i k d f b hi h'' g3 g4
  .rcases (get k f).mp g2 with ⟨rfl,_⟩|⟨hk,h''⟩
   .exact x.dis j i e d b h' hi g3 g4
   .exact x.dis j k e f b h' h'' g3 g4
 .have hne:b≠a:=λe=>(x.new i d a hi ha).1 o (e ▸ z)
  rw[Dz hne];exact x.same b o z
theorem Sx.rel(x:Sx K CL Fz B U Y H)(hi:U[i]?=Ab (Ab (d,Aa))):Sx K CL Fz B (U.set i (Ab (d,Ae))) Y H:=by
 obtain⟨a,xs,ds,q,rfl,oa,hh,rr⟩:=x.good.ow i d hi;have own:∀(j:Ag)(e:D),(U.set i (Ab (.lst ds,Ae)))[j]?=Ab (Ab (e,Aa))->i≠j/\U[j]?=Ab (Ab (e,Aa)):=λj e h=>by
  by_cases hj:i=j
  .subst hj;have:=HU h;cases this
  .exact⟨hj,by rw[Dm hj]at h;exact h⟩
 have sub:∀ b,CQ B (U.set i (Ab (.lst ds,Ae))) Y b->CQ B U Y b:=λb h=>by
  rcases h with h|⟨j,e,h1,h2⟩
  .exact .inl h
  .exact .inr ⟨j,e,(own j e h1).2,h2⟩
 have na:¬ CQ B (U.set i (Ab (.lst ds,Ae))) Y a:=λh=>by
  rcases h with h|⟨j,e,h1,h2⟩
  .exact(x.new i _ a hi q).2 h
  .obtain⟨hj,h1⟩:=own j e h1;exact hj (x.dis i j _ e a hi h1 q h2)
 refine⟨⟨λj e h=>?_,λj e h=>?_,by rw[BH];exact x.len⟩,λb h=>x.aok b (sub b h),λj e b g1 g2=>x.new j e b (own j e g1).2 g2,λj k e f b g1 g2 g3 g4=>x.dis j k e f b (own j e g1).2 (own k f g2).2 g3 g4,x.same,by rw[BH];exact x.len⟩
 .by_cases hj:i=j
  .subst hj;have e1:=HU h;cases e1;exact⟨_,q,a,xs,rfl,.inl na,SqL.of hh,Reps.sub sub _ rr⟩
  .rw[Dm hj]at h;obtain⟨w',q',rw'⟩:=x.good.sh j e h;exact⟨w',q',Rep.sub sub _ rw'⟩
 .obtain⟨hj,h'⟩:=own j e h;obtain⟨b,ys,es,q',z,hb,hh',rr'⟩:=x.good.ow j e h';exact⟨b,ys,es,q',z,.inr ⟨j,e,h,q'⟩,hh',Reps.sub sub _ rr'⟩
end
section
variable{X:Cx}{CL:ClA}{W:XW}{pos:A6}{e:Ao}{fe:Rho->R D}{fr:Ak}
theorem CT.exC{f:D->O}(x:Sx X.K CL Fz B U Y H)(h:CT X.K CL Fz B W (O.of U r f) D')(k:∀ d v H',r=.ok d->AN H H'->Fb X.K CL fr H A H' v d->Sx X.K CL Fz B U Y H'->CT X.K CL Fz B W (f d) D'->Q v H'):By (Fb X.K CL fr H A) W H r Q:=by
 cases r with
 |ok d=>exact λv H' s r=>k d v H' rfl s r (x.grow s) h
 |exn y=>exact λH' s=>h H' λb o z=>s _ _ (x.same b o z)
 |bad=>exact h
def SAs(X:Cx)(CL:ClA)(W:XW)(fr:Ak)(i:Ag)(st:BA)(f:Rho->R D):Prop:=∀ A,PS X st (OM (λY H Q=>AOk H A/\∃ U,Good X.K CL A U Y H/\By (Fb X.K CL fr H A) W H (f U) Q) (FC i))
theorem SC.sas{n:An}(hN:X.N.Nodup)(hi:X.N[i]?=Ab n)(hx:Loc X.env.scope n)(he:SC X CL W fr e fe)(hs:DU e (Ab (.Name n pos')) pos.line X.env=pure Ae)(hf:X.fn n=Aa\/X.env.scope.names.lookup n=Ab .local):SAs X CL W fr i (.Assign [.Name n pos'] e pos) fe:=
 λA=>zK hN hi hx (he A) hs hf
theorem gR{n:An}{fe:Rho->R D}{g:TG}(hc:X.calm=Aa)(B:BlockOk X scope N' ts)(hi:SI X CL W tg iter fi)(hGG:GG X.K CL ts as g)(hg:∀ cl C s H fp,PG (cxC X scope cl C N' s H fp) tg g)(ht:∀ cl C s H fp,STs (cxC X scope cl C N' s H fp) CL ifs fc)(he:∀ cl C s H fp,SE (cxC X scope cl C N' s H fp) CL W0 elt fe)(hs:∀ x,Dr iter X.env x=pure x)(hN:X.N.Nodup)(hni:X.N[i]?=Ab n)(hx:X.env.scope.names.lookup n=Ab .local)(hsw:DU (.ListComp elt [⟨tg,iter,ifs,0⟩] scope pos) (Ab (.Name n pos')) pos2.line X.env=pure Aa):SAs X CL W Aa i (.Assign [.Name n pos'] (.ListComp elt [⟨tg,iter,ifs,0⟩] scope pos) pos2) (λU=>(fi U).bind λxs=>(noX (BK (λx=>(as x U).bind fc) (λx=>(as x U).bind fe) xs)).bind λys=>.ok (.lst ys)):=λA pI s Y H Dn I ⟨hA,U,gd,p⟩=>
 oB hc B (hi A) hg (λcl C s H fp=>ht cl C s H fp A) (λcl C s H fp=>he cl C s H fp A) hs hN hni hx hsw pI s Y H Dn I ⟨hA,U,gd,TC hGG hA gd p⟩
theorem WC{st:BA}(h:SAs X CL W fr i st fe):SS X CL W st (λU=>O.of U (fe U) λd=>.next (U.set i (Ab (d,Ae)))):=λFz B pI s Y H D I ⟨U,x,p⟩=>
 h (CQ B U Y) pI s Y H D I ⟨x.aok,U,x.good,CT.exC x p λd v H' _ s r x' q=>q _ H' (x'.set i r.1)⟩
theorem lZ{st:BA}(h:SAs X CL W Aa i st fe):SS X CL W st (λU=>O.of U (fe U) λd=>setF U i d):=λFz B pI s Y H D I ⟨U,x,p⟩=>
 h (CQ B U Y) pI s Y H D I ⟨x.aok,U,x.good,CT.exC x p λd v H' _ s r x' q=>by
  cases d with
  |lst ds=>
   obtain⟨a,xs,rfl,h0,h1,rs⟩:=r.2 rfl ds rfl;exact q _ H' (x.setF s h0 h1 rs)
  |dic ds=>exact r.1.elim
  | _=>exact q.elim⟩
theorem lV(he:SC X CL W Aa e fe):SS X CL W (.Return (Ab e) pos) (λU=>O.of U (fe U) λd=>.ret d Aa):=λFz B pI s Y H D I ⟨U,x,p⟩=>
 Q7 (he (CQ B U Y)) pI s Y H D I ⟨x.aok,U,x.good,CT.exC x p λd v H' _ s r x' q=>q v H' x'.same (Rep.sub (λa h=>.inl h) _ r.1) λ_ ds e=>by
  obtain⟨a,xs,h0,h1,h2,h3⟩:=r.2 rfl ds e;refine⟨a,xs,h0,λo z=>?_,h2,Reps.sub (λb hb=>hb.imp .inl id) _ h3⟩
  have:=x.same a o z;rw[h1]at this;cases this⟩
noncomputable def Sh(U:Rho)(i:Ag):Ak:=match U[i]? with
  |some (Ab (_,o))=>o
  |_=>Ae
theorem lR(he:PE X e (IQ i)):SS X CL W (.Return (Ab e) pos) (λU=>O.of U (Fn U i) λd=>.ret d (Sh U i)):=λFz B pI s Y H D I ⟨U,x,p⟩=>
 Q7 he pI s Y H D I (by
  dsimp only at p;cases e:Fn U i with
  |bad=>rw[e]at p;exact p.elim
  |exn z=>exact(Um e).elim
  |ok d=>
   rw[e]at p;obtain⟨o,e⟩:=Vk e;have eo:Sh U i=o:=by unfold Sh;rw[e]
   rw[O.of_ok,eo]at p;cases o with
   |false=>
    obtain⟨v,q,r⟩:=x.good.sh i d e;exact⟨v,q,p v H x.same (Rep.sub (λa h=>.inl h) _ r) λz=>nomatch z⟩
   |true=>
    obtain⟨a,xs,ds,q,rfl,ha,hh,r⟩:=x.good.ow i d e;obtain⟨n1,n2⟩:=x.new i _ a e q;refine⟨_,q,p _ H x.same ⟨a,xs,rfl,.inl n2,SqL.of hh,Reps.sub (λa h=>.inl h) _ r⟩ λ_ ds' e'=>?_⟩
    cases e';exact⟨a,xs,rfl,n1,hh,Reps.sub (λb hb=>hb.elim .inl λz=>z ▸ ha) _ r⟩)
theorem MG{ds:Ac D}(h:Dc U i=.ok ds):U[i]?=Ab (Ab (.lst ds,Aa)):=by
 unfold Dc at h;split at h
 .rename_i e;cases h;exact e
 .cases h
theorem Mw(h:Dc U i=.exn x):BF:=by
 unfold Dc at h;split at h<;>cases h
variable{o:Ao}{i:Ag}{apos cpos:A6}
theorem uT(ho:PE X o (IQ i))(he:SE X CL W e fe)(hbase:Gh o "append" X.env (eval o X.env)=eval o X.env)(hfew:((CU cpos (AI [e] X.env)).all (λx=>!x.1)&&(Jc cpos (Hc [] X.env)).all (λx=>x.1.isSome)&&decide ([e].length+([]:Ac Eg).length+(if ([]:Ac Eg).isEmpty then 0 else 1)<30))=Aa)(hline:(apos.endLine==cpos.line)=Aa)(hs:AI [e] X.env=[(Ae,eval e X.env)])(hsw:DU (.Call (.Attribute o "append" apos) [e] [] cpos) Af pos.line X.env=pure Ae):
  SS X CL W (.Expr (.Call (.Attribute o "append" apos) [e] [] cpos) pos) (λU=>O.of U (Dc U i) λxs=>O.of U (fe U) λd=>if Do (xs.length+1)=Aa then .next (U.set i (Ab (.lst (xs++[d]),Aa))) else .bad):=λFz B pI s Y H D I ⟨U,x,p⟩=>by
 refine ME (Oz EK PySem.F.slot_list_append PySem.F.type_list_append gI ho (Fj (he (CQ B U Y)) G5 hs) hbase hfew hline hs rfl) hsw pI s Y H D I ?_;dsimp only at p;cases e1:Dc U i with
 |bad=>rw[e1]at p;exact p.elim
 |exn z=>exact(Mw e1).elim
 |ok ds=>
  rw[e1,O.of_ok]at p;have hi:=MG e1;obtain⟨a,xs,ds',q,e2,ha,hh,r⟩:=x.good.ow i _ hi;cases e2;refine⟨_,q,.inl ⟨rfl,xs,SqL.of hh⟩,x.aok,U,x.good,CT.ex x p λd v H' _ s rv x' q'=>?_⟩
  split at q'
  .rename_i hz;refine⟨a,xs,v,rfl,rfl,s _ _ hh,?_,q' _ _ (x'.upd hi q ((r.same s).append ⟨rv,trivial⟩))⟩;have:=Iy hz;rw[r.length];omega
  .exact q'.elim
theorem uS(ho:PE X o (IQ i))(he:SC X CL W Aa e fe)(hbase:Gh o "extend" X.env (eval o X.env)=eval o X.env)(hfew:((CU cpos (AI [e] X.env)).all (λx=>!x.1)&&(Jc cpos (Hc [] X.env)).all (λx=>x.1.isSome)&&decide ([e].length+([]:Ac Eg).length+(if ([]:Ac Eg).isEmpty then 0 else 1)<30))=Aa)(hline:(apos.endLine==cpos.line)=Aa)(hs:AI [e] X.env=[(Ae,eval e X.env)])(hsw:DU (.Call (.Attribute o "extend" apos) [e] [] cpos) Af pos.line X.env=pure Ae):
  SS X CL W (.Expr (.Call (.Attribute o "extend" apos) [e] [] cpos) pos) (λU=>O.of U (Dc U i) λxs=>O.of U (fe U) λd=>O.of U (LF d) λys=>if Do (xs.length+ys.length)=Aa then .next (U.set i (Ab (.lst (xs++ys),Aa))) else .bad):=λFz B pI s Y H D I ⟨U,x,p⟩=>by
 refine ME (Oz EK E6 Y_1 gH ho (Fj (he (CQ B U Y)) G5 hs) hbase hfew hline hs rfl) hsw pI s Y H D I ?_;dsimp only at p;cases e1:Dc U i with
 |bad=>rw[e1]at p;exact p.elim
 |exn z=>exact(Mw e1).elim
 |ok ds=>
  rw[e1,O.of_ok]at p;have hi:=MG e1;obtain⟨a,xs,ds',q,e2,ha,hh,r⟩:=x.good.ow i _ hi;cases e2;refine⟨_,q,.inl ⟨rfl,xs,SqL.of hh⟩,x.aok,U,x.good,CT.exC x p λd v H' _ s rv x' q'=>?_⟩
  cases d with
  |lst es=>
   obtain⟨b,ys,rfl,h0,h1,rs⟩:=rv.2 rfl es rfl;rw[Ut,O.of_ok]at q';split at q'
   .rename_i hz;refine⟨a,b,xs,ys,rfl,rfl,s _ _ hh,h1,?_,q' _ _ (x'.upd hi q ((r.same s).append (Reps.sub (λc hc=>.inl hc) _ rs)))⟩
    rw[r.length,rs.length];exact Iy hz
   .exact q'.elim
  |_=>exact q'.elim
theorem uQ{k:Ao}{fk:Rho->R Ov.D}{spos:A6}(ho:PE X o (IQ i))(hk:ST X CL W k fk)(he:SE X CL W e fe)(ha:∀ v,assign (.Subscript o k spos) X.env v=(do
      let ov <-holding [v] (eval o X.env)
      let iv <-holding [v,ov] (eval k X.env)
      J9 spos
      holding [v,ov,iv] (setItem ov iv v)
      release [v,ov,iv] []))(hs:Hm [.Subscript o k spos] e pos.line X.env=pure Ae)(hw:Gj [.Subscript o k spos] e X.env=pure Af)(h1:(CG [.Subscript o k spos] X.env).map (·.2)=[assign (.Subscript o k spos) X.env]):
    SS X CL W (.Assign [.Subscript o k spos] e pos) (λU=>O.of U (fe U) λd=>O.of U (Dc U i) λxs=>O.of U ((fk U).bind EX) λj=>match plD xs.length j with
      |some n=>.next (U.set i (Ab (.lst (xs.set n d),Aa)))
      | none=>.bad):=λFz B pI s Y H D I ⟨U,x,p⟩=>
  WF (he (CQ B U Y)) (zT ho (hk (CQ B U Y)) iR ha) hs hw h1 pI s Y H D I ⟨x.aok,U,x.good,CT.ex x p λd v H' _ s rv x' q'=>by
    cases e1:Dc U i with
    |bad=>rw[e1]at q';exact q'.elim
    |exn z=>exact(Mw e1).elim
    |ok ds=>
      rw[e1,O.of_ok]at q';have hi:=MG e1;obtain⟨a,xs,ds',q,e2,ha,hh,r⟩:=x'.good.ow i _ hi;cases e2;refine⟨_,q,x'.aok,U,x'.good,?_⟩;cases e3:fk U with
      |bad=>rw[e3]at q';exact q'.elim
      |exn z=>rw[e3]at q';exact λH2 s2=>q' H2 λb o z=>s2 _ _ (x'.same b o z)
      |ok dk=>
        rw[e3]at q';intro y H2 s2 ry;cases dk with
        |int j=>
          have ey:=ry.int_of;subst ey;rw[R.bind_ok,Nv,O.of_ok]at q';cases e4:plD ds.length j with
          |none=>rw[e4]at q';exact q'.elim
          |some n=>
            rw[e4]at q';refine⟨a,xs,j,n,rfl,rfl,s2 _ _ hh,?_,q' _ _ ((x'.grow s2).upd hi q (Reps.set (rv.same s2) n (r.same s2)))⟩;rw[r.length];exact e4
        | _=>exact q'.elim⟩
theorem lY{as:Ov.D->Rho->R Rho}{g:TG}(hGT:GT X.K CL as g)(hg:PG X tg g)(he:SE X CL W e fe)(hs:Hm [tg] e pos.line X.env=pure Ae)(hw:Gj [tg] e X.env=pure Af)(h1:(CG [tg] X.env).map (·.2)=[assign tg X.env])(hax:∀ d U x,as d U≠.exn x):SS X CL W (.Assign [tg] e pos) (λU=>O.of U (fe U) λd=>O.of U (as d U) λU'=>.next U'):=λFz B pI s Y H D I ⟨U,x,p⟩=>
 WF (he (CQ B U Y)) hg hs hw h1 pI s Y H D I ⟨x.aok,U,x.good,CT.ex x p λd v H' _ s rv x' q'=>by
  cases ea:as d U with
  |bad=>rw[ea]at q';exact q'.elim
  |exn z=>exact absurd ea (hax _ _ z)
  |ok U2=>
   rw[ea,O.of_ok]at q';exact hGT Fz B U Y H' v d U2 _ x' rv ea λY' x3=>q' Y' H' x3⟩
theorem nU{rest:Ac BA}{f:Rho->O}(i:Ag)(h:SSs X CL W rest f):SSs X CL W rest (λU=>(match U[i]? with
   |some (Ab (d,Aa))=>O.next (U.set i (Ab (d,Ae)))
   | _=>O.next U).seq f):=λFz B=>PSs.weak (h Fz B) λD Y H ⟨U,x,p⟩=>by
 dsimp only at p;split at p
 .rename_i d e;exact⟨_,x.rel e,p⟩
 .exact⟨U,x,p⟩
end
section
variable{X:Cx}{CL:ClA}{W:XW}{pos:A6}{e k o:Ao}{fe fk:Rho->R D}{i:Ag}{apos cpos:A6}
def dC:V->Ac V->Hp->VK->Prop:=λx vs H Q=>∃ l xs j y,x=.ref l/\vs=[.int j,y]/\H l=Ab (.lst xs)/\xs.length+1<=sizeLine/\0<=j/\j.toNat<=xs.length/\Q .non (upd H l (.lst (xs.take j.toNat++y::xs.drop j.toNat)))
theorem Bj.take{its:Ac Ai}(r:Bj xs its):∀ n,Bj (xs.take n) (its.take n):=by
 induction r with
 |nil=>intro n;simp;exact .nil
 |cons h _ ih=>
  intro n;cases n with
  |zero=>exact .nil
  |succ n=>exact .cons h (ih n)
theorem Bj.drop{its:Ac Ai}(r:Bj xs its):∀ n,Bj (xs.drop n) (its.drop n):=by
 induction r with
 |nil=>intro n;simp;exact .nil
 |cons h t ih=>
  intro n;cases n with
  |zero=>exact .cons h t
  |succ n=>exact ih n
theorem yU:MtM X "list.insert" dC:=by
 intro pI s Y H x vs v us Q I rx rv h;obtain⟨l,xs,j,y,rfl,rfl,hH,hz,j0,j1,q⟩:=h;cases rx;cases rv with
 |cons rj rv=>
  obtain⟨t,rfl⟩:=rj;obtain⟨u,rfl,ru⟩:=Bj.one rv;obtain⟨z,its,n,r,hl,e⟩:=I.lstM hH;have ln:=r.length;have hn:=Kz;have fit:¬ (!Builtin.List.listFitsIndex j)=Aa:=by
   unfold Builtin.List.listFitsIndex;simp;constructor<;>omega
  refine Jg F.slot_list_insert ⟨_,e,rfl⟩ F.entry_list_insert (F.args_list_insert_3 _ _ _) (PySem.AutoListH.list_insert_list_int_val_1 l its.toArray n j t u fit (by rw[AD];omega)) ⟨e,?_⟩
  refine⟨.non,_,I.lset (its':=its.take j.toNat++u::its.drop j.toNat) hH e ?_ ((r.take _).append (.cons ru (r.drop _))) ?_,rfl,q⟩
  .have hk:(if j<0 then (j+((its.toArray.size:Ag):Ad)).toNat else min j.toNat its.toArray.size)=j.toNat:=by
    rw[AW (by omega),AD,Ir (by omega)]
   show (its.toArray.extract 0 _).push u++its.toArray.extract _=_;rw[hk]
   apply Array.ext'
   simp;exact D6 (by rw[Fe];exact A5 _)
  .simp only[BU,Ez,BE,Fe];omega
theorem uR(ho:PE X o (IQ i))(hk:ST X CL W k fk)(he:SE X CL W e fe)(hbase:Gh o "insert" X.env (eval o X.env)=eval o X.env)(hfew:((CU cpos (AI [k,e] X.env)).all (λx=>!x.1)&&(Jc cpos (Hc [] X.env)).all (λx=>x.1.isSome)&&decide ([k,e].length+([]:Ac Eg).length+(if ([]:Ac Eg).isEmpty then 0 else 1)<30))=Aa)(hline:(apos.endLine==cpos.line)=Aa)(hs:AI [k,e] X.env=(Ae,eval k X.env)::AI [e] X.env)(hs2:AI [e] X.env=[(Ae,eval e X.env)])(hpl:(CU cpos (AI [e] X.env)).any (·.1)=Ae)(hsw:DU (.Call (.Attribute o "insert" apos) [k,e] [] cpos) Af pos.line X.env=pure Ae):
  SS X CL W (.Expr (.Call (.Attribute o "insert" apos) [k,e] [] cpos) pos) (λU=>O.of U (Dc U i) λxs=>O.of U ((fk U).bind EX) λj=>O.of U (fe U) λd=>if (Do (xs.length+1)&&decide (0<=j)&&decide (j<=xs.length))=Aa then .next (U.set i (Ab (.lst (xs.take j.toNat++d::xs.drop j.toNat),Aa))) else .bad):=λFz B pI s Y H D I ⟨U,x,p⟩=>by
 refine ME (Oz EK PySem.F.slot_list_insert PySem.F.type_list_insert yU ho (Fj (hk (CQ B U Y)) (Fj (he (CQ B U Y)) G5 hs2) hs) hbase hfew hline hs hpl) hsw pI s Y H D I ?_;dsimp only at p;cases e1:Dc U i with
 |bad=>rw[e1]at p;exact p.elim
 |exn z=>exact(Mw e1).elim
 |ok ds=>
  rw[e1,O.of_ok]at p;have hi:=MG e1;obtain⟨a,xs,ds',q,e2,ha,hh,r⟩:=x.good.ow i _ hi;cases e2;refine⟨_,q,.inl ⟨rfl,xs,SqL.of hh⟩,x.aok,U,x.good,?_⟩;cases e3:fk U with
  |bad=>rw[e3]at p;exact p.elim
  |exn z=>rw[e3]at p;exact λH2 s2=>p H2 λb o z=>s2 _ _ (x.same b o z)
  |ok dk=>
   rw[e3,R.bind_ok]at p;intro y H1 s1 ry;cases dk with
   |int j=>
    have ey:=ry.int_of;subst ey;rw[Nv,O.of_ok]at p;have x1:=x.grow s1;refine⟨x1.aok,U,x1.good,CT.ex x1 p λd v H' _ s2 rv x' q'=>?_⟩
    split at q'
    .rename_i hz;simp only[Ap,Bh]at hz;obtain⟨⟨h1,h2⟩,h3⟩:=hz;have h1:=Iy h1;have r':=r.same (s1.trans s2);have ln:=r.length;exact⟨a,xs,j,v,rfl,rfl,s2 _ _ (s1 _ _ hh),by omega,h2,by omega,q' _ _ (x'.upd hi q ((Reps.take _ r').append ⟨rv,Reps.drop _ r'⟩))⟩
    .exact q'.elim
   |_=>exact p.elim
end
section
variable{prog:AU}{w:AH}{A:Bc}{E:Vq}{s:As}
theorem yP{j t:Am}{x:Ai}{Q:Vq}(st:s.heap.IsTupleIter j t k)(sq:s.heap.IsTuple t its)(at_:its[k]?=Ab x)(go:∀ h2,h2.IsTupleIter j t (k+1)->EC j s.heap h2->Q x {s with heap:=h2}):AC (model prog w) A (A2 (.ref j)) Q E s:=by
 obtain⟨oj,gj,cj,dj⟩:=id st;obtain⟨ot,gt,_,nt,dt⟩:=sq;show AC _ _ (callSpecial? _ _ >>= _) _ _ _;refine Ah (Cm st.typeIs Ei (CW Ei st.typeIs YV ?_ (YQ _)));show AC _ _ (field (.ref j) 0 >>= _) _ _ _;refine Ah (Bl gj dj (x:=.ref t) rfl ?_);show AC _ _ (field (.ref j) 1 >>= _) _ _ _;refine Ah (Bl gj dj (x:=.int k 0) rfl ?_);refine Ah (BX gt dt ?_);simp only[El,at_];exact Ah (FW gj dj (by simp) (Aw ⟨x,rfl,Aw (go _ ⟨_,Ci _ gj (E8 (DF dj _)),(Y_4 ..).trans cj,by rw[DF dj];simp[Cw]⟩ (Fx ..))⟩))
theorem gG{j t:Am}{Q:Vq}(calm:A.handled=Af)(st:s.heap.IsTupleIter j t k)(sq:s.heap.IsTuple t its)(at_:its[k]?=Af)(up:∀ h2 e,Iw j s.heap h2->(∃ o,h2.get? e=Ab o/\o.cls=.type "StopIteration")->E (.ref e) {s with heap:=h2}):AC (model prog w) A (A2 (.ref j)) Q E s:=by
 obtain⟨oj,gj,cj,dj⟩:=id st;obtain⟨ot,gt,_,nt,dt⟩:=sq;show AC _ _ (callSpecial? _ _ >>= _) _ _ _;refine Ah (Cm st.typeIs Ei (CW Ei st.typeIs YV ?_ (YQ _)));show AC _ _ (field (.ref j) 0 >>= _) _ _ _;refine Ah (Bl gj dj (x:=.ref t) rfl ?_);show AC _ _ (field (.ref j) 1 >>= _) _ _ _;refine Ah (Bl gj dj (x:=.int k 0) rfl ?_);refine Ah (BX gt dt ?_);simp only[El,at_];refine Ah (GO (Ah (FW gj dj (by simp) ?_)))
 refine Ah ?_;simp only[newExc,newTuple];refine Ah (CO ?_ (by size_fits))
 refine Ah (m:=Zy _ _) (wpAny_of_eq (a:=.none) (by first|rfl|(simp only[Zy];rfl)) (CO ?_ (by size_fits)))
 simp only[raiseNew];refine Ah (wpAny_handled ?_)
 first|rw[show A.in1.handled=Af from calm]|rw[calm]
 exact Ah (Aw (wpAny_throw (up _ _ (((Fx ..).extBut.push _).push _) ⟨_,AB _ rfl,rfl⟩)))
end
structure Dw (prog:AU) (w:AH) (A:Bc) (j:Am) (fp:Ac Am) (n:Ag) (P:Ag->Ai->Prop) (S:Ag->AM->Prop):Prop where
 frame:∀ i h h2,S i h->(∀ c∈fp,∀ o,h.get? c=Ab o->h2.get? c=Ab o)->S i h2
 item:∀ i (s:As) (Q:Vq) (E:Vq),i<n->S i s.heap->(∀ x h2 tk,P i x->S (i+1) h2->EC j s.heap h2->Q x {s with heap:=h2,toks:=tk})->AC (model prog w) A (A2 (.ref j)) Q E s
 done:∀ i (s:As) (Q:Vq) (E:Vq),n<=i->S i s.heap->(∀ h2 e,Iw j s.heap h2->(∃ o,h2.get? e=Ab o/\o.cls=.type "StopIteration")->E (.ref e) {s with heap:=h2})->AC (model prog w) A (A2 (.ref j)) Q E s
def EZ(t:Ak)(h:AM)(j l:Am)(i:Ag):Prop:=match t with
  |true=>h.IsTupleIter j l i
  |false=>h.IsListIter j l i
def Cy(t:Ak)(h:AM)(l:Am)(its:A1 Ai):Prop:=match t with
  |true=>h.IsTuple l its
  |false=>h.IsList l its
theorem IF{A:Bc}(calm:A.handled=Af)(t:Ak)(j l:Am)(ne:l≠j)(its:A1 Ai):Dw prog w A j [j,l] its.size (λi v=>its[i]?=Ab v) (λi h=>EZ t h j l i/\Cy t h l its):=by
 cases t with
 |true=>exact⟨λ_ _ _ z k=>⟨z.1.at λo e=>k j (by simp) o e,z.2.at λo e=>k l (by simp) o e⟩,λi s Q E hi z q=>yP z.1 z.2 (x:=its[i]) (by simp[hi]) λh2 z2 sb=>q _ h2 s.toks (by simp[hi]) ⟨z2,z.2.extBut sb.extBut ne⟩ sb,λi s Q E hi z q=>gG calm z.1 z.2 (by simp[hi]) q⟩
 |false=>exact⟨λ_ _ _ z k=>⟨z.1.at λo e=>k j (by simp) o e,z.2.at λo e=>k l (by simp) o e⟩,λi s Q E hi z q=>wpAny_nextOf_list_item z.1 z.2 (x:=its[i]) (by simp[hi]) λh2 z2 sb=>q _ h2 s.toks (by simp[hi]) ⟨z2,z.2.extBut sb.extBut ne⟩ sb,λi s Q E hi z q=>wpAny_nextOf_list_end calm z.1 z.2 (by simp[hi]) q⟩
theorem nb1{I l c:Ag}(b:l<I)(h:c∈[I,l])(j:Ag):c≠I+(j+1):=by
 have h':c=I\/c=l:=by simpa using h
 omega
theorem nb2{I l c:Ag}(b:l<I)(h:c∈[I+1,l]):c≠I/\c≠I+3/\c≠I+4:=by
 have h':c=I+1\/c=l:=by simpa using h
 omega
theorem nij{I i j:Ag}(h:i≠j):I+i≠I+j:=by omega
theorem ni0{I i:Ag}(h:i≠0):I+i≠I:=by omega
section
variable{prog:AU}{w:AH}{A:Bc}{E:Vq}{s:As}
theorem hG{I l1 l2 n1 n2 k:Ag}{a b:Ai}{Q:Vq}(b1:l1<I)(b2:l2<I)(D1:Dw prog w A I [I,l1] n1 P1 S1)(D2:Dw prog w A (I+1) [I+1,l2] n2 P2 S2)(hz:GK s.heap (I+4) (I+2) (I+3) .none)(hI:E7 s.heap (I+2) (.ref I) (.ref (I+1)))(hO:E7 s.heap (I+3) a b)(g1:S1 k s.heap)(g2:S2 k s.heap)(k1:k<n1)(k2:k<n2)(go:∀ x y h2 tk,P1 k x->P2 k y->GK h2 (I+4) (I+2) (I+3) (Cw s.heap.objs.size)->E7 h2 (I+3) x y->S1 (k+1) h2->S2 (k+1) h2->E7 h2 s.heap.objs.size x y ->
   (∀ c o,c∉[I,I+1,I+3,I+4]->s.heap.get? c=Ab o->h2.get? c=Ab o)->Q (.ref s.heap.objs.size) {s with heap:=h2,toks:=tk}):AC (model prog w) A (Builtin.«zip.__next__» ⟨[.ref (I+4)],[]⟩) (λfin s'=>∃ v,fin=.done (.ret v)/\Q v s') E s:=by
 refine Ah (m:=field (.ref (I+4)) 2) (Bl hz rfl (x:=.bool Ae) rfl ?_);refine Ah (m:=field (.ref (I+4)) 3) (Bl hz rfl (x:=.ref (I+2)) rfl (Ah (BX hI rfl ?_)));refine Ah (m:=A4 (.ref (I+4))) ?_;simp only[A4];refine Ah (Bl hz rfl (x:=.none) rfl (Aw ?_));rw[AO rfl];refine Ah (GO (Ah (Bl hz rfl (x:=.ref (I+3)) rfl (Ah (Cf hz (by simp) λp1 z1 e1=>Ah ?_)))))
 have z1':GK p1 (I+4) (I+2) (I+3) .ellipsis:=z1;simp only[Gm,GF,Eb,D4];refine Ah (Ah (DV (Ah (m:=A2 (.ref I)) (D1.item k _ _ _ k1 (D1.frame _ _ _ g1 λc hc o q=>e1.extBut c o (nb1 b1 hc 3) q) λx p2 t2 px s2 e2=>Aw ?_))))
 have o2:E7 p2 (I+3) a b:=e2.extBut _ _ (ni0 (by decide)) (e1.extBut _ _ (nij (by decide)) hO)
 refine Ah (BX o2 rfl (Ah (GQ o2 λp3 o3 e3=>Ah (Gc (Aw ?_)))))
 have o3':E7 p3 (I+3) x b:=o3;have g2':S2 k p3:=D2.frame _ _ _ g2 λc hc o q=>e3.extBut c o (nb2 b2 hc).2.1 (e2.extBut c o (nb2 b2 hc).1 (e1.extBut c o (nb2 b2 hc).2.2 q))
 refine Ah (Ah (DV (Ah (m:=A2 (.ref (I+1))) (D2.item k _ _ _ k2 g2' λy p4 t4 py s4 e4=>Aw ?_))))
 have o4:E7 p4 (I+3) x b:=e4.extBut _ _ (nij (by decide)) o3'
 refine Ah (BX o4 rfl (Ah (GQ o4 λp5 o5 e5=>Ah (Gc (Aw (Aw ?_))))))
 have o5':E7 p5 (I+3) x y:=o5;have sz:p5.objs.size=s.heap.objs.size:=by rw[e5.1,e4.1,e3.1,e2.1,e1.1]
 have z5:GK p5 (I+4) (I+2) (I+3) .ellipsis:=e5.extBut _ _ (nij (by decide)) (e4.extBut _ _ (nij (by decide)) (e3.extBut _ _ (nij (by decide)) (e2.extBut _ _ (ni0 (by decide)) z1')))
 refine Ah (BX o5' rfl (Ah (IX ?_)));refine Ah (m:=Dg (.ref (I+4)) (.ref p5.objs.size)) ?_;simp only[Dg];have z6:GK (p5.push { cls:=.type "tuple",data:=.seq #[x,y] }) (I+4) (I+2) (I+3) .ellipsis:=Ar _ z5;refine Ah (Cf z6 (by simp) λp7 z7 e7=>?_)
 have z7':GK p7 (I+4) (I+2) (I+3) (Cw p5.objs.size):=z7;refine Cf z7' (by simp) λp8 z8 e8=>Aw ⟨_,rfl,?_⟩
 have z8':GK p8 (I+4) (I+2) (I+3) (Cw p5.objs.size):=z8;have lt5:I+4<p5.objs.size:=AE z5;have up:∀ c o,c≠I+4->p5.get? c=Ab o->p8.get? c=Ab o:=λc o nc q=>e8.extBut _ _ nc (e7.extBut _ _ nc (Ar _ q))
 have t8:E7 p8 p5.objs.size x y:=e8.extBut _ _ (De lt5) (e7.extBut _ _ (De lt5) (AB _ rfl));have a1:S1 (k+1) p8:=D1.frame _ _ _ s2 λc hc o q=>up c o (nb1 b1 hc 3) (e5.extBut c o (nb1 b1 hc 2) (e4.extBut c o (nb1 b1 hc 0) (e3.extBut c o (nb1 b1 hc 2) q)))
 have a2:S2 (k+1) p8:=D2.frame _ _ _ s4 λc hc o q=>up c o (nb2 b2 hc).2.2 (e5.extBut c o (nb2 b2 hc).2.1 q)
 have kp:∀ c o,c∉[I,I+1,I+3,I+4]->s.heap.get? c=Ab o->p8.get? c=Ab o:=λc o nc q=>by
  simp only[Av,AR,BQ,DB]at nc;exact up c o nc.2.2.2 (e5.extBut c o nc.2.2.1 (e4.extBut c o nc.2.1 (e3.extBut c o nc.2.2.1 (e2.extBut c o nc.1 (e1.extBut c o nc.2.2.2 q)))))
 have q:=go x y p8 t4 px py (by rw[<-sz];exact z8') (up _ _ (nij (by decide)) o5') a1 a2 (by rw[<-sz];exact t8) kp
 rw[<-sz]at q;exact q
theorem kP{I l1 l2 n1 n2 k:Ag}{a b:Ai}{Q:Fin->As->Prop}(b1:l1<I)(b2:l2<I)(D1:Dw prog w A I [I,l1] n1 P1 S1)(D2:Dw prog w A (I+1) [I+1,l2] n2 P2 S2)(hz:GK s.heap (I+4) (I+2) (I+3) .none)(hI:E7 s.heap (I+2) (.ref I) (.ref (I+1)))(hO:E7 s.heap (I+3) a b)(g1:S1 k s.heap)(g2:S2 k s.heap)(hk:n1<=k\/(k<n1/\n2<=k))(up:∀ h2 e tk,(∀ c o,c∉[I,I+1,I+3,I+4]->s.heap.get? c=Ab o->h2.get? c=Ab o)->(∃ o,h2.get? e=Ab o/\o.cls=.type "StopIteration")->E (.ref e) {s with heap:=h2,toks:=tk}):AC (model prog w) A (Builtin.«zip.__next__» ⟨[.ref (I+4)],[]⟩) Q E s:=by
 refine Ah (m:=field (.ref (I+4)) 2) (Bl hz rfl (x:=.bool Ae) rfl ?_);refine Ah (m:=field (.ref (I+4)) 3) (Bl hz rfl (x:=.ref (I+2)) rfl (Ah (BX hI rfl ?_)));refine Ah (m:=A4 (.ref (I+4))) ?_;simp only[A4];refine Ah (Bl hz rfl (x:=.none) rfl (Aw ?_));rw[AO rfl];refine Ah (GO (Ah (Bl hz rfl (x:=.ref (I+3)) rfl (Ah (Cf hz (by simp) λp1 z1 e1=>Ah ?_)))))
 have z1':GK p1 (I+4) (I+2) (I+3) .ellipsis:=z1;simp only[Gm,GF,Eb,D4];have g1':S1 k p1:=D1.frame _ _ _ g1 λc hc o q=>e1.extBut c o (nb1 b1 hc 3) q
 rcases hk with k1|⟨k1,k2⟩
 .refine Ah (Ah (DV (Ah (m:=A2 (.ref I)) (D1.done _ _ _ _ k1 g1' λp2 e e2 he=>?_))))
  obtain⟨oe,hoe,hce⟩:=he;have z2:GK p2 (I+4) (I+2) (I+3) .ellipsis:=e2 _ _ (ni0 (by decide)) z1'
  have ne:e≠I+4:=λx=>by subst x;rw[z2]at hoe;cases hoe;simp at hce
  refine Cf z2 (by simp) λp3 _ e3=>up p3 e s.toks (λc o nc q=>?_) ⟨oe,e3.extBut _ _ ne hoe,hce⟩
  simp only[Av,AR,BQ,DB]at nc;exact e3.extBut c o nc.2.2.2 (e2 c o nc.1 (e1.extBut c o nc.2.2.2 q))
 .refine Ah (Ah (DV (Ah (m:=A2 (.ref I)) (D1.item k _ _ _ k1 g1' λx p2 t2 px s2 e2=>Aw ?_))))
  have o2:E7 p2 (I+3) a b:=e2.extBut _ _ (ni0 (by decide)) (e1.extBut _ _ (nij (by decide)) hO)
  refine Ah (BX o2 rfl (Ah (GQ o2 λp3 o3 e3=>Ah (Gc (Aw ?_)))))
  have g2':S2 k p3:=D2.frame _ _ _ g2 λc hc o q=>e3.extBut c o (nb2 b2 hc).2.1 (e2.extBut c o (nb2 b2 hc).1 (e1.extBut c o (nb2 b2 hc).2.2 q))
  refine Ah (Ah (DV (Ah (m:=A2 (.ref (I+1))) (D2.done _ _ _ _ k2 g2' λp4 e e4 he=>?_))))
  obtain⟨oe,hoe,hce⟩:=he;have z4:GK p4 (I+4) (I+2) (I+3) .ellipsis:=e4 _ _ (nij (by decide)) (e3.extBut _ _ (nij (by decide)) (e2.extBut _ _ (ni0 (by decide)) z1'))
  have ne:e≠I+4:=λx=>by subst x;rw[z4]at hoe;cases hoe;simp at hce
  refine Cf z4 (by simp) λp5 _ e5=>up p5 e t2 (λc o nc q=>?_) ⟨oe,e5.extBut _ _ ne hoe,hce⟩
  simp only[Av,AR,BQ,DB]at nc;exact e5.extBut c o nc.2.2.2 (e4 c o nc.2.1 (e3.extBut c o nc.2.2.1 (e2.extBut c o nc.1 (e1.extBut c o nc.2.2.2 q))))
end
def SqX(t:Ak)(K:Fg)(H:Hp)(a:Am)(xs:Ac V):Prop:=match t with
  |true=>SqT K H a xs
  |false=>SqL K H a xs
theorem Hs(I:Inv X pI Y H s)(h:SqX t X.K H a xs):∃ its:Ac Ai,Bj xs its/\Cy t s.heap a its.toArray/\xs.length<=sizeLine:=by
 cases t with
 |true=>
  obtain⟨its,rv,p,z⟩:=I.tuple h;exact⟨its,rv,p,z⟩
 |false=>
  obtain⟨its,rv,p,z⟩:=I.list h;exact⟨its,rv,p.isList,z⟩
theorem Qb{ys:Ac V}(I:Inv X pI Y H s)(h:SqX t X.K H a xs)(h2:SqX t X.K H a ys):xs=ys:=by
 cases t with
 |true=>exact I.tuple_inj h h2
 |false=>exact I.list_inj h h2
noncomputable def Itz(K:Fg)(t1 t2:Ak)(a b:Am):It:=
  ⟨λi H=>∃ xs ys x y,SqX t1 K H a xs/\SqX t2 K H b ys/\xs[i]?=Ab x/\ys[i]?=Ab y,
   λi H v H'=>∃ p x y,H p=Af/\v=.ref p/\(∀ xs,SqX t1 K H a xs->xs[i]?=Ab x)/\(∀ ys,SqX t2 K H b ys->ys[i]?=Ab y)/\H'=upd H p (.tup [x,y]),
   λi H=>∃ xs ys,SqX t1 K H a xs/\SqX t2 K H b ys/\(xs.length<=i\/(i<xs.length/\ys.length<=i))⟩
theorem Inv.turnedL(ch:Ac Am)(I:Inv X pI Y H s)(k:∀ b o,b∉ch->s.heap.get? b=Ab o->h'.get? b=Ab o)(hf:∀ b∈ch,G9 X pI H b):Inv X pI Y H {s with heap:=h',toks:=t'}:=by
 have nit:∀ b u,H b=Ab u->b∉ch:=λb u e z=>by rw[(hf b z).1]at e;cases e
 refine I.step (g':=s.gens) (d':=s.drawn) (ch:=ch) (λb hb=>⟨(hf b hb).2.2.2.1,(hf b hb).2.1,(hf b hb).2.2.2.2.1,(hf b hb).2.2.2.2.2⟩) (λb o _ _ hc e _=>k b o hc e) (λb o _ _ hc e _=>⟨o.slots,k b o hc e⟩) (λ_ _ _ _ n=>n)
  (λb o hc e=>⟨o,k b o hc e⟩) (λ_ _ e=>e) (λ_ _ _ e=>e) (λb ps e=>⟨#[],by rw[e];simp⟩) (λm ⟨o,es,ep,ho,r⟩=>⟨o,es,ep,k _ o (λz=>(hf _ z).2.1 rfl) ho,r⟩) (λb u e=>(I.hok b u e).stay (λc v hc q=>k c v ?_ q) (λ_ q=>q) λ_ _ q=>q) I.bare
 rcases hc with z|z
 .rw[z];exact nit b u e
 .exact nit c _ z
def zTn(t1 t2:Ak)(I l1 l2:Ag)(i:Ag)(h:AM):Prop:=GK h (I+4) (I+2) (I+3) .none/\E7 h (I+2) (.ref I) (.ref (I+1))/\(∃ a b,E7 h (I+3) a b)/\EZ t1 h I l1 i/\EZ t2 h (I+1) l2 i
noncomputable def zFp(I:Ag):Ac Am:=[I,I+1,I+2,I+3,I+4]
theorem EZ.obj{j:Am}(z:EZ t h j l i):∃ o,h.get? j=Ab o/\∀ v,o.data≠.cell v:=by
 cases t with
 |true=>obtain⟨o,e,c,d⟩:=z;exact⟨o,e,λv z=>by rw[d]at z;cases z⟩
 |false=>obtain⟨o,e,c,d⟩:=z;exact⟨o,e,λv z=>by rw[d]at z;cases z⟩
theorem EZ.at'{j:Am}(z:EZ t h j l i)(k:∀ o,h.get? j=Ab o->h2.get? j=Ab o):EZ t h2 j l i:=by
 cases t with
 |true=>exact PySem.Heap.IsTupleIter.at z k
 |false=>exact PySem.Heap.IsListIter.at z k
theorem iJ(t1 t2:Ak)(I l1 l2:Ag)(b1:l1<I)(b2:l2<I):Turn P w K (.Tuple es n pos) (Itz K t1 t2 l1 l2) (zFp I) (I+4) (zTn t1 t2 I l1 l2) where
  mem:=by simp[zFp]
  obj:=λi h ⟨z1,z2,⟨a,b,z3⟩,z4,z5⟩ c hc=>by
    simp only[zFp,Av,AR,BQ]at hc;rcases hc with rfl|rfl|rfl|rfl|rfl
    · exact z4.obj
    · exact z5.obj
    · exact⟨_,z2,λv z=>by cases z⟩
    · exact⟨_,z3,λv z=>by cases z⟩
    · exact⟨_,z1,λv z=>by cases z⟩
  keep:=λi h h2 ⟨z1,z2,⟨a,b,z3⟩,z4,z5⟩ k=>⟨k _ (by simp[zFp]) _ z1,k _ (by simp[zFp]) _ z2,⟨a,b,k _ (by simp[zFp]) _ z3⟩,z4.at' λo e=>k _ (by simp[zFp]) o e,z5.at' λo e=>k _ (by simp[zFp]) o e⟩
  item:=by
    intro X hP hw hK hc i pI s Y H E Iv hf ⟨z1,z2,⟨a,b,z3⟩,z4,z5⟩ ⟨xs,ys,x,y,q1,q2,hx,hy⟩;subst hP hw hK;obtain⟨us,rx,sx,_⟩:=Hs Iv q1;obtain⟨vs,ry,sy,_⟩:=Hs Iv q2;obtain⟨u,hu,ru⟩:=rx.get hx;obtain⟨v,hv,rv⟩:=ry.get hy;have hT:s.TypeIs (.ref (I+4)) "zip" := ⟨_,z1,rfl⟩;have calm:X.A.in1.handled=Af:=Iv.ok.hd hc;show AC _ _ (D0 _) _ _ _;simp only[D0];refine Ah (Fq (Cm hT CF (CW CF hT EB (hG (k:=i) b1 b2 (IF calm t1 I l1 (AZ b1) us.toArray) (IF calm t2 (I+1) l2 (AZ (CN b2)) vs.toArray) z1 z2 z3 ⟨z4,sx⟩ ⟨z5,sy⟩
      (by have:=(Be.mp hu).1;simpa using this) (by have:=(Be.mp hv).1;simpa using this) λx' y' h2 tk px py c1 c2 c3 c4 c5 kp=>Aw ?_) (Em _))))
    have ex:x'=u:=by
      have px':us[i]?=Ab x':=by simpa using px
      rw[hu]at px';exact(BJ px').symm
    have ey:y'=v:=by
      have py':vs[i]?=Ab y':=by simpa using py
      rw[hv]at py';exact(BJ py').symm
    subst ex ey;refine⟨_,rfl,wpAny_letOwnedTupleGo_zip c1 λh3 d1 sb=>?_⟩
    have lt4:I+4<s.heap.objs.size:=AE z1;have kp3:∀ c o,c∉zFp I->s.heap.get? c=Ab o->h3.get? c=Ab o:=λc o nc q=>by
      simp only[zFp,Av,AR,BQ,DB]at nc;exact sb.extBut c o nc.2.2.2.2 (kp c o (by simp only[Av,AR,BQ,DB];exact⟨nc.1,nc.2.1,nc.2.2.2.1,nc.2.2.2.2⟩) q)
    have nT:∀ c∈zFp I,c≠s.heap.objs.size:=λc hc z=>by
      have:c<=I+4:=by
        simp only[zFp,Av,AR,BQ]at hc;rcases hc with z|z|z|z|z<;>rw[z]<;>simp
      exact absurd (z ▸ D7 this lt4) (Bw _)
    have I1:Inv X pI Y (upd H s.heap.objs.size (.tup [x,y])) { s with heap:=s.heap.push { cls:=.type "tuple",data:=.seq #[x',y'] },toks:=s.toks }:=
      Iv.laid (λ_ _ q=>Ar _ q) (A5 _) ⟨(by decide:2<=sizeLine),[x',y'],.cons ru (.cons rv .nil),⟨_,AB _ rfl,rfl,_,rfl⟩⟩
    have hf':∀ b∈zFp I,G9 X pI (upd H s.heap.objs.size (.tup [x,y])) b:=λb hb=>⟨by rw[Dz (nT b hb)];exact(hf b hb).1,(hf b hb).2⟩
    have I2:Inv X pI Y (upd H s.heap.objs.size (.tup [x,y])) {s with heap:=h3,toks:=tk}:=Inv.turnedL (s:={ s with heap:=s.heap.push { cls:=.type "tuple",data:=.seq #[x',y'] },toks:=s.toks }) (zFp I) I1 (λc o nc q=>by
      rcases Y_3 q with ⟨e1,e2⟩|e1
      · subst e1 e2;exact sb.extBut _ _ (De lt4) c5
      · exact kp3 c o nc e1) hf'
    refine⟨.ref s.heap.objs.size,_,I2,rfl,⟨s.heap.objs.size,x,y,Iv.fresh,rfl,λzs hz=>by rw[Qb Iv hz q1];exact hx,λzs hz=>by rw[Qb Iv hz q2];exact hy,rfl⟩,⟨d1,sb.extBut _ _ (nij (by decide)) (kp _ _ (by simp) z2),⟨_,_,sb.extBut _ _ (nij (by decide)) c2⟩,c3.1.at' λo q=>sb.extBut _ o (Br (ni0 (by decide))) q,c4.1.at' λo q=>sb.extBut _ o (nij (by decide)) q⟩,λb hb=>(hf' b hb).1⟩
  done:=by
    intro X hP hw hK hc i pI s Y H E Iv hf ⟨z1,z2,⟨a,b,z3⟩,z4,z5⟩ ⟨xs,ys,q1,q2,hk⟩;subst hP hw hK;obtain⟨us,rx,sx,_⟩:=Hs Iv q1;obtain⟨vs,ry,sy,_⟩:=Hs Iv q2;have hT:s.TypeIs (.ref (I+4)) "zip" := ⟨_,z1,rfl⟩;have calm:X.A.in1.handled=Af:=Iv.ok.hd hc;have e1:=rx.length;have e2:=ry.length;simp only[D0];refine Ah (Fq (Cm hT CF (CW CF hT EB (kP (k:=i) b1 b2 (IF calm t1 I l1 (AZ b1) us.toArray) (IF calm t2 (I+1) l2 (AZ (CN b2)) vs.toArray) z1 z2 z3 ⟨z4,sx⟩ ⟨z5,sy⟩
      (by simp only[AD];omega) λh2 e tk kp he=>?_) (Em _))))
    obtain⟨o,ho,hcl⟩:=he;refine Ah (ZI (T := "StopIteration") (b:=Aa) ⟨o,ho,hcl⟩ Zz (Aw ⟨rfl,Inv.turnedL [I,I+1,I+3,I+4] Iv (λc o nc q=>kp c o nc q) λc hc=>hf c ?_⟩))
    simp only[Av,AR,BQ]at hc;simp only[zFp,Av,AR,BQ];rcases hc with rfl|rfl|rfl|rfl<;>simp
  self:=λ_ _ _ _ _ st h=>ZK st.1 h
section
variable{prog:AU}{w:AH}{A:Bc}{E:Vq}{s:As}
noncomputable def itO(t:Ak)(l:Am):Di:=match t with
  |true=>{ cls:=.type "tuple_iterator",data:=.fields #[.ref l,.int 0 0] }
  |false=>{ cls:=.type "list_iterator",data:=.fields #[.ref l,.int 0 0] }
theorem JZ{Q:Vq}(h:Cy t s.heap l its)(q:Q (.ref s.heap.objs.size) {s with heap:=s.heap.push (itO t l)}):AC (model prog w) A (JP (.ref l)) Q E s:=by
 cases t with
 |true=>exact ET h q
 |false=>exact En h q
theorem Cy.push(z:Cy t h l its)(o:Di):Cy t (h.push o) l its:=by
 cases t with
 |true=>exact PySem.Heap.IsTuple.at z λ_ e=>Ar _ e
 |false=>exact PySem.Heap.IsList.at z λ_ e=>Ar _ e
theorem Lp{j:Am}(e:h.get? j=Ab (itO t l)):EZ t h j l 0:=by
 cases t with
 |true=>exact⟨_,e,rfl,rfl⟩
 |false=>exact⟨_,e,rfl,rfl⟩
theorem Lh(t:Ak)(l:Am):(itO t l).isFreed=Ae:=by cases t<;>rfl
noncomputable abbrev zh2(t1 t2:Ak)(h:AM)(l1 l2:Am):AM:=(h.push (itO t1 l1)).push (itO t2 l2)
noncomputable abbrev zh3(t1 t2:Ak)(h:AM)(l1 l2:Am):AM:=(zh2 t1 t2 h l1 l2).push { cls:=.type "tuple",data:=.seq #[.ref h.objs.size,.ref (h.push (itO t1 l1)).objs.size] }
noncomputable abbrev zh4(t1 t2:Ak)(h:AM)(l1 l2:Am):AM:=(zh3 t1 t2 h l1 l2).push { cls:=.type "tuple",data:=.seq #[.none,.none] }
noncomputable abbrev zh5(t1 t2:Ak)(h:AM)(l1 l2:Am):AM:=(zh4 t1 t2 h l1 l2).push { cls:=.type "zip",data:=.fields #[.none,.bool Ae,.bool Ae,.ref (zh2 t1 t2 h l1 l2).objs.size,.ref (zh3 t1 t2 h l1 l2).objs.size] }
theorem kO(t1 t2:Ak)(l1 l2:Am)(xs ys:A1 Ai):Meets (Builtin.«zip.__new__» ⟨[.type "zip",.ref l1,.ref l2],[]⟩) (λ_ R s=>Cy t1 s.heap l1 xs/\Cy t2 s.heap l2 ys/\R (.ok (.ret (.ref (zh4 t1 t2 s.heap l1 l2).objs.size))) {s with heap:=zh5 t1 t2 s.heap l1 l2}):=
 .of_wp λprog w A R s h=>by
  obtain⟨hp,g,d,tk,os⟩:=s;obtain⟨a1,a2,q⟩:=h;have hsub:=sub_zip;have L1:Cy t1 (Ga ⟨hp,g,d,tk,os⟩) l1 xs:=a1;have L2:Cy t2 (Ga ⟨hp.push (itO t1 l1),g,d,tk,os⟩) l2 ys:=a2.push _
  wp_walk using JZ L1,JZ L2
  exact⟨_,rfl,q⟩
theorem hJ{t1 t2:Ak}{l1 l2:Am}{xs:A1 Ai}{Q:Vq}(a1:Cy t1 s.heap l1 xs)(a2:Cy t2 s.heap l2 ys)(q:∀ h2,zTn t1 t2 s.heap.objs.size l1 l2 0 h2->(∀ c o,s.heap.get? c=Ab o->h2.get? c=Ab o)->Q (.ref (s.heap.objs.size+4)) {s with heap:=h2}):AC (model prog w) A (call (.type "zip") [.ref l1,.ref l2]) Q E s:=by
 refine JK YR (by decide) (F.typeCall_zip_2 _ _) (F.newCall_zip_2 _ _) (λobj=>F.args_object_init_3 obj _ _) YW (kO t1 t2 l1 l2 xs ys) ⟨a1,a2,?_⟩
 have s1:(s.heap.push (itO t1 l1)).objs.size=s.heap.objs.size+1:=Bk ..;have s2:(zh2 t1 t2 s.heap l1 l2).objs.size=s.heap.objs.size+2:=by rw[Bk,s1]
 have s3:(zh3 t1 t2 s.heap l1 l2).objs.size=s.heap.objs.size+3:=by rw[Bk,s2]
 have s4:(zh4 t1 t2 s.heap l1 l2).objs.size=s.heap.objs.size+4:=by rw[Bk,s3]
 have u5:∀ {c o},(zh4 t1 t2 s.heap l1 l2).get? c=Ab o->(zh5 t1 t2 s.heap l1 l2).get? c=Ab o:=λe=>Ar _ e
 have u4:∀ {c o},(zh3 t1 t2 s.heap l1 l2).get? c=Ab o->(zh5 t1 t2 s.heap l1 l2).get? c=Ab o:=λe=>u5 (Ar _ e)
 have u3:∀ {c o},(zh2 t1 t2 s.heap l1 l2).get? c=Ab o->(zh5 t1 t2 s.heap l1 l2).get? c=Ab o:=λe=>u4 (Ar _ e)
 have u2:∀ {c o},(s.heap.push (itO t1 l1)).get? c=Ab o->(zh5 t1 t2 s.heap l1 l2).get? c=Ab o:=λe=>u3 (Ar _ e)
 have g5:(zh5 t1 t2 s.heap l1 l2).get? (zh4 t1 t2 s.heap l1 l2).objs.size=Ab _:=AB _ rfl;have g4:(zh5 t1 t2 s.heap l1 l2).get? (zh3 t1 t2 s.heap l1 l2).objs.size=Ab _:=u5 (AB _ rfl);have g3:(zh5 t1 t2 s.heap l1 l2).get? (zh2 t1 t2 s.heap l1 l2).objs.size=Ab _:=u4 (AB _ rfl);have g2:(zh5 t1 t2 s.heap l1 l2).get? (s.heap.push (itO t1 l1)).objs.size=Ab _:=u3 (AB _ (Lh _ _));have g1:(zh5 t1 t2 s.heap l1 l2).get? s.heap.objs.size=Ab _:=u2 (AB _ (Lh _ _));show _/\_;rw[s2,s3,s4]at g5;rw[s3]at g4;rw[s1,s2]at g3;rw[s1]at g2;rw[s4];exact⟨⟨_,g5,rfl⟩,q _ ⟨g5,g3,⟨_,_,g4⟩,Lp g1,Lp g2⟩ λc o e=>u2 (Ar _ e)⟩
end
def bQ(K:Fg)(ta:TA):TI:=λY H R=>ta Y H λvs H1=>∃ t1 t2 a b xs ys,vs=[.ref a,.ref b]/\SqX t1 K H1 a xs/\SqX t2 K H1 b ys/\(xs.length<=sizeLine->R (Itz K t1 t2 a b) H1)
theorem Cy.lt(z:Cy t h a its):a<h.objs.size:=by
 cases t with
 |true=>obtain⟨o,e,_⟩:=z;exact AE e
 |false=>obtain⟨o,e,_⟩:=z;exact AE e
theorem zQ{a b:Ao}(hg:Gl X "zip")(hm:X.mg "zip" = Af)(ha:PA X [a,b] ta)(hs:AI [a,b] X.env=[(Ae,eval a X.env),(Ae,eval b X.env)])(hs2:AI [b] X.env=[(Ae,eval b X.env)]):
  PI X (.Tuple es n tpos) (.Call (.Name "zip" p) [a,b] [] pos) (bQ X.K ta):=by
 intro pI s Y H R I h;refine Ja (HY I hg hm X8 (Ce (thn (ha pos pI s Y H _ I h) λus s1 ⟨vs,H1,I1,r1,q1⟩=>?_) (by rw[hs,hs2]) (by rw[hs2];rfl)))
 obtain⟨t1,t2,c,d,xs,ys,e,sx,sy,q⟩:=q1;subst e;cases r1 with
 |cons r rr=>
  cases rr with
  |cons r' rr=>
   cases rr;cases r;cases r';obtain⟨us,ru,iu,zu⟩:=Hs I1 sx;obtain⟨vs,rv,iv,_⟩:=Hs I1 sy;refine hJ iu iv λh2 z kp=>ZK z.1 ?_
   refine⟨s1.heap.objs.size+4,zFp s1.heap.objs.size,_,_,H1,rfl,I1.kept (t':=s1.toks) kp,iJ t1 t2 s1.heap.objs.size c d iu.lt iv.lt,z,λb hb=>?_,q zu⟩
   have hb':s1.heap.objs.size<=b:=by
    simp only[zFp,Av,AR,BQ]at hb;rcases hb with z|z|z|z|z<;>rw[z]<;>simp
   exact I1.fpOk hb' (I1.hok.fresh hb')
theorem Lu{ds:Ac D}(r:Rep K CL H A v d)(e:Ch d=.ok ds):∃ t a xs,v=.ref a/\(∀ H2,Kp A H H2->SqX t K H2 a xs)/\Reps K CL H A xs ds:=by
 cases d with
 |lst es=>
  cases e;obtain⟨q,xs,rfl,na,sq,r⟩:=r;exact⟨Ae,q,xs,rfl,λH2 k=>N5 k na sq,r⟩
 |tup es=>
  cases e;obtain⟨q,xs,rfl,na,sq,r⟩:=r;exact⟨Aa,q,xs,rfl,λH2 k=>N4 k na sq,r⟩
 |_=>cases e
theorem Ql:∀(xs ys:Ac D),(EF xs ys).length=min xs.length ys.length
 |[],_=>by simp[EF]
 |_::_,[]=>by simp[EF]
 |x::xs,y::ys=>by
  rw[EF,BE,Ql xs ys];simp only[BE];omega
theorem Uj:∀(xs ys:Ac D)(i:Ag)(d:D),(EF xs ys)[i]?=Ab d->∃ x y,xs[i]?=Ab x/\ys[i]?=Ab y/\d=.tup [x,y]
 |[],_,i,d,h=>by simp[EF]at h
 |_::_,[],i,d,h=>by simp[EF]at h
 |x::xs,y::ys,0,d,h=>by
  rw[EF]at h;simp only[EJ,Cn]at h;exact⟨x,y,rfl,rfl,h.symm⟩
 |x::xs,y::ys,i+1,d,h=>by
  rw[EF]at h;simp only[EI]at h ⊢;exact Uj xs ys i d h
theorem iF{t1 t2:Ak}{ys:Ac V}{ds es:Ac D}(s1:∀ H2,Kp A H1 H2->SqX t1 K H2 a xs)(s2:∀ H2,Kp A H1 H2->SqX t2 K H2 b ys)(r1:Reps K CL H1 A xs ds)(r2:Reps K CL H1 A ys es):Jx K CL A (EF ds es) (Itz K t1 t2 a b) H1:=λH k i=>by
 refine⟨λhi=>⟨xs,ys,s1 H k,s2 H k,?_⟩,λd hd=>?_⟩
 .rw[Ql]at hi;rw[r1.length,r2.length];omega
 .obtain⟨x,y,hx,hy,rfl⟩:=Uj _ _ _ _ hd;obtain⟨u,hu,ru⟩:=r1.get hx;obtain⟨v,hv,rv⟩:=r2.get hy;refine⟨⟨xs,ys,u,v,s1 H k,s2 H k,hu,hv⟩,?_⟩;rintro w' H' ⟨p,x',y',hp,rfl,c1,c2,rfl⟩;have ex:x'=u:=BJ ((c1 xs (s1 H k)).symm.trans hu);have ey:y'=v:=BJ ((c2 ys (s2 H k)).symm.trans hv);subst ex ey;have sm:=GR hp (.tup [x',y']);exact⟨sm,λB hB aB=>Lj aB hp ⟨MA ru k hB,MA rv k hB,trivial⟩⟩
section
variable{X:Cx}{CL:ClA}{W:XW}{pos p:A6}{a b:Ao}{fa fb:Rho->R D}
theorem xD(ha:SE X CL W a fa)(hb:SE X CL W b fb)(hg:Gl X "zip")(hm:X.mg "zip" = Af)(hs:AI [a,b] X.env=[(Ae,eval a X.env),(Ae,eval b X.env)])(hs2:AI [b] X.env=[(Ae,eval b X.env)]):
  SI X CL W (.Tuple es n tpos) (.Call (.Name "zip" p) [a,b] [] pos) (λU=>(fa U).bind λx=>(fb U).bind λy=>(Ch x).bind λxs=>(Ch y).bind λys=>.ok (EF xs ys)):=
 λA=>PI.weak (zQ hg hm (Fj (ha A) (Fj (hb A) G5 hs2) (by rw[hs,hs2])) hs hs2) λY H R ⟨hA,U,g,q⟩=>⟨hA,U,g,Fl.ex q λd v H1 _ s1 r1 p1=>⟨hA.same s1,U,g.same s1,Fl.ex p1 λd2 v2 H2 _ s2 r2 p2=>by
  cases e1:Ch d with
  |bad=>rw[e1]at p2;exact p2.elim
  |exn z=>exact absurd e1 (by cases d<;>simp[Ch])
  |ok ds=>
   cases e2:Ch d2 with
   |bad=>rw[e1,e2]at p2;exact p2.elim
   |exn z=>exact absurd e2 (by cases d2<;>simp[Ch])
   |ok es=>
    rw[e1,e2]at p2;obtain⟨t1,c1,xs,rfl,k1,rs1⟩:=Lu (r1.same s2) e1;obtain⟨t2,c2,ys,rfl,k2,rs2⟩:=Lu r2 e2;refine⟨t1,t2,c1,c2,xs,ys,rfl,k1 H2 (Kp.of (AN.refl H2)),k2 H2 (Kp.of (AN.refl H2)),λhz=>p2 _ H2 (AN.refl H2) (iF k1 k2 rs1 rs2) ?_⟩
    rw[Ql,<-rs1.length];omega⟩⟩
end
theorem EZ.live{l:Ag}(z:EZ t h j l i):∃ o,h.get? j=Ab o/\∀ v,o.data≠.cell v:=by
 cases t with
 |true=>obtain⟨o,e,c,d⟩:=z;exact⟨o,e,λv z=>by rw[d]at z;cases z⟩
 |false=>obtain⟨o,e,c,d⟩:=z;exact⟨o,e,λv z=>by rw[d]at z;cases z⟩
theorem EZ.keep{l:Ag}(z:EZ t h j l i)(k:∀ o,h.get? j=Ab o->h2.get? j=Ab o):EZ t h2 j l i:=by
 cases t with
 |true=>exact PySem.Heap.IsTupleIter.at z k
 |false=>exact PySem.Heap.IsListIter.at z k
theorem ax{A:Bc}(calm:A.handled=Af)(t:Ak)(j l:Am)(ne:l≠j)(its:A1 Ai):Draws prog w A j [j,l] its.size (λi v=>its[i]?=Ab v) (λi h=>EZ t h j l i/\Cy t h l its):=
 have d:=IF (prog:=prog) (w:=w) calm t j l ne its
 ⟨λi h z=>let ⟨o,e,_⟩:=z.1.live;⟨o,e⟩,d.frame,d.item,λs Q E h q=>d.done _ s Q E (A5 _) h q⟩
theorem qG{A:Bc}(calm:A.handled=Af)(t:Ak)(j l:Am)(ne:l≠j)(its:A1 Ai)(i:Ag)(hi:its.size<=i):Draws prog w A j [j,l] i (λ_ _=>BF) (λk h=>k=i/\EZ t h j l i/\Cy t h l its):=
 have d:=IF (prog:=prog) (w:=w) calm t j l ne its
 ⟨λ_ h z=>let ⟨o,e,_⟩:=z.2.1.live;⟨o,e⟩,λk h h' z q=>⟨z.1,d.frame i h h' z.2 q⟩,λk s Q E lt z=>absurd z.1 (AZ lt),λs Q E h q=>d.done i s Q E hi h.2 q⟩
noncomputable def Ite(K:Fg)(t:Ak)(a:Am):It:=
 ⟨λi H=>∃ xs x,SqX t K H a xs/\xs[i]?=Ab x,λi H v H'=>∃ p x,H p=Af/\v=.ref p/\(∀ xs,SqX t K H a xs->xs[i]?=Ab x)/\H'=upd H p (.tup [.int i,x]),λi H=>∃ xs,SqX t K H a xs/\xs.length<=i⟩
def eTn(t:Ak)(I l:Ag)(i:Ag)(h:AM):Prop:=(∃ old,IsEnum h (I+1) I i old)/\EZ t h I l i
theorem eX(t:Ak)(I l:Ag)(b:l<I):Turn P w K (.Tuple es n pos) (Ite K t l) [I,I+1] (I+1) (eTn t I l) where
  mem:=by simp
  obj:=λi h ⟨⟨old,z1⟩,z2⟩ c hc=>by
    simp only[Av,AR,BQ]at hc;rcases hc with rfl|rfl
    · exact z2.live
    · exact⟨_,z1,λv z=>by cases z⟩
  keep:=λi h h2 ⟨⟨old,z1⟩,z2⟩ k=>⟨⟨old,k _ (by simp) _ z1⟩,z2.keep λo e=>k _ (by simp) o e⟩
  item:=by
    intro X hP hw hK hc i pI s Y H E Iv hf ⟨⟨old,z1⟩,z2⟩ ⟨xs,x,q1,hx⟩;subst hP hw hK;obtain⟨us,rx,px,_⟩:=Hs Iv q1;obtain⟨u,hu,ru⟩:=rx.get hx;have lu:i<us.toArray.size:=by
      have:=(Be.mp hu).1;simpa using this
    refine wpAny_pyNext_enum_itemD (ax (A:=X.A.in1) (Iv.ok.hd hc) t I l (AZ b) us.toArray) z1 ⟨z2,px⟩ lu (ni0 (by decide)) (by simp only[Av,AR,BQ,DB];exact⟨ni0 (by decide),De (AK b (DC _ _))⟩) λu' h2 tk hu' ho it2 hT sz kp=>⟨_,rfl,wpAny_letOwnedTupleGo_enum ho λh3 d1 sb=>?_⟩
    have eu:u'=u:=by
      rw[Gz,hu]at hu';exact(BJ hu').symm
    subst eu;have lt:I+1<s.heap.objs.size:=AE z1;have kp3:∀ c o,c∉[I,I+1]->s.heap.get? c=Ab o->h3.get? c=Ab o:=λc o nc q=>by
      simp only[Av,AR,BQ,DB]at nc;exact sb.extBut c o nc.2 (kp c o nc.2 nc.1 q)
    have nT:∀ c∈[I,I+1],c≠s.heap.objs.size:=λc hc z=>by
      have:c<=I+1:=by
        simp only[Av,AR,BQ]at hc;rcases hc with z|z<;>rw[z]<;>simp
      exact absurd (z ▸ D7 this lt) (Bw _)
    have I1:Inv X pI Y (upd H s.heap.objs.size (.tup [.int i,x])) { s with heap:=s.heap.push { cls:=.type "tuple",data:=.seq #[.int i tk,u'] },toks:=s.toks }:=
      Iv.laid (λ_ _ q=>Ar _ q) (A5 _) ⟨(by decide:2<=sizeLine),[.int i tk,u'],.cons ⟨_,rfl⟩ (.cons ru .nil),⟨_,AB _ rfl,rfl,_,rfl⟩⟩
    have hf':∀ b∈[I,I+1],G9 X pI (upd H s.heap.objs.size (.tup [.int i,x])) b:=λb hb=>⟨by rw[Dz (nT b hb)];exact(hf b hb).1,(hf b hb).2⟩
    have I2:Inv X pI Y (upd H s.heap.objs.size (.tup [.int i,x])) {s with heap:=h3,toks:=tk+1}:=Inv.turnedL (s:={ s with heap:=s.heap.push { cls:=.type "tuple",data:=.seq #[.int i tk,u'] },toks:=s.toks }) [I,I+1] I1 (λc o nc q=>by
      rcases Y_3 q with ⟨e1,e2⟩|e1
      · subst e1 e2;exact sb.extBut _ _ (De lt) hT
      · exact kp3 c o nc e1) hf'
    exact⟨.ref s.heap.objs.size,_,I2,rfl,⟨s.heap.objs.size,x,Iv.fresh,rfl,λzs hz=>by rw[Qb Iv hz q1];exact hx,rfl⟩,⟨⟨u',by simpa using d1⟩,it2.1.keep λo q=>sb.extBut _ o (Br (ni0 (by decide))) q⟩,λb hb=>(hf' b hb).1⟩
  done:=by
    intro X hP hw hK hc i pI s Y H E Iv hf ⟨⟨old,z1⟩,z2⟩ ⟨xs,q1,hk⟩;subst hP hw hK;obtain⟨us,rx,px,_⟩:=Hs Iv q1;have e1:=rx.length;have e2:us.toArray.size<=i:=by rw[AD,<-e1];exact hk
    refine wpAny_pyNext_enum_endD (qG (A:=X.A.in1) (Iv.ok.hd hc) t I l (AZ b) us.toArray i e2) z1 ⟨rfl,z2,px⟩ λh2 eb=>⟨rfl,Inv.turnedL [I] Iv (t':=s.toks) (λc o nc q=>eb c o (λz=>nc (by simp[z])) q) λc hc=>hf c ?_⟩
    have:c=I:=by simpa using hc
    subst this;simp
  self:=λ_ _ _ _ _ st h=>ZJ st.1.choose_spec h
section
variable{prog:AU}{w:AH}{A:Bc}{E:Vq}{s:As}
theorem jB(t:Ak)(l:Am)(xs:A1 Ai):Meets (Builtin.«enumerate.__new__» ⟨[.type "enumerate",.ref l],[]⟩) (λ_ R s=>Cy t s.heap l xs /\
   R (.ok (.ret (.ref (s.heap.push (itO t l)).objs.size))) { s with heap:=(s.heap.push (itO t l)).push { cls:=.type "enumerate",data:=.fields #[.none,.bool Ae,.ref s.heap.objs.size,Cw 0,.none,.none] } }):=
 .of_wp λprog w A R s h=>by
  obtain⟨hp,g,d,tk,os⟩:=s;obtain⟨hl,h⟩:=h;have hsub:=sub_enumerate;have hL:Cy t (Ga ⟨hp,g,d,tk,os⟩) l xs:=hl
  wp_walk
  refine wpAny_stack_any λst=>Aw ?_
  split
  .rename_i c _ _ _ _ _;cases (c==Fi "enumerate")
   .wp_walk using JZ hL
    exact⟨_,rfl,h⟩
   .wp_walk using JZ hL
    exact⟨_,rfl,h⟩
  .wp_walk using JZ hL
   exact⟨_,rfl,h⟩
theorem gC{xs:A1 Ai}{Q:Vq}(hL:Cy t s.heap l xs)(h:∀ h',IsEnum h' (s.heap.objs.size+1) s.heap.objs.size 0 .none->EZ t h' s.heap.objs.size l 0->(∀ b o,s.heap.get? b=Ab o->h'.get? b=Ab o)->Q (.ref (s.heap.objs.size+1)) {s with heap:=h'}):
    AC (model prog w) A (call (.type "enumerate") [.ref l]) Q E s:=by
  refine JK F.called_enumerate (by decide) (F.typeCall_enumerate_1 _) (F.newCall_enumerate_1 _) (λobj=>YN obj _) F.entry_enumerate_new (jB t l xs) ⟨hL,?_⟩
  have hz:(s.heap.push (itO t l)).objs.size=s.heap.objs.size+1:=Bk ..;show _/\_;rw[hz];have he:IsEnum ((s.heap.push (itO t l)).push { cls:=.type "enumerate",data:=.fields #[.none,.bool Ae,.ref s.heap.objs.size,Cw 0,.none,.none] }) (s.heap.objs.size+1) s.heap.objs.size 0 .none:=by
    have:=AB (s.heap.push (itO t l)) (o:={ cls:=.type "enumerate",data:=.fields #[.none,.bool Ae,.ref s.heap.objs.size,Cw 0,.none,.none] }) rfl;rw[hz]at this;exact this
  exact⟨⟨_,he,rfl⟩,h _ he (Lp (Ar _ (AB _ (Lh _ _)))) λb o x=>Ar _ (Ar _ x)⟩
end
def bR(K:Fg)(ta:TA):TI:=λY H R=>ta Y H λvs H1=>∃ t a xs,vs=[.ref a]/\SqX t K H1 a xs/\(xs.length<=sizeLine->R (Ite K t a) H1)
theorem oE{a:Ao}(hg:Gl X "enumerate")(hm:X.mg "enumerate" = Af)(ha:PA X [a] ta)(hs:AI [a] X.env=[(Ae,eval a X.env)]):
  PI X (.Tuple es n tpos) (.Call (.Name "enumerate" p) [a] [] pos) (bR X.K ta):=by
 intro pI s Y H R I h;refine Ja (HY I hg hm PyProof.Rows.boot_enumerate (Ce (thn (ha pos pI s Y H _ I h) λus s1 ⟨vs,H1,I1,r1,q1⟩=>?_) hs rfl))
 obtain⟨t,c,xs,e,sx,q⟩:=q1;subst e;cases r1 with
 |cons r rr=>
  cases rr;cases r;obtain⟨us,ru,pu,zu⟩:=Hs I1 sx;refine gC pu λh2 z1 z2 kp=>ZJ z1 ?_
  refine⟨s1.heap.objs.size+1,[s1.heap.objs.size,s1.heap.objs.size+1],_,_,H1,rfl,I1.kept (t':=s1.toks) kp,eX t s1.heap.objs.size c pu.lt,⟨⟨_,z1⟩,z2⟩,λb hb=>?_,q zu⟩
  have hb':s1.heap.objs.size<=b:=by
   simp only[Av,AR,BQ]at hb;rcases hb with z|z<;>rw[z]<;>simp
  exact I1.fpOk hb' (I1.hok.fresh hb')
theorem QI:∀(j:Ad)(xs:Ac D),(EQ j xs).length=xs.length
 |_,[]=>rfl
 |j,x::xs=>by rw[EQ,BE,QI,BE]
theorem UE:∀(xs:Ac D)(j:Ad)(i:Ag)(d:D),(EQ j xs)[i]?=Ab d->∃ x,xs[i]?=Ab x/\d=.tup [.int (j+i),x]
 |[],j,i,d,h=>by simp[EQ]at h
 |x::xs,j,0,d,h=>by
  rw[EQ]at h;simp only[EJ,Cn]at h;exact⟨x,rfl,by rw[<-h];simp⟩
 |x::xs,j,i+1,d,h=>by
  rw[EQ]at h;simp only[EI]at h ⊢;obtain⟨y,h1,h2⟩:=UE xs (j+1) i d h;exact⟨y,h1,by rw[h2];congr 3;omega⟩
theorem fS{ds:Ac D}(sq:∀ H2,Kp A H1 H2->SqX t K H2 a xs)(r1:Reps K CL H1 A xs ds):Jx K CL A (EQ 0 ds) (Ite K t a) H1:=λH k i=>by
 have s1:=sq H k;refine⟨λhi=>⟨xs,s1,?_⟩,λd hd=>?_⟩
 .rw[QI]at hi;rw[r1.length];exact hi
 .obtain⟨x,hx,rfl⟩:=UE _ _ _ _ hd;obtain⟨u,hu,ru⟩:=r1.get hx;refine⟨⟨xs,u,s1,hu⟩,?_⟩;rintro w' H' ⟨p,x',hp,rfl,c1,rfl⟩;have ex:x'=u:=BJ ((c1 xs s1).symm.trans hu);subst ex;rw[C0];exact⟨GR hp (.tup [.int i,x']),λB hB aB=>Lj aB hp ⟨rfl,MA ru k hB,trivial⟩⟩
section
variable{X:Cx}{CL:ClA}{W:XW}{pos p:A6}{a:Ao}{fa:Rho->R D}
theorem mG(ha:SE X CL W a fa)(hg:Gl X "enumerate")(hm:X.mg "enumerate" = Af)(hs:AI [a] X.env=[(Ae,eval a X.env)]):
  SI X CL W (.Tuple es n tpos) (.Call (.Name "enumerate" p) [a] [] pos) (λU=>(fa U).bind λx=>(Ch x).bind λxs=>.ok (EQ 0 xs)):=
 λA=>PI.weak (oE hg hm (Fj (ha A) G5 hs) hs) λY H R ⟨hA,U,g,q⟩=>⟨hA,U,g,Fl.ex q λd v H1 _ s1 r1 p1=>by
  cases e1:Ch d with
  |bad=>rw[e1]at p1;exact p1.elim
  |exn z=>exact absurd e1 (by cases d<;>simp[Ch])
  |ok ds=>
   rw[e1]at p1;obtain⟨t,c,xs,rfl,k1,rs⟩:=Lu r1 e1;exact⟨t,c,xs,rfl,k1 H1 (Kp.of (AN.refl H1)),λhz=>p1 _ H1 (AN.refl H1) (fS k1 rs) (by rw[QI,<-rs.length];exact hz)⟩⟩
end
noncomputable abbrev EY(h:AM)(z TI TO:Am)(f0 f1:Ai):Prop:=h.get? z=Ab { cls:=.type "zip",dict:=Af,data:=.fields #[f0,f1,.bool Ae,.ref TI,.ref TO],slots:=#[] }
noncomputable abbrev ER(h:AM)(T:Am)(a b c:Ai):Prop:=h.get? T=Ab { cls:=.type "tuple",data:=.seq #[a,b,c] }
section
variable{prog:AU}{w:AH}{A:Bc}{E:Vq}{s:As}
theorem nb3{I l c:Ag}(b:l<I)(h:c∈[I+j,l])(i:Ag)(hi:i≠j):c≠I+i:=by
 have h':c=I+j\/c=l:=by simpa using h
 omega
theorem Uh{z TI TO T1:Ag}{Q:Ak->As->Prop}(hz:EY s.heap z TI TO (Cw T1) (.bool f1))(hT:s.heap.get? T1=Ab o1)(go:∀ h1,EY h1 z TI TO (Cw T1) (.bool Aa)->(∀ c o,c≠z->s.heap.get? c=Ab o->h1.get? c=Ab o)->h1.objs.size=s.heap.objs.size->Q Ae {s with heap:=h1}):AC (model prog w) A (A4 (.ref z)) Q E s:=by
 simp only[A4];refine Ah (Bl hz rfl (x:=Cw T1) rfl ?_);show AC _ _ (loadIfAlive T1 >>= _) _ _ _;refine Ah (λZ p _=>?_)
 show AC _ _ _ _ _ _;rw[hT];show AC _ _ (field (.ref z) 1 >>= _) _ _ _;refine Ah (Bl hz rfl (x:=.bool f1) rfl ?_);cases f1 with
 |true=>exact Aw (go s.heap hz (λ_ _ _ e=>e) rfl)
 |false=>exact Ah (Cf hz (by simp) λh1 z1 sb=>Aw (go h1 z1 (λc o nc e=>sb.extBut c o nc e) sb.1))
theorem Ui{z TI TO:Ag}{f1:Ai}{Q:Ak->As->Prop}(hz:EY s.heap z TI TO f0 f1)(hf:f0=.none\/∃ T1:Ag,f0=Cw T1/\s.heap.get? T1=Af)(go:Q Aa s):AC (model prog w) A (A4 (.ref z)) Q E s:=by
 simp only[A4];rcases hf with rfl|⟨T1,rfl,hT⟩
 .exact Ah (Bl hz rfl (x:=.none) rfl (Aw go))
 .refine Ah (Bl hz rfl (x:=Cw T1) rfl ?_);show AC _ _ (loadIfAlive T1 >>= _) _ _ _;refine Ah (λZ p _=>?_)
  show AC _ _ _ _ _ _;rw[hT];exact Aw go
theorem fQ{I l1 l2 l3 n1 n2 n3 k T1:Ag}{P3:Ag->Ai->Prop}{S3:Ag->AM->Prop}{Q:Vq}(b1:l1<I)(b2:l2<I)(b3:l3<I)(D1:Dw prog w A (I+0) [I+0,l1] n1 P1 S1)(D2:Dw prog w A (I+1) [I+1,l2] n2 P2 S2)(D3:Dw prog w A (I+2) [I+2,l3] n3 P3 S3)(hz:EY s.heap (I+5) (I+3) (I+4) (Cw T1) (.bool f1))(hI:ER s.heap (I+3) (.ref (I+0)) (.ref (I+1)) (.ref (I+2)))(hT:s.heap.get? T1=Ab o1)(g1:S1 k s.heap)(g2:S2 k s.heap)(g3:S3 k s.heap)(k1:k<n1)(k2:k<n2)(k3:k<n3)(go:∀ x y u h2 tk,P1 k x->P2 k y->P3 k u->EY h2 (I+5) (I+3) (I+4) (Cw T1) (.bool Aa)->S1 (k+1) h2->S2 (k+1) h2->S3 (k+1) h2->ER h2 s.heap.objs.size x y u->h2.objs.size=s.heap.objs.size+1 ->
   (∀ c o,c∉[I+0,I+1,I+2,I+5]->s.heap.get? c=Ab o->h2.get? c=Ab o)->Q (.ref s.heap.objs.size) {s with heap:=h2,toks:=tk}):AC (model prog w) A (Builtin.«zip.__next__» ⟨[.ref (I+5)],[]⟩) (λfin s'=>∃ v,fin=.done (.ret v)/\Q v s') E s:=by
 refine Ah (m:=field (.ref (I+5)) 2) (Bl hz rfl (x:=.bool Ae) rfl ?_);refine Ah (m:=field (.ref (I+5)) 3) (Bl hz rfl (x:=.ref (I+3)) rfl (Ah (BX hI rfl ?_)));refine Ah (m:=A4 (.ref (I+5))) (Uh hz hT λp1 z1 e1 s1=>?_)
 rw[AW (by decide)]
 refine Ah ?_;simp only[<-Hd,Eb,D4];have f1':S1 k p1:=D1.frame _ _ _ g1 λc hc o q=>e1 c o (nb3 b1 hc 5 (by decide)) q
 refine Ah (Ah (Cc (Ah (m:=A2 (.ref (I+0))) (D1.item k _ _ _ k1 f1' λx p2 t2 px s2 e2=>Aw (Aw ?_)))))
 have f2':S2 k p2:=D2.frame _ _ _ g2 λc hc o q=>e2.extBut c o (nb3 b2 hc 0 (by decide)) (e1 c o (nb3 b2 hc 5 (by decide)) q)
 refine Ah (Ah (Cc (Ah (m:=A2 (.ref (I+1))) (D2.item k _ _ _ k2 f2' λy p3 t3 py s3 e3=>Aw (Aw ?_)))))
 have f3':S3 k p3:=D3.frame _ _ _ g3 λc hc o q=>e3.extBut c o (nb3 b3 hc 1 (by decide)) (e2.extBut c o (nb3 b3 hc 0 (by decide)) (e1 c o (nb3 b3 hc 5 (by decide)) q))
 refine Ah (Ah (Cc (Ah (m:=A2 (.ref (I+2))) (D3.item k _ _ _ k3 f3' λu p4 t4 pu s4 e4=>Aw (Aw (Aw ?_))))))
 refine Ah (IX (hsz:=by show 3<=sizeLine;decide) (Aw ⟨_,rfl,?_⟩))
 have sz:p4.objs.size=s.heap.objs.size:=by rw[e4.1,e3.1,e2.1,s1]
 have z4:EY p4 (I+5) (I+3) (I+4) (Cw T1) (.bool Aa):=e4.extBut _ _ (nij (by decide)) (e3.extBut _ _ (nij (by decide)) (e2.extBut _ _ (nij (by decide)) z1))
 have a1:S1 (k+1) p4:=D1.frame _ _ _ s2 λc hc o q=>e4.extBut c o (nb3 b1 hc 2 (by decide)) (e3.extBut c o (nb3 b1 hc 1 (by decide)) q)
 have a2:S2 (k+1) p4:=D2.frame _ _ _ s3 λc hc o q=>e4.extBut c o (nb3 b2 hc 2 (by decide)) q
 have psh:∀ {c o},p4.get? c=Ab o->(p4.push { cls:=.type "tuple",data:=.seq #[x,y,u] }).get? c=Ab o:=λq=>Ar _ q
 have q:=go x y u (p4.push { cls:=.type "tuple",data:=.seq #[x,y,u] }) t4 px py pu (psh z4) (D1.frame _ _ _ a1 λc _ o q=>psh q) (D2.frame _ _ _ a2 λc _ o q=>psh q) (D3.frame _ _ _ s4 λc _ o q=>psh q) (by rw[<-sz];exact AB _ rfl) (by rw[Bk,sz]) (λc o nc q=>by
  simp only[Av,AR,BQ,DB]at nc;exact psh (e4.extBut c o nc.2.2.1 (e3.extBut c o nc.2.1 (e2.extBut c o nc.1 (e1 c o nc.2.2.2 q)))))
 rw[<-sz]at q;exact q
theorem fP{I l1 n1 k T1:Ag}{Q:Fin->As->Prop}(b1:l1<I)(D1:Dw prog w A (I+0) [I+0,l1] n1 P1 S1)(hz:EY s.heap (I+5) (I+3) (I+4) (Cw T1) (.bool f1))(hI:ER s.heap (I+3) (.ref (I+0)) (.ref (I+1)) (.ref (I+2)))(hT:s.heap.get? T1=Ab o1)(g1:S1 k s.heap)(k1:n1<=k)(up:∀ h2 e,(∀ c o,c∉[I+0,I+5]->s.heap.get? c=Ab o->h2.get? c=Ab o)->(∃ o,h2.get? e=Ab o/\o.cls=.type "StopIteration")->E (.ref e) {s with heap:=h2}):AC (model prog w) A (Builtin.«zip.__next__» ⟨[.ref (I+5)],[]⟩) Q E s:=by
 refine Ah (m:=field (.ref (I+5)) 2) (Bl hz rfl (x:=.bool Ae) rfl ?_);refine Ah (m:=field (.ref (I+5)) 3) (Bl hz rfl (x:=.ref (I+3)) rfl (Ah (BX hI rfl ?_)));refine Ah (m:=A4 (.ref (I+5))) (Uh hz hT λp1 z1 e1 s1=>?_)
 rw[AW (by decide)]
 refine Ah ?_;simp only[<-Hd,Eb,D4];have f1':S1 k p1:=D1.frame _ _ _ g1 λc hc o q=>e1 c o (nb3 b1 hc 5 (by decide)) q
 refine Ah (Ah (Cc (Ah (m:=A2 (.ref (I+0))) (D1.done k _ _ _ k1 f1' λp2 e e2 he=>up p2 e (λc o nc q=>?_) he))))
 simp only[Av,AR,BQ,DB]at nc;exact e2 c o nc.1 (e1 c o nc.2 q)
theorem hV{I l1 n1 k:Ag}{f1:Ai}{Q:Fin->As->Prop}(b1:l1<I)(D1:Dw prog w A (I+0) [I+0,l1] n1 P1 S1)(hz:EY s.heap (I+5) (I+3) (I+4) f0 f1)(hf:f0=.none\/∃ T1:Ag,f0=Cw T1/\s.heap.get? T1=Af)(hI:ER s.heap (I+3) (.ref (I+0)) (.ref (I+1)) (.ref (I+2)))(g1:S1 k s.heap)(k1:n1<=k)(up:∀ h2 e,(∀ c o,c∉[I+0,I+5]->s.heap.get? c=Ab o->h2.get? c=Ab o)->(∃ o,h2.get? e=Ab o/\o.cls=.type "StopIteration")->E (.ref e) {s with heap:=h2}):AC (model prog w) A (Builtin.«zip.__next__» ⟨[.ref (I+5)],[]⟩) Q E s:=by
 refine Ah (m:=field (.ref (I+5)) 2) (Bl hz rfl (x:=.bool Ae) rfl ?_);refine Ah (m:=field (.ref (I+5)) 3) (Bl hz rfl (x:=.ref (I+3)) rfl (Ah (BX hI rfl ?_)));refine Ah (m:=A4 (.ref (I+5))) (Ui hz hf ?_);rw[AO rfl];refine Ah (GO (Ah (Bl hz rfl (x:=.ref (I+4)) rfl (Ah (Cf hz (by simp) λp1 z1 e1=>Ah ?_)))))
 have z1':EY p1 (I+5) (I+3) (I+4) .ellipsis f1:=z1;simp only[Gm,GF,Eb,D4];have g1':S1 k p1:=D1.frame _ _ _ g1 λc hc o q=>e1.extBut c o (nb3 b1 hc 5 (by decide)) q
 refine Ah (Ah (DV (Ah (m:=A2 (.ref (I+0))) (D1.done _ _ _ _ k1 g1' λp2 e e2 he=>?_))))
 obtain⟨oe,hoe,hce⟩:=he;have z2:EY p2 (I+5) (I+3) (I+4) .ellipsis f1:=e2 _ _ (nij (by decide)) z1'
 have ne:e≠I+5:=λx=>by subst x;rw[z2]at hoe;cases hoe;simp at hce
 refine Cf z2 (by simp) λp3 _ e3=>up p3 e (λc o nc q=>?_) ⟨oe,e3.extBut _ _ ne hoe,hce⟩
 simp only[Av,AR,BQ,DB]at nc;exact e3.extBut c o nc.2 (e2 c o nc.1 (e1.extBut c o nc.2 q))
theorem Rc{T:Am}{a b c x:Ai}{Q:Ji->As->Prop}(h:ER s.heap T a b c)(go:∀ h2,h2.get? T=Ab { cls:=.type "tuple",data:=.seq ((#[a,b,c]:A1 Ai).setIfInBounds k x) }->EC T s.heap h2->Q () {s with heap:=h2}):AC (model prog w) A (JR T (·.setIfInBounds k x)) Q E s:=by
 refine FM h rfl (go _ ?_ (Fx ..)) (by show 3<=sizeLine;decide) (by show ((#[a,b,c]:A1 Ai).setIfInBounds k x).size<=sizeLine+1;rw[Array.size_setIfInBounds];show 3<=sizeLine+1;decide)
 rw[Ci _ h rfl];simp[CV]
theorem eR{I l1 l2 l3 n1 n2 n3 k:Ag}{P3:Ag->Ai->Prop}{S3:Ag->AM->Prop}{a b c f1:Ai}{Q:Vq}(b1:l1<I)(b2:l2<I)(b3:l3<I)(D1:Dw prog w A (I+0) [I+0,l1] n1 P1 S1)(D2:Dw prog w A (I+1) [I+1,l2] n2 P2 S2)(D3:Dw prog w A (I+2) [I+2,l3] n3 P3 S3)(hz:EY s.heap (I+5) (I+3) (I+4) f0 f1)(hf:f0=.none\/∃ T1:Ag,f0=Cw T1/\s.heap.get? T1=Af)(hI:ER s.heap (I+3) (.ref (I+0)) (.ref (I+1)) (.ref (I+2)))(hO:ER s.heap (I+4) a b c)(g1:S1 k s.heap)(g2:S2 k s.heap)(g3:S3 k s.heap)(k1:k<n1)(k2:k<n2)(k3:k<n3)(go:∀ x y u h2 tk,P1 k x->P2 k y->P3 k u->EY h2 (I+5) (I+3) (I+4) (Cw s.heap.objs.size) (.bool Ae)->S1 (k+1) h2->S2 (k+1) h2->S3 (k+1) h2->ER h2 s.heap.objs.size x y u->ER h2 (I+4) x y u->h2.objs.size=s.heap.objs.size+1 ->
   (∀ c o,c∉[I+0,I+1,I+2,I+4,I+5]->s.heap.get? c=Ab o->h2.get? c=Ab o)->Q (.ref s.heap.objs.size) {s with heap:=h2,toks:=tk}):AC (model prog w) A (Builtin.«zip.__next__» ⟨[.ref (I+5)],[]⟩) (λfin s'=>∃ v,fin=.done (.ret v)/\Q v s') E s:=by
 refine Ah (m:=field (.ref (I+5)) 2) (Bl hz rfl (x:=.bool Ae) rfl ?_);refine Ah (m:=field (.ref (I+5)) 3) (Bl hz rfl (x:=.ref (I+3)) rfl (Ah (BX hI rfl ?_)));refine Ah (m:=A4 (.ref (I+5))) (Ui hz hf ?_);rw[AO rfl];refine Ah (GO (Ah (Bl hz rfl (x:=.ref (I+4)) rfl (Ah (Cf hz (by simp) λp1 z1 e1=>Ah ?_)))))
 have z1':EY p1 (I+5) (I+3) (I+4) .ellipsis f1:=z1;simp only[Gm,GF,Eb,D4];have f1':S1 k p1:=D1.frame _ _ _ g1 λc hc o q=>e1.extBut c o (nb3 b1 hc 5 (by decide)) q
 refine Ah (Ah (DV (Ah (m:=A2 (.ref (I+0))) (D1.item k _ _ _ k1 f1' λx p2 t2 px s2 e2=>Aw ?_))))
 have o2:ER p2 (I+4) a b c:=e2.extBut _ _ (nij (by decide)) (e1.extBut _ _ (nij (by decide)) hO)
 refine Ah (BX o2 rfl (Ah (Rc o2 λp3 o3 e3=>Ah (Gc (Aw ?_)))))
 have o3':ER p3 (I+4) x b c:=o3;have f2':S2 k p3:=D2.frame _ _ _ g2 λc hc o q=>e3.extBut c o (nb3 b2 hc 4 (by decide)) (e2.extBut c o (nb3 b2 hc 0 (by decide)) (e1.extBut c o (nb3 b2 hc 5 (by decide)) q))
 refine Ah (Ah (DV (Ah (m:=A2 (.ref (I+1))) (D2.item k _ _ _ k2 f2' λy p4 t4 py s4 e4=>Aw ?_))))
 have o4:ER p4 (I+4) x b c:=e4.extBut _ _ (nij (by decide)) o3'
 refine Ah (BX o4 rfl (Ah (Rc o4 λp5 o5 e5=>Ah (Gc (Aw ?_)))))
 have o5':ER p5 (I+4) x y c:=o5;have f3':S3 k p5:=D3.frame _ _ _ g3 λc hc o q=>e5.extBut c o (nb3 b3 hc 4 (by decide)) (e4.extBut c o (nb3 b3 hc 1 (by decide)) (e3.extBut c o (nb3 b3 hc 4 (by decide)) (e2.extBut c o (nb3 b3 hc 0 (by decide)) (e1.extBut c o (nb3 b3 hc 5 (by decide)) q))))
 refine Ah (Ah (DV (Ah (m:=A2 (.ref (I+2))) (D3.item k _ _ _ k3 f3' λu p6 t6 pu s6 e6=>Aw ?_))))
 have o6:ER p6 (I+4) x y c:=e6.extBut _ _ (nij (by decide)) o5'
 refine Ah (BX o6 rfl (Ah (Rc o6 λp7 o7 e7=>Ah (Gc (Aw (Aw ?_))))))
 have o7':ER p7 (I+4) x y u:=o7;have sz:p7.objs.size=s.heap.objs.size:=by rw[e7.1,e6.1,e5.1,e4.1,e3.1,e2.1,e1.1]
 have z7:EY p7 (I+5) (I+3) (I+4) .ellipsis f1:=e7.extBut _ _ (nij (by decide)) (e6.extBut _ _ (nij (by decide)) (e5.extBut _ _ (nij (by decide)) (e4.extBut _ _ (nij (by decide)) (e3.extBut _ _ (nij (by decide)) (e2.extBut _ _ (nij (by decide)) z1')))))
 refine Ah (BX o7' rfl (Ah (IX (hsz:=by show 3<=sizeLine;decide) ?_)))
 refine Ah (m:=Dg (.ref (I+5)) (.ref p7.objs.size)) ?_;simp only[Dg];have z8:EY (p7.push { cls:=.type "tuple",data:=.seq #[x,y,u] }) (I+5) (I+3) (I+4) .ellipsis f1:=Ar _ z7;refine Ah (Cf z8 (by simp) λp9 z9 e9=>?_)
 have z9':EY p9 (I+5) (I+3) (I+4) (Cw p7.objs.size) f1:=z9;refine Cf z9' (by simp) λpa za ea=>Aw ⟨_,rfl,?_⟩
 have za':EY pa (I+5) (I+3) (I+4) (Cw p7.objs.size) (.bool Ae):=za;have lt5:I+5<p7.objs.size:=AE z7;have up:∀ c o,c≠I+5->p7.get? c=Ab o->pa.get? c=Ab o:=λc o nc q=>ea.extBut _ _ nc (e9.extBut _ _ nc (Ar _ q))
 have a1:S1 (k+1) pa:=D1.frame _ _ _ s2 λc hc o q=>up c o (nb3 b1 hc 5 (by decide)) (e7.extBut c o (nb3 b1 hc 4 (by decide)) (e6.extBut c o (nb3 b1 hc 2 (by decide)) (e5.extBut c o (nb3 b1 hc 4 (by decide)) (e4.extBut c o (nb3 b1 hc 1 (by decide)) (e3.extBut c o (nb3 b1 hc 4 (by decide)) q)))))
 have a2:S2 (k+1) pa:=D2.frame _ _ _ s4 λc hc o q=>up c o (nb3 b2 hc 5 (by decide)) (e7.extBut c o (nb3 b2 hc 4 (by decide)) (e6.extBut c o (nb3 b2 hc 2 (by decide)) (e5.extBut c o (nb3 b2 hc 4 (by decide)) q)))
 have a3:S3 (k+1) pa:=D3.frame _ _ _ s6 λc hc o q=>up c o (nb3 b3 hc 5 (by decide)) (e7.extBut c o (nb3 b3 hc 4 (by decide)) q)
 have tp:ER pa p7.objs.size x y u:=ea.extBut _ _ (De lt5) (e9.extBut _ _ (De lt5) (AB _ rfl));have q:=go x y u pa t6 px py pu (by rw[<-sz];exact za') a1 a2 a3 (by rw[<-sz];exact tp) (up _ _ (nij (by decide)) o7') (by rw[ea.1,e9.1,Bk,sz]) (λc o nc q=>by
  simp only[Av,AR,BQ,DB]at nc;exact up c o nc.2.2.2.2 (e7.extBut c o nc.2.2.2.1 (e6.extBut c o nc.2.2.1 (e5.extBut c o nc.2.2.2.1 (e4.extBut c o nc.2.1 (e3.extBut c o nc.2.2.2.1 (e2.extBut c o nc.1 (e1.extBut c o nc.2.2.2.2 q))))))))
 rw[<-sz]at q;exact q
def Z_3(t1 t2 t3:Ak)(I l1 l2 l3 i:Ag)(h:AM):Prop:=ER h (I+3) (.ref (I+0)) (.ref (I+1)) (.ref (I+2))/\EZ t1 h (I+0) l1 i/\EZ t2 h (I+1) l2 i/\EZ t3 h (I+2) l3 i/\(∃ a b c,ER h (I+4) a b c) /\
 (EY h (I+5) (I+3) (I+4) .none (.bool Ae)\/∃(T1:Ag)(f1:Ak),EY h (I+5) (I+3) (I+4) (Cw T1) (.bool f1))
noncomputable def z3w(I:Ag):Ac Am:=[I+0,I+1,I+2,I+4,I+5]
theorem mT{t1 t2 t3:Ak}{I l1 l2 l3 i:Ag}{xs:A1 Ai}{x:Ai}{Q:Aq Ai->As->Prop}(calm:A.handled=Af)(b1:l1<I)(b2:l2<I)(b3:l3<I)(z:Z_3 t1 t2 t3 I l1 l2 l3 i s.heap)(q1:Cy t1 s.heap l1 xs)(q2:Cy t2 s.heap l2 ys)(q3:Cy t3 s.heap l3 us)(hx:xs[i]?=Ab x)(hy:ys[i]?=Ab y)(hu:us[i]?=Ab u)(go:∀ h2 tk,Z_3 t1 t2 t3 I l1 l2 l3 (i+1) h2->ER h2 s.heap.objs.size x y u->h2.objs.size=s.heap.objs.size+1->(∀ c o,c∉z3w I->s.heap.get? c=Ab o->h2.get? c=Ab o)->Q (Ab (.ref s.heap.objs.size)) {s with heap:=h2,toks:=tk}):AC (model prog w) A (D0 (.ref (I+5))) Q E s:=by
 obtain⟨zI,i1,i2,i3,zz⟩:=z;have calm':A.in1.handled=Af:=calm;have lt:∀{v:A1 Ai}{k:Ag}{a:Ai},v[k]?=Ab a->k<v.size:=λh=>by
  rw[Array.getElem?_eq_some_iff]at h;exact h.1
 have inj:∀{v:A1 Ai}{k:Ag}{a b:Ai},v[k]?=Ab a->v[k]?=Ab b->b=a:=λh1 h2=>by
  rw[h1]at h2;exact(BJ h2).symm
 have d1:=IF (prog:=prog) (w:=w) calm' t1 (I+0) l1 (AZ b1) xs;have d2:=IF (prog:=prog) (w:=w) calm' t2 (I+1) l2 (AZ (AK b2 (DC _ _))) ys;have d3:=IF (prog:=prog) (w:=w) calm' t3 (I+2) l3 (AZ (AK b3 (DC _ _))) us;obtain⟨⟨a,b,c,hO⟩,zz⟩:=zz;have fst:∀{f0 f1:Ai},EY s.heap (I+5) (I+3) (I+4) f0 f1->(f0=.none\/∃ T1:Ag,f0=Cw T1/\s.heap.get? T1=Af)->AC (model prog w) A (D0 (.ref (I+5))) Q E s:=λhz hf=>by
  have hty:s.TypeIs (.ref (I+5)) "zip" := ⟨_,hz,rfl⟩;simp only[D0];refine Ah (Fq (Cm hty CF (CW CF hty EB (eR (k:=i) b1 b2 b3 d1 d2 d3 hz hf zI hO ⟨i1,q1⟩ ⟨i2,q2⟩ ⟨i3,q3⟩ (lt hx) (lt hy) (lt hu) λx' y' u' h2 tk px py pu c1 c2 c3 c4 c5 c6 c7 kp=>Aw ?_) (Em _))))
  rw[inj hx px,inj hy py,inj hu pu]at c5;exact go h2 tk ⟨kp _ _ (by simp) zI,c2.1,c3.1,c4.1,⟨_,_,_,c6⟩,.inr ⟨_,_,c1⟩⟩ c5 c7 kp
 rcases zz with hz|⟨T1,f1,hz⟩
 .exact fst hz (.inl rfl)
 .cases hT:s.heap.get? T1 with
  |none=>exact fst hz (.inr ⟨T1,rfl,hT⟩)
  |some o1=>
   have hty:s.TypeIs (.ref (I+5)) "zip" := ⟨_,hz,rfl⟩;simp only[D0];refine Ah (Fq (Cm hty CF (CW CF hty EB (fQ (k:=i) b1 b2 b3 d1 d2 d3 hz zI hT ⟨i1,q1⟩ ⟨i2,q2⟩ ⟨i3,q3⟩ (lt hx) (lt hy) (lt hu) λx' y' u' h2 tk px py pu c1 c2 c3 c4 c5 c6 kp=>Aw ?_) (Em _))))
   rw[inj hx px,inj hy py,inj hu pu]at c5;exact go h2 tk ⟨kp _ _ (by simp) zI,c2.1,c3.1,c4.1,⟨a,b,c,kp _ _ (by simp) hO⟩,.inr ⟨T1,Aa,c1⟩⟩ c5 c6 (λc o nc q=>kp c o (λh=>nc (by simp only[z3w,Av,AR,BQ]at h ⊢;rcases h with h|h|h|h<;>simp[h])) q)
theorem vP{t1 t2 t3:Ak}{I l1 l2 l3 i:Ag}{xs:A1 Ai}{Q:Aq Ai->As->Prop}(calm:A.handled=Af)(b1:l1<I)(z:Z_3 t1 t2 t3 I l1 l2 l3 i s.heap)(q1:Cy t1 s.heap l1 xs)(hx:xs.size<=i)(go:∀ h2,(∀ c o,c∉z3w I->s.heap.get? c=Ab o->h2.get? c=Ab o)->Q Af {s with heap:=h2}):AC (model prog w) A (D0 (.ref (I+5))) Q E s:=by
 obtain⟨zI,i1,i2,i3,zz⟩:=z;have calm':A.in1.handled=Af:=calm;have d1:=IF (prog:=prog) (w:=w) calm' t1 (I+0) l1 (AZ b1) xs;have go':∀ h2 e,(∀ c o,c∉[I+0,I+5]->s.heap.get? c=Ab o->h2.get? c=Ab o)->(∃ o,h2.get? e=Ab o/\o.cls=.type "StopIteration")->AC (model prog w) A (isInstance (.ref e) (.type "StopIteration") >>= λb=>if b=Aa then pure Af else throw (.ref e)) Q E {s with heap:=h2}:=λh2 e kp ⟨o,ho,hcl⟩=>
  Ah (ZI (T := "StopIteration") (b:=Aa) ⟨o,ho,hcl⟩ Zz (Aw (go h2 λc o nc q=>kp c o (λh=>nc (by simp only[z3w,Av,AR,BQ]at h ⊢;rcases h with h|h<;>simp[h])) q)))
 have fin:∀{f0 f1:Ai},EY s.heap (I+5) (I+3) (I+4) f0 f1->(f0=.none\/∃ T1:Ag,f0=Cw T1/\s.heap.get? T1=Af)->AC (model prog w) A (D0 (.ref (I+5))) Q E s:=λhz hf=>by
  have hty:s.TypeIs (.ref (I+5)) "zip" := ⟨_,hz,rfl⟩;simp only[D0];exact Ah (Fq (Cm hty CF (CW CF hty EB (hV (k:=i) b1 d1 hz hf zI ⟨i1,q1⟩ hx λh2 e kp he=>go' h2 e kp he) (Em _))))
 obtain⟨_,zz⟩:=zz;rcases zz with hz|⟨T1,f1,hz⟩
 .exact fin hz (.inl rfl)
 .cases hT:s.heap.get? T1 with
  |none=>exact fin hz (.inr ⟨T1,rfl,hT⟩)
  |some o1=>
   have hty:s.TypeIs (.ref (I+5)) "zip" := ⟨_,hz,rfl⟩;simp only[D0];exact Ah (Fq (Cm hty CF (CW CF hty EB (fP (k:=i) b1 d1 hz zI hT ⟨i1,q1⟩ hx λh2 e kp he=>go' h2 e kp he) (Em _))))
end
section
variable{prog:AU}{w:AH}{A:Bc}{R:JH->As->Prop}
def Ls(I S:Ag)(xs ys us:A1 Ai)(i:Ag)(acc:A1 Ai)(h:AM):Prop:=acc.size=i/\(∀ j,j<i->∃(a:Ag)(x y u:Ai),acc[j]?=Ab (.ref a)/\xs[j]?=Ab x/\ys[j]?=Ab y/\us[j]?=Ab u/\ER h a x y u/\I+5<a/\a≠S)/\∀(j1 j2 a:Ag),acc[j1]?=Ab (Dt a)->acc[j2]?=Ab (Dt a)->j1=j2
theorem Cy.at'(z:Cy t h l its)(k:∀ o,h.get? l=Ab o->h2.get? l=Ab o):Cy t h2 l its:=by
 cases t with
 |true=>exact PySem.Heap.IsTuple.at z k
 |false=>exact PySem.Heap.IsList.at z k
theorem OI{I a:Ag}(h:I+5<a):a∉z3w I:=by
 intro z;simp only[z3w,Av,AR,BQ]at z;rcases z with z|z|z|z|z<;>· rw[z]at h;exact absurd h (FT.mpr (G0 (by decide) I))
theorem Ou{I l:Ag}(h:l<I):l∉z3w I:=by
 intro z;simp only[z3w,Av,AR,BQ]at z;rcases z with z|z|z|z|z<;>· rw[z]at h;exact absurd h (FT.mpr (DC I _))
theorem Z_3.at'{t1 t2 t3:Ak}{I l1 l2 l3 i:Ag}{h h2:AM}(z:Z_3 t1 t2 t3 I l1 l2 l3 i h)(k:∀ j,j<=5->∀ o,h.get? (I+j)=Ab o->h2.get? (I+j)=Ab o):Z_3 t1 t2 t3 I l1 l2 l3 i h2:=by
 obtain⟨zI,i1,i2,i3,⟨a,b,c,hO⟩,zz⟩:=z;exact⟨k 3 (by decide) _ zI,i1.at' λo q=>k 0 (by decide) o q,i2.at' λo q=>k 1 (by decide) o q,i3.at' λo q=>k 2 (by decide) o q,⟨a,b,c,k 4 (by decide) _ hO⟩,zz.imp (k 5 (by decide) _) λ⟨T1,f1,hz⟩=>⟨T1,f1,k 5 (by decide) _ hz⟩⟩
theorem mV{t1 t2 t3:Ak}{I l1 l2 l3 n:Ag}{xs:A1 Ai}{res:Ai}(calm:A.handled=Af)(b1:l1<I)(b2:l2<I)(b3:l3<I)(S:Ag)(hS:I+5<S)(n0:0<n)(nn:n<=1000)(e1:xs.size=n)(e2:ys.size=n)(e3:us.size=n):
  ∀(k i:Ag)(s:As)(acc:A1 Ai)(c:Ag),n-i=k->i<=n->Z_3 t1 t2 t3 I l1 l2 l3 i s.heap->Cy t1 s.heap l1 xs->Cy t2 s.heap l2 ys->Cy t3 s.heap l3 us ->
  s.heap.get? S=Ab { cls:=.type "list",dict:=Af,data:=.seq acc c,slots:=#[] }->Ls I S xs ys us i acc s.heap ->
  (∀ h2 acc2 c2 tk,(∀ d o,d∉z3w I->d≠S->s.heap.get? d=Ab o->h2.get? d=Ab o)->h2.get? S=Ab { cls:=.type "list",dict:=Af,data:=.seq acc2 c2,slots:=#[] }->Ls I S xs ys us n acc2 h2->R (.ok (.ret res)) {s with heap:=h2,toks:=tk}) ->
  Fu (model prog w) A (.builtin "list.extend.loop" ⟨[.ref S,.ref (I+5),res],[]⟩) R s:=by
 have calm':A.in1.handled=Af:=calm;intro k
 induction k with
 |zero=>
  intro i s acc c hk hi hz q1 q2 q3 hSo hd hR;have ein:i=n:=Nat.le_antisymm hi (Nat.le_of_sub_eq_zero hk);subst ein;refine DP YS ?_;rw[Dl Fw _];refine Ah (m:=D0 (.ref (I+5))) (vP calm' b1 hz q1 (JF e1) λh2 kp=>?_)
  exact Aw (hR h2 acc c s.toks (λd o nd _ q=>kp d o nd q) (kp _ _ (OI hS) hSo) ⟨hd.1,λj hj=>by
   obtain⟨a,x,y,u,r1,r2,r3,r4,r5,r6,r7⟩:=hd.2.1 j hj;exact⟨a,x,y,u,r1,r2,r3,r4,kp _ _ (OI r6) r5,r6,r7⟩,hd.2.2⟩)
 |succ k ih=>
  intro i s acc c hk hi hz q1 q2 q3 hSo hd hR;have lt:i<n:=Nat.lt_of_sub_pos (by rw[hk];exact Nat.succ_pos _)
  have lx:i<xs.size:=by rw[e1];exact lt
  have ly:i<ys.size:=by rw[e2];exact lt
  have lu:i<us.size:=by rw[e3];exact lt
  refine DP YS ?_;rw[Dl Fw _];refine Ah (m:=D0 (.ref (I+5))) (mT calm' b1 b2 b3 hz q1 q2 q3 (BV lx) (BV ly) (BV lu) λh2 tk z2 tr sz kp=>?_)
  have hS2:=kp _ _ (OI hS) hSo;refine Ah (m:=JR S _) ?_;have ot:∀(f:Di->Di) d o,d≠S->h2.get? d=Ab o->(h2.update S f).get? d=Ab o:=λf d o nd q=>(Cp _ _ (Br nd)).trans q
  have lS:I+5<s.heap.objs.size:=X1 hS (AE hSo);have nT:s.heap.objs.size≠S:=De (AE hSo);have hS3:=Ci (CV (·.push (.ref s.heap.objs.size))) hS2 rfl;have lne:∀{l:Ag},l<I->l≠S:=λh e=>by rw[e]at h;exact absurd (X1 h (D7 (DC I 5) hS)) (Bw _)
  refine FM hS2 rfl (Aw ⟨Gi Fw _,ih (i+1) {s with heap:=h2.update S (CV (·.push (.ref s.heap.objs.size))),toks:=tk} _ _ (by omega) lt (z2.at' λj hj o q=>ot _ _ o (λe=>by rw[<-e]at hS;exact absurd hS (FT.mpr (G0 hj I))) q) ?_ ?_ ?_ hS3 ⟨by rw[Xh,hd.1],λj hj=>?_,?_⟩ λh4 acc4 c4 tk4 kp4 hS4 hd4=>hR h4 acc4 c4 tk4 (λd o nd ns q=>kp4 d o nd ns (ot _ d o ns (kp d o nd q))) hS4 hd4⟩) ?_ ?_
  .exact q1.at' λo q=>ot _ _ o (lne b1) (kp _ o (Ou b1) q)
  .exact q2.at' λo q=>ot _ _ o (lne b2) (kp _ o (Ou b2) q)
  .exact q3.at' λo q=>ot _ _ o (lne b3) (kp _ o (Ou b3) q)
  .by_cases ej:j=i
   .subst ej;exact⟨s.heap.objs.size,_,_,_,by rw[GX,AO hd.1.symm],BV lx,BV ly,BV lu,ot _ _ _ nT tr,lS,nT⟩
   .obtain⟨a,x,y,u,r1,r2,r3,r4,r5,r6,r7⟩:=hd.2.1 j (Nat.lt_of_le_of_ne (Nat.le_of_lt_succ hj) ej);exact⟨a,x,y,u,by rw[GX,AW (by rw[hd.1];exact ej)];exact r1,r2,r3,r4,ot _ _ _ r7 (kp _ _ (OI r6) r5),r6,r7⟩
  .have old:∀(j a:Ag),acc[j]?=Ab (Dt a)->a<s.heap.objs.size:=λj a e=>by
    have hj:j<i:=by rw[<-hd.1];exact(CC.mp e).1
    obtain⟨a',x,y,u,r1,r2,r3,r4,r5,r6,r7⟩:=hd.2.1 j hj;rw[e]at r1;cases r1;exact AE r5
   intro j1 j2 a q1 q2;rw[GX]at q1 q2;split at q1
   .split at q2
    .omega
    .cases q1;exact absurd (old _ _ q2) (Bw _)
   .split at q2
    .cases q2;exact absurd (old _ _ q1) (Bw _)
    .exact hd.2.2 _ _ _ q1 q2
  .rw[hd.1];exact Cv (Cv hi nn) (by decide)
  .show (acc.push _).size<=sizeLine+1;rw[Xh,hd.1];exact Cv (Nat.succ_le_succ (Cv hi nn)) (by decide)
end
theorem fO(a b c:Ai):checkTypeCall "zip" ⟨[a,b,c],[]⟩=pure ():=by kernel_rfl
theorem iA(a b c:Ai):Zw "zip.__new__" ⟨[.type "zip",a,b,c],[]⟩=pure ():=by kernel_rfl
theorem ci(a b c d:Ai):argsOk "object.__init__" ⟨[a,b,c,d],[]⟩:=by
 unfold argsOk;rw[signature?_of (id := "object.__init__") (n:=['_','_','t','i','n','i','_','_']) (o:=['t','c','e','j','b','o']) (by kernel_rfl) F.owner_object];kernel_rfl
section
variable{prog:AU}{w:AH}{A:Bc}{E:Vq}{s:As}
noncomputable abbrev yh3(t1 t2 t3:Ak)(h:AM)(l1 l2 l3:Am):AM:=((h.push (itO t1 l1)).push (itO t2 l2)).push (itO t3 l3)
noncomputable abbrev yh4(t1 t2 t3:Ak)(h:AM)(l1 l2 l3:Am):AM:=(yh3 t1 t2 t3 h l1 l2 l3).push { cls:=.type "tuple",data:=.seq #[.ref h.objs.size,.ref (h.push (itO t1 l1)).objs.size,.ref ((h.push (itO t1 l1)).push (itO t2 l2)).objs.size] }
noncomputable abbrev yh5(t1 t2 t3:Ak)(h:AM)(l1 l2 l3:Am):AM:=(yh4 t1 t2 t3 h l1 l2 l3).push { cls:=.type "tuple",data:=.seq #[.none,.none,.none] }
noncomputable abbrev yh6(t1 t2 t3:Ak)(h:AM)(l1 l2 l3:Am):AM:=(yh5 t1 t2 t3 h l1 l2 l3).push { cls:=.type "zip",data:=.fields #[.none,.bool Ae,.bool Ae,.ref (yh3 t1 t2 t3 h l1 l2 l3).objs.size,.ref (yh4 t1 t2 t3 h l1 l2 l3).objs.size] }
theorem hU(t1 t2 t3:Ak)(l1 l2 l3:Am)(xs ys us:A1 Ai):Meets (Builtin.«zip.__new__» ⟨[.type "zip",.ref l1,.ref l2,.ref l3],[]⟩) (λ_ R s=>Cy t1 s.heap l1 xs/\Cy t2 s.heap l2 ys/\Cy t3 s.heap l3 us/\R (.ok (.ret (.ref (yh5 t1 t2 t3 s.heap l1 l2 l3).objs.size))) {s with heap:=yh6 t1 t2 t3 s.heap l1 l2 l3}):=
 .of_wp λprog w A R s h=>by
  obtain⟨hp,g,d,tk,os⟩:=s;obtain⟨a1,a2,a3,q⟩:=h;have hsub:=sub_zip;have L1:Cy t1 (Ga ⟨hp,g,d,tk,os⟩) l1 xs:=a1;have L2:Cy t2 (Ga ⟨hp.push (itO t1 l1),g,d,tk,os⟩) l2 ys:=a2.push _;have L3:Cy t3 (Ga ⟨(hp.push (itO t1 l1)).push (itO t2 l2),g,d,tk,os⟩) l3 us:=(a3.push _).push _
  wp_walk using JZ L1,JZ L2,JZ L3
  exact⟨_,rfl,q⟩
theorem fR{t1 t2 t3:Ak}{l1 l2 l3:Am}{xs:A1 Ai}{Q:Vq}(a1:Cy t1 s.heap l1 xs)(a2:Cy t2 s.heap l2 ys)(a3:Cy t3 s.heap l3 us)(q:∀ h2,Z_3 t1 t2 t3 s.heap.objs.size l1 l2 l3 0 h2->h2.objs.size=s.heap.objs.size+6->(∀ c o,s.heap.get? c=Ab o->h2.get? c=Ab o)->Q (.ref (s.heap.objs.size+5)) {s with heap:=h2}):AC (model prog w) A (call (.type "zip") [.ref l1,.ref l2,.ref l3]) Q E s:=by
 refine JK YR (by decide) (fO _ _ _) (iA _ _ _) (λobj=>ci obj _ _ _) YW (hU t1 t2 t3 l1 l2 l3 xs ys us) ⟨a1,a2,a3,?_⟩
 have s1:(s.heap.push (itO t1 l1)).objs.size=s.heap.objs.size+1:=Bk ..;have s2:((s.heap.push (itO t1 l1)).push (itO t2 l2)).objs.size=s.heap.objs.size+2:=by rw[Bk,s1]
 have s3:(yh3 t1 t2 t3 s.heap l1 l2 l3).objs.size=s.heap.objs.size+3:=by rw[Bk,s2]
 have s4:(yh4 t1 t2 t3 s.heap l1 l2 l3).objs.size=s.heap.objs.size+4:=by rw[Bk,s3]
 have s5:(yh5 t1 t2 t3 s.heap l1 l2 l3).objs.size=s.heap.objs.size+5:=by rw[Bk,s4]
 have s6:(yh6 t1 t2 t3 s.heap l1 l2 l3).objs.size=s.heap.objs.size+6:=by rw[Bk,s5]
 have u6:∀ {c o},(yh5 t1 t2 t3 s.heap l1 l2 l3).get? c=Ab o->(yh6 t1 t2 t3 s.heap l1 l2 l3).get? c=Ab o:=λe=>Ar _ e
 have u5:∀ {c o},(yh4 t1 t2 t3 s.heap l1 l2 l3).get? c=Ab o->(yh6 t1 t2 t3 s.heap l1 l2 l3).get? c=Ab o:=λe=>u6 (Ar _ e)
 have u4:∀ {c o},(yh3 t1 t2 t3 s.heap l1 l2 l3).get? c=Ab o->(yh6 t1 t2 t3 s.heap l1 l2 l3).get? c=Ab o:=λe=>u5 (Ar _ e)
 have u3:∀ {c o},((s.heap.push (itO t1 l1)).push (itO t2 l2)).get? c=Ab o->(yh6 t1 t2 t3 s.heap l1 l2 l3).get? c=Ab o:=λe=>u4 (Ar _ e)
 have u2:∀ {c o},(s.heap.push (itO t1 l1)).get? c=Ab o->(yh6 t1 t2 t3 s.heap l1 l2 l3).get? c=Ab o:=λe=>u3 (Ar _ e)
 have g6:(yh6 t1 t2 t3 s.heap l1 l2 l3).get? (yh5 t1 t2 t3 s.heap l1 l2 l3).objs.size=Ab _:=AB _ rfl;have g5:(yh6 t1 t2 t3 s.heap l1 l2 l3).get? (yh4 t1 t2 t3 s.heap l1 l2 l3).objs.size=Ab _:=u6 (AB _ rfl);have g4:(yh6 t1 t2 t3 s.heap l1 l2 l3).get? (yh3 t1 t2 t3 s.heap l1 l2 l3).objs.size=Ab _:=u5 (AB _ rfl);have g3:(yh6 t1 t2 t3 s.heap l1 l2 l3).get? ((s.heap.push (itO t1 l1)).push (itO t2 l2)).objs.size=Ab _:=u4 (AB _ (Lh _ _));have g2:(yh6 t1 t2 t3 s.heap l1 l2 l3).get? (s.heap.push (itO t1 l1)).objs.size=Ab _:=u3 (AB _ (Lh _ _));have g1:(yh6 t1 t2 t3 s.heap l1 l2 l3).get? s.heap.objs.size=Ab _:=u2 (AB _ (Lh _ _));show _/\_;rw[s3,s4,s5]at g6;rw[s4]at g5;rw[s1,s2,s3]at g4;rw[s2]at g3;rw[s1]at g2;rw[s5];exact⟨⟨_,g6,rfl⟩,q _ ⟨g4,Lp g1,Lp g2,Lp g3,⟨_,_,_,g5⟩,.inl g6⟩ s6 λc o e=>u2 (Ar _ e)⟩
end
theorem eQ:KQ (.type "zip") "__len__" = pure Af:=by rw[ZE,Zu];kernel_rfl
theorem eE:KQ (.type "zip") "__length_hint__" = pure Af:=by rw[ZE,Zu];kernel_rfl
theorem Z_3.ty{t1 t2 t3:Ak}{I l1 l2 l3 i:Ag}(z:Z_3 t1 t2 t3 I l1 l2 l3 i s.heap):s.TypeIs (.ref (I+5)) "zip" := by
 obtain⟨_,_,_,_,_,hz|⟨_,_,hz⟩⟩:=z
 .exact⟨_,hz,rfl⟩
 .exact⟨_,hz,rfl⟩
theorem Z_3.lt{t1 t2 t3:Ak}{I l1 l2 l3 i:Ag}(z:Z_3 t1 t2 t3 I l1 l2 l3 i s.heap):I+5<s.heap.objs.size:=by
 obtain⟨o,h,_⟩:=z.ty;exact AE h
theorem mU{t1 t2 t3:Ak}{I l1 l2 l3 i:Ag}(z:Z_3 t1 t2 t3 I l1 l2 l3 i h):Z_3 t1 t2 t3 I l1 l2 l3 i (h.push o):=by
 have k:∀ {c u},h.get? c=Ab u->(h.push o).get? c=Ab u:=λq=>Ar _ q
 obtain⟨zI,i1,i2,i3,zz⟩:=z;refine⟨k zI,i1.at' λo q=>k q,i2.at' λo q=>k q,i3.at' λo q=>k q,?_⟩
 obtain⟨⟨a,b,c,hO⟩,zz⟩:=zz;refine⟨⟨a,b,c,k hO⟩,?_⟩;rcases zz with hz|⟨T1,f1,hz⟩
 .exact .inl (k hz)
 .exact .inr ⟨T1,f1,k hz⟩
section
variable{prog:AU}{w:AH}{A:Bc}{E:Vq}{s:As}
theorem gZ{z:Am}{Q:Vq}(hT:s.TypeIs (.ref z) "zip")(h:Q (.ref z) s):AC (model prog w) A (JP (.ref z)) Q E s:=by
 refine wpAny_pyIter_slot hT Y_0 (CW Y_0 hT F.entry_zip_iter ?_ (F.args_zip_iter_1 _));show AC _ _ (ret (.ref z)) _ _ s;exact Aw ⟨_,rfl, "zip",_,hT,F.slot_zip_next.lookup,h⟩
theorem eS{t1 t2 t3:Ak}{I l1 l2 l3 n:Ag}{xs:A1 Ai}{Q:Ac Ai->As->Prop}(calm:A.handled=Af)(b1:l1<I)(b2:l2<I)(b3:l3<I)(n0:0<n)(nn:n<=1000)(e1:xs.size=n)(e2:ys.size=n)(e3:us.size=n)(hz:Z_3 t1 t2 t3 I l1 l2 l3 0 s.heap)(q1:Cy t1 s.heap l1 xs)(q2:Cy t2 s.heap l2 ys)(q3:Cy t3 s.heap l3 us)(hQ:∀ h2 acc tk,(∀ d o,d∉z3w I->s.heap.get? d=Ab o->h2.get? d=Ab o)->Ls I s.heap.objs.size xs ys us n acc h2->Q acc.toList {s with heap:=h2,toks:=tk}):AC (model prog w) A (collect (.ref (I+5))) Q E s:=by
  have lt:=hz.lt;have hSI:s.heap.objs.size≠I+5:=De lt;unfold collect;refine Ah (ZN (DP F.entry_proto_collect ?_));rw[Dl F.plain_proto_collect _];show AC _ A.in1 (newList [] >>= λl=>again (.builtin "list.__iadd__" ⟨[l,.ref (I+5)],[]⟩)) _ _ s
  refine Ah (CO ?_);refine Aw ⟨Gi YX _,DP F.entry_list_iadd ?_⟩;rw[Dl YX _];have hz1:Z_3 t1 t2 t3 I l1 l2 l3 0 (s.heap.push { cls:=.type "list",data:=.seq ([]:Ac Ai).toArray }):=mU hz;have ty1:Za { s with heap:=s.heap.push { cls:=.type "list",data:=.seq ([]:Ac Ai).toArray } } (.ref (I+5)) "zip" := Z_3.ty (s:={ s with heap:=s.heap.push { cls:=.type "list",data:=.seq ([]:Ac Ai).toArray } }) hz1
  show AC _ A.in1 (Yh (.ref s.heap.objs.size) (.ref (I+5)) (.ref s.heap.objs.size)) _ _ _;unfold Yh;refine Ah (wpAny_typeOf ty1 ?_);have h1:Yi (.ref s.heap.objs.size) (.ref (I+5))=Ae:=by simp[Yi,hSI]
  have h2:(Fi "zip" == Fi "list")=Ae:=by decide
  have h3:(Fi "zip" == Fi "tuple")=Ae:=by decide
  simp only[h1,h2,h3,Gd,FN,Ha];refine Ah (gZ ty1 ?_);refine Ah (Cc ?_);unfold Builtin.List.listLengthHint;refine Ah (GP ty1 eQ ?_);show AC _ A.in1 (specialOf (Dt (I+5)) (Az "__length_hint__") >>= _) _ _ _;refine Ah (GP ty1 eE ?_);refine Aw ?_;show AC _ A.in1 (rule "list.extend.makes-room" >>= λ_=>Builtin.List.listTouch (.ref s.heap.objs.size) >>= λ_=>
    again (.builtin "list.extend.loop" ⟨[.ref s.heap.objs.size,.ref (I+5),.ref s.heap.objs.size],[]⟩)) _ _ _
  refine Ah (GO ?_);have hS₁:(s.heap.push { cls:=.type "list",data:=.seq ([]:Ac Ai).toArray }).get? s.heap.objs.size=Ab { cls:=.type "list",data:=.seq ([]:Ac Ai).toArray }:=AB _ rfl;refine Ah ?_;show AC _ A.in1 (JR s.heap.objs.size (·.push .none) >>= λ_=>JR s.heap.objs.size (·.pop)) _ _ _
  refine Ah (FM hS₁ rfl ?_);have hS₂:=Ci (CV (·.push Da)) hS₁ rfl;refine FM hS₂ rfl ?_;have hS₃:=Ci (CV (·.pop)) hS₂ rfl;have oth:∀ b o,b≠s.heap.objs.size->(s.heap.push { cls:=.type "list",data:=.seq ([]:Ac Ai).toArray }).get? b=Ab o ->
      (((s.heap.push { cls:=.type "list",data:=.seq ([]:Ac Ai).toArray }).update s.heap.objs.size (CV (·.push Da))).update s.heap.objs.size (CV (·.pop))).get? b=Ab o:=
    λb o hb e=>(Cp _ _ (Br hb)).trans ((Cp _ _ (Br hb)).trans e)
  have oth':∀ b o,s.heap.get? b=Ab o->(((s.heap.push { cls:=.type "list",data:=.seq ([]:Ac Ai).toArray }).update s.heap.objs.size (CV (·.push Da))).update s.heap.objs.size (CV (·.pop))).get? b=Ab o:=
    λb o e=>oth b o (AZ (AE e)) (Ar _ e)
  refine Aw ⟨Gi Fw _,mV calm b1 b2 b3 s.heap.objs.size lt n0 nn e1 e2 e3 n 0 _ _ _ rfl (Fs _) (hz1.at' λj hj o q=>oth _ o (λe=>by rw[<-e]at lt;exact absurd lt (FT.mpr (G0 hj I))) q) (q1.at' λo e=>oth' _ o e) (q2.at' λo e=>oth' _ o e) (q3.at' λo e=>oth' _ o e) hS₃ ⟨rfl,λj hj=>absurd hj (GH _),λj1 j2 a e=>by simp[CV]at e⟩ λh2 acc c tk kp hS hd=>?_⟩
  show AC _ A (load s.heap.objs.size >>= _) _ _ _;refine Ah (wpAny_load hS ?_);exact Aw (hQ h2 acc tk (λd o nd e=>kp d o nd (AZ (AE e)) (oth' d o e)) hd)
theorem mW{t1 t2 t3:Ak}{I l1 l2 l3 n:Ag}{xs:A1 Ai}{Q₁:Vq}(calm:A.handled=Af)(b1:l1<I)(b2:l2<I)(b3:l3<I)(n0:0<n)(nn:n<=1000)(e1:xs.size=n)(e2:ys.size=n)(e3:us.size=n)(hz:Z_3 t1 t2 t3 I l1 l2 l3 0 s.heap)(q1:Cy t1 s.heap l1 xs)(q2:Cy t2 s.heap l2 ys)(q3:Cy t3 s.heap l3 us)(h:∀ h2 acc tk,(∀ d o,d∉z3w I->s.heap.get? d=Ab o->h2.get? d=Ab o)->Ls I s.heap.objs.size xs ys us n acc h2->Q₁ (.ref h2.objs.size) { s with heap:=h2.push { cls:=.type "tuple",data:=.seq acc },toks:=tk }):
  Fu (model prog w) A (.call (.builtin "tuple.__new__") ⟨[.type "tuple",.ref (I+5)],[]⟩) (wants Q₁ E) s:=by
 refine Zx ?_;show AC _ A.in1 (do Zw "tuple.__new__" ⟨[.type "tuple",.ref (I+5)],[]⟩;again (.builtin "tuple.__new__" ⟨[.type "tuple",.ref (I+5)],[]⟩)) _ _ s
 refine Ah (wpAny_of_eq (F.newCall_tuple_1 _) (Aw ⟨Gi YY _,DP F.entry_tuple_new ?_⟩));rw[Dl YY _];have hsub:=sub_tuple_self;have hinit:=init_tuple_lookup;have hmh:=madeHere_tuple;have hTI:=hz.ty;have calm2:A.in1.handled=Af:=calm
 wp_walk using wpAny_typeOf hTI,eS calm2 b1 b2 b3 n0 nn e1 e2 e3 hz q1 q2 q3
 intro h2 acc tk kp hd;show AC _ _ (Dh acc.toList.toArray >>= λv=>ret v) _ _ _
 unfold Dh;refine Ah (CO ?_ (by show acc.toList.toArray.size<=sizeLine;simp only[Xi];rw[hd.1,Ew];omega))
 refine Aw ?_;have e:acc.toList.toArray=acc:=by simp
 rw[e];exact h h2 acc tk kp hd
theorem iB{t1 t2 t3:Ak}{I l1 l2 l3 n:Ag}{xs:A1 Ai}{Q:Vq}(calm:A.handled=Af)(b1:l1<I)(b2:l2<I)(b3:l3<I)(n0:0<n)(nn:n<=1000)(e1:xs.size=n)(e2:ys.size=n)(e3:us.size=n)(hz:Z_3 t1 t2 t3 I l1 l2 l3 0 s.heap)(q1:Cy t1 s.heap l1 xs)(q2:Cy t2 s.heap l2 ys)(q3:Cy t3 s.heap l3 us)(h:∀ h2 acc tk,(∀ d o,d∉z3w I->s.heap.get? d=Ab o->h2.get? d=Ab o)->Ls I s.heap.objs.size xs ys us n acc h2->Q (.ref h2.objs.size) { s with heap:=h2.push { cls:=.type "tuple",data:=.seq acc },toks:=tk }):
  AC (model prog w) A (call (.type "tuple") [.ref (I+5)]) Q E s:=by
 refine callType_codes (Q₁:=λobj s₁=>s₁.TypeIs obj "tuple"/\Q obj s₁) F.called_tuple (F.typeCall_tuple_1 _) F.entry_object_init
  (mW (by exact calm) b1 b2 b3 n0 nn e1 e2 e3 hz q1 q2 q3 λh2 acc tk kp hd=>⟨⟨_,AB _ rfl,rfl⟩,h h2 acc tk kp hd⟩) λobj s₁ h₁=>?_
 exact⟨h₁.1,YN obj _,object_init_meets F.called_tuple.init.lookup F.called_tuple.made (by decide) prog w A.in1 _ s₁ ⟨h₁.1,rfl,h₁.2⟩⟩
end
noncomputable def IP(H:Hp)(ps:Ac (Am×Ac V)):Hp:=λb=>match ps.lookup b with
  |some xs=>Ab (.tup xs)
  |none=>H b
theorem Wh(h:ps.lookup a=Ab xs):(a,xs)∈ps:=by
 induction ps with
 |nil=>cases h
 |cons p ps ih=>
  obtain⟨b,ys⟩:=p;rw[B6]at h;split at h
  .rename_i e;cases h;rw[BR]at e;subst e;exact Ax
  .exact At _ (ih h)
theorem Ue(h:∀ p∈ps,p.1≠b):IP H ps b=H b:=by
 unfold IP;cases e:ps.lookup b with
 |none=>rfl
 |some xs=>exact absurd rfl (h _ (Wh e))
theorem jR(ps:Ac (Am×Ac V))(I:Inv X pI Y H s)(k:∀ b u,s.heap.get? b=Ab u->h'.get? b=Ab u)(hp:∀ p∈ps,s.heap.objs.size<=p.1)(new:∀ p∈ps,p.2.length<=sizeLine/\∃ its:Ac Ai,Bj p.2 its/\J5 h' p.1 its.toArray):Inv X pI Y (IP H ps) {s with heap:=h',toks:=t'}:=by
 have old:∀ b,b<s.heap.objs.size->IP H ps b=H b:=λb hb=>Ue λp hq e=>by
  have:=hp p hq;rw[e]at this;exact absurd hb (FT.mpr this)
 have hl:∀ b o,H b=Ab o->IP H ps b=Ab o:=λb o q=>by rw[old b (I.hok.lt q)];exact q
 refine I.un ⟨λb u q _ _ _=>k b u q,λb u q _ _ _=>⟨u.slots,k b u q⟩,λb u q n _=>by rw[old b (AE q)];exact n,λb u q _=>⟨u,k b u q⟩,λb xs q=>hl b _ q,λb u xs q=>hl b _ q,λb xs q=>⟨#[],by rw[hl b _ q];simp⟩⟩ λb u e=>?_
 unfold IP at e;split at e
 .rename_i xs hx;cases e;exact new _ (Wh hx)
 .exact(I.hok b u e).stay (λc v _ q=>k c v q) (λc q=>hl c _ q) λc xs q=>hl c _ q
noncomputable def Ht:Ac V->Ac V->Ac V->Ac (Ac V)
 |x::xs,y::ys,u::us=>[x,y,u]::Ht xs ys us
 |_,_,_=>[]
theorem TK:∀(xs ys us:Ac V)(j:Ag)(r:Ac V),(Ht xs ys us)[j]?=Ab r->∃ x y u,xs[j]?=Ab x/\ys[j]?=Ab y/\us[j]?=Ab u/\r=[x,y,u]
 |[],_,_,j,r,h=>by simp[Ht]at h
 |_::_,[],_,j,r,h=>by simp[Ht]at h
 |_::_,_::_,[],j,r,h=>by simp[Ht]at h
 |x::xs,y::ys,u::us,0,r,h=>by
  simp only[Ht,EJ,Cn]at h;exact⟨x,y,u,rfl,rfl,rfl,h.symm⟩
 |x::xs,y::ys,u::us,j+1,r,h=>by
  simp only[Ht,EI]at h ⊢;exact TK xs ys us j r h
theorem Ni{α β:Type}:∀{as:Ac α}{bs:Ac β}{a:α}{b:β},(a,b)∈as.zip bs->∃ j:Ag,as[j]?=Ab a/\bs[j]?=Ab b
 |[],_,_,_,h=>by simp at h
 |_::_,[],_,_,h=>by simp at h
 |x::as,y::bs,a,b,h=>by
  simp only[He,Av,Jz]at h;rcases h with ⟨rfl,rfl⟩|h
  .exact⟨0,rfl,rfl⟩
  .obtain⟨j,h1,h2⟩:=Ni h;exact⟨j+1,h1,h2⟩
def cU(K:Fg)(ta:TA):TE:=λY H Q=>ta Y H λvs H1=>∃ t1 t2 t3 a b c xs ys us,vs=[.ref a,.ref b,.ref c]/\SqX t1 K H1 a xs/\SqX t2 K H1 b ys/\SqX t3 K H1 c us/\0<xs.length/\xs.length<=1000/\ys.length=xs.length/\us.length=xs.length /\
 ∀(as:Ac Am)(T:Am),as.length=xs.length->as.Nodup->(∀ p∈as,H1 p=Af)->T∉as->H1 T=Af->Q (.ref T) (IP H1 ((T,as.map .ref)::as.zip (Ht xs ys us)))
theorem jC{I S:Ag}{xs acc:A1 Ai}(d:Ls I S xs ys us n acc h):∃ as:Ac Am,acc.toList=as.map Dt/\as.length=n/\as.Nodup/\∀(j:Ag)(a:Am),as[j]?=Ab a->∃ x y u,xs[j]?=Ab x/\ys[j]?=Ab y/\us[j]?=Ab u/\ER h a x y u/\I+5<a:=by
  obtain⟨hn,hj,inj⟩:=d
  let f:Ai->Am:=λv=>match v with
    |.ref a=>a
    |_=>0
  have hg:∀ j v,acc.toList[j]?=Ab v->∃(a:Ag)(x y u:Ai),v=Dt a/\xs[j]?=Ab x/\ys[j]?=Ab y/\us[j]?=Ab u/\ER h a x y u/\I+5<a:=λj v e=>by
    rw[Array.getElem?_toList]at e;have lt:j<n:=by rw[<-hn];exact(CC.mp e).1
    obtain⟨a,x,y,u,r1,r2,r3,r4,r5,r6,_⟩:=hj j lt;rw[e]at r1;cases r1;exact⟨a,x,y,u,rfl,r2,r3,r4,r5,r6⟩
  have hf:∀ v∈acc.toList,Dt (f v)=v:=λv hv=>by
    obtain⟨j,hj⟩:=XE hv;obtain⟨a,_,_,_,rfl,_⟩:=hg j v hj;rfl
  have hm:acc.toList=(acc.toList.map f).map Dt:=by
    rw[DL]
    conv=>lhs;rw[<-List.map_id acc.toList]
    exact DZ λv hv=>(hf v hv).symm
  refine⟨acc.toList.map f,hm,by rw[AV,EH,hn],?_,λj a e=>?_⟩
  · rw[List.nodup_iff_pairwise_ne,List.pairwise_iff_getElem];intro i j hi hj' lt e;rw[AV,EH]at hi hj';have at':∀(k:Ag)(hk:k<acc.size)(hk':k<(acc.toList.map f).length),acc[k]?=Ab (Dt (acc.toList.map f)[k]):=λk hk hk'=>by
      rw[BV hk,List.getElem_map,hf _ (Dd _),Array.getElem_toList]
    have:=inj i j _ (at' i hi _) (by rw[e];exact at' j hj' _)
    omega
  · rw[DS,Option.map_eq_some_iff]at e;obtain⟨v,hv,rfl⟩:=e;obtain⟨a,x,y,u,rfl,r⟩:=hg j v hv;exact⟨x,y,u,r⟩
theorem yG{a b:Ao}{p':A6}(hc:X.calm=Aa)(hg:Gl X "tuple")(hm:X.mg "tuple" = Af)(hg':Gl X "zip")(hm':X.mg "zip" = Af)(ha:PA X [a,b,c] ta)(hs:AI [a,b,c] X.env=[(Ae,eval a X.env),(Ae,eval b X.env),(Ae,eval c X.env)])(hs2:AI [b,c] X.env=[(Ae,eval b X.env),(Ae,eval c X.env)]):
    PE X (.Call (.Name "tuple" p) [.Call (.Name "zip" p') [a,b,c] [] pos'] [] pos) (cU X.K ta):=by
  intro pI s Y H Q I h;refine Ja (HY I hg hm FZ (Ce ?_ rfl rfl));show AC _ _ (spliced ((Ae,eval (.Call (.Name "zip" p') [a,b,c] [] pos') X.env)::CU pos (AI [] X.env))) _ _ s;refine Hg ?_;refine Ja (HY I hg' hm' X8 (Ce (thn (ha pos' pI s Y H _ I h) λus s1 ⟨vs,H1,I1,r1,q1⟩=>?_) (by rw[hs,hs2]) (by rw[hs2];rfl)))
  obtain⟨t1,t2,t3,l1,l2,l3,xs,ys,zs,e,sx,sy,sz,n0,nn,ey,ez,q⟩:=q1;subst e;cases r1 with
  |cons r rr=>
    cases rr with
    |cons r' rr=>
      cases rr with
      |cons r'' rr=>
        cases rr;cases r;cases r';cases r'';obtain⟨xv,rx,ix,_⟩:=Hs I1 sx;obtain⟨yv,ry,iy,_⟩:=Hs I1 sy;obtain⟨zv,rz,iz,_⟩:=Hs I1 sz;refine fR ix iy iz λh2 z hsz kp=>F1 ?_
        have lx:=rx.length;have ly:=ry.length;have lz:=rz.length;refine iB (s:={s1 with heap:=h2}) (n:=xs.length) (I1.ok.hd hc) ix.lt iy.lt iz.lt n0 nn (by simp[lx]) (by simp[<-ly,ey]) (by simp[<-lz,ez]) z (ix.at' λo e=>kp _ o e) (iy.at' λo e=>kp _ o e) (iz.at' λo e=>kp _ o e) λh3 acc tk kp3 dr=>?_
        obtain⟨as,e1,e2,nd,each⟩:=jC dr;have nw:∀ b,b<s1.heap.objs.size->b∉z3w s1.heap.objs.size:=λb hb=>Ou hb
        have kp4:∀ b o,s1.heap.get? b=Ab o->(h3.push { cls:=.type "tuple",data:=.seq acc }).get? b=Ab o:=λb o e=>Ar _ (kp3 b o (nw b (AE e)) (kp b o e))
        have big:∀ a∈as,s1.heap.objs.size<=a/\a<h3.objs.size:=λa ha=>by
          obtain⟨j,hj⟩:=XE ha;obtain⟨x,y,u,_,_,_,tr,lt⟩:=each j a hj;exact⟨E5 (D7 (DC _ 5) lt),AE tr⟩
        have b3:s1.heap.objs.size<=h3.objs.size:=by
          obtain⟨a,ha⟩:∃ a,a∈as:=List.exists_mem_of_length_pos (by rw[e2];exact n0)
          exact E5 (D7 (big a ha).1 (big a ha).2)
        refine⟨.ref h3.objs.size,_,jR (s:=s1) (h':=h3.push { cls:=.type "tuple",data:=.seq acc }) (t':=tk) ((h3.objs.size,as.map V.ref)::as.zip (Ht xs ys zs)) I1 kp4 (λp hp=>?_) (λp hp=>?_),rfl,q as h3.objs.size e2 nd (λp hp=>I1.hok.fresh (big p hp).1) (λhT=>absurd (big _ hT).2 (Bw _)) (I1.hok.fresh b3)⟩
        · rcases Av.mp hp with rfl|hp
          · exact b3
          · obtain⟨j,h1,h2⟩:=Ni (a:=p.1) (b:=p.2) hp;exact(big _ (DM h1)).1
        · rcases Av.mp hp with rfl|hp
          · refine⟨by rw[AV,e2,Ew];omega,as.map Dt,?_,?_⟩
            · clear q each big hp e1 e2 nd
              induction as with
              |nil=>exact .nil
              |cons a as ih=>exact .cons rfl ih
            · rw[<-e1,Xi];exact JG _ _
          · obtain⟨j,h1,h2⟩:=Ni (a:=p.1) (b:=p.2) hp;obtain⟨x,y,u,g1,g2,g3,er⟩:=TK _ _ _ _ _ h2;obtain⟨x',y',u',k1,k2,k3,tr,_⟩:=each j _ h1;obtain⟨x2,m1,w1⟩:=rx.get g1;obtain⟨y2,m2,w2⟩:=ry.get g2;obtain⟨u2,m3,w3⟩:=rz.get g3;rw[Gz]at k1 k2 k3;cases m1.symm.trans k1;cases m2.symm.trans k2;cases m3.symm.trans k3;rw[er];exact⟨by show 3<=sizeLine;decide,[x',y',u'],.cons w1 (.cons w2 (.cons w3 .nil)),⟨_,Ar _ tr,rfl,_,rfl⟩⟩
theorem Tg{K:Fg}{CL:ClA}{H H3:Hp}{A:Am->Prop}(hA:AOk H A)(sm:AN H H3):∀{as:Ac Am}{xs ys us:Ac V}{ds es fs:Ac D},(∀(j:Ag)(a:Am)(r:Ac V),as[j]?=Ab a->(Ht xs ys us)[j]?=Ab r->H3 a=Ab (.tup r))->(∀ p∈as,H p=Af)->as.length=xs.length->ys.length=xs.length->us.length=xs.length->Reps K CL H A xs ds->Reps K CL H A ys es->Reps K CL H A us fs->Reps K CL H3 A (as.map .ref) (RD ds es fs)
 |[],[],[],[],[],[],[],_,_,_,_,_,_,_,_=>trivial
 |a::as,x::xs,y::ys,u::us,d::ds,e::es,f::fs,h,hn,l1,l2,l3,r1,r2,r3=>
  ⟨⟨a,[x,y,u],rfl,.inl (hA.new (hn a Ax)),SqT.of (h 0 a _ rfl rfl),r1.1.same sm,r2.1.same sm,r3.1.same sm,trivial⟩,
   Tg hA sm (λj a' r p q=>h (j+1) a' r p q) (λp hp=>hn p (At _ hp)) (HM l1) (HM l2) (HM l3) r1.2 r2.2 r3.2⟩
 |[],_::_,_,_,_,_,_,_,_,l,_,_,_,_,_=>nomatch l
 |_::_,[],_,_,_,_,_,_,_,l,_,_,_,_,_=>nomatch l
 |_,[],_::_,_,_,_,_,_,_,_,l,_,_,_,_=>nomatch l
 |_,[],_,_::_,_,_,_,_,_,_,_,l,_,_,_=>nomatch l
 |_,_::_,[],_,_,_,_,_,_,_,l,_,_,_,_=>nomatch l
 |_,_::_,_,[],_,_,_,_,_,_,_,l,_,_,_=>nomatch l
 |_,[],_,_,_::_,_,_,_,_,_,_,_,r,_,_=>r.elim
 |_,_::_,_,_,[],_,_,_,_,_,_,_,r,_,_=>r.elim
 |_,_,[],_,_,_::_,_,_,_,_,_,_,_,r,_=>r.elim
 |_,_,_::_,_,_,[],_,_,_,_,_,_,_,r,_=>r.elim
 |_,_,_,[],_,_,_::_,_,_,_,_,_,_,_,r=>r.elim
 |_,_,_,_::_,_,_,[],_,_,_,_,_,_,_,r=>r.elim
theorem Wg:∀{as:Ac Am}{rs:Ac (Ac V)}{j:Ag}{a:Am}{r:Ac V},as.Nodup->as[j]?=Ab a->rs[j]?=Ab r->(as.zip rs).lookup a=Ab r
 |[],_,_,_,_,_,h,_=>by simp at h
 |_::_,[],_,_,_,_,_,h=>by simp at h
 |b::as,q::rs,0,a,r,nd,h1,h2=>by
  simp only[EJ,Cn]at h1 h2;subst h1 h2;rw[He,XM]
 |b::as,q::rs,j+1,a,r,nd,h1,h2=>by
  simp only[EI]at h1 h2;have nb:a≠b:=λe=>by subst e;exact(BM.mp nd).1 (DM h1)
  rw[He,B6,n5 nb];exact Wg (BM.mp nd).2 h1 h2
section
variable{X:Cx}{CL:ClA}{W:XW}{pos p pos' p':A6}{a b c:Ao}{fa fb fc:Rho->R D}
theorem xQ(ha:SE X CL W a fa)(hb:SE X CL W b fb)(hd:SE X CL W c fc)(hc:X.calm=Aa)(hg:Gl X "tuple")(hm:X.mg "tuple" = Af)(hg':Gl X "zip")(hm':X.mg "zip" = Af)(hs:AI [a,b,c] X.env=[(Ae,eval a X.env),(Ae,eval b X.env),(Ae,eval c X.env)])(hs2:AI [b,c] X.env=[(Ae,eval b X.env),(Ae,eval c X.env)])(hs3:AI [c] X.env=[(Ae,eval c X.env)]):
  SE X CL W (.Call (.Name "tuple" p) [.Call (.Name "zip" p') [a,b,c] [] pos'] [] pos) (λU=>((fa U).bind λx=>(fb U).bind λy=>(fc U).bind λz=>Lx x y z).bind λxs=>.ok (.tup xs)):=
 λA=>PE.weak (yG hc hg hm hg' hm' (Fj (ha A) (Fj (hb A) (Fj (hd A) G5 hs3) (by rw[hs2,hs3])) (by rw[hs,hs2])) hs hs2) λY H Q ⟨hA,U,g,q⟩=>by
  simp only[R.bind_assoc]at q;refine⟨hA,U,g,By.bind q λd v H1 _ s1 r1 p1=>⟨hA.same s1,U,g.same s1,By.bind p1 λd2 v2 H2 _ s2 r2 p2=>⟨(hA.same s1).same s2,U,(g.same s1).same s2,By.bind p2 λd3 v3 H3 _ s3 r3 p3=>?_⟩⟩⟩
  unfold Lx at p3;cases e1:Ch d with
  |bad=>rw[e1]at p3;exact p3.elim
  |exn z=>exact absurd e1 (by cases d<;>simp[Ch])
  |ok ds=>
   cases e2:Ch d2 with
   |bad=>rw[e1,e2]at p3;exact p3.elim
   |exn z=>exact absurd e2 (by cases d2<;>simp[Ch])
   |ok es=>
    cases e3:Ch d3 with
    |bad=>rw[e1,e2,e3]at p3;exact p3.elim
    |exn z=>exact absurd e3 (by cases d3<;>simp[Ch])
    |ok fs=>
     rw[e1,e2,e3]at p3;simp only[R.bind_ok]at p3;obtain⟨t1,c1,xs,rfl,k1,rs1⟩:=Lu ((r1.same s2).same s3) e1;obtain⟨t2,c2,ys,rfl,k2,rs2⟩:=Lu (r2.same s3) e2;obtain⟨t3,c3,us,rfl,k3,rs3⟩:=Lu r3 e3;split at p3
     .rename_i hn;obtain⟨n0,nn,ny,nz⟩:=hn;rw[<-rs1.length]at n0 nn ny nz;rw[<-rs2.length]at ny;rw[<-rs3.length]at nz;refine⟨t1,t2,t3,c1,c2,c3,xs,ys,us,rfl,k1 H3 (Kp.of (AN.refl H3)),k2 H3 (Kp.of (AN.refl H3)),k3 H3 (Kp.of (AN.refl H3)),n0,nn,ny,nz,λas T el nd fr hT fT=>?_⟩
      have hA3:AOk H3 A:=((hA.same s1).same s2).same s3;have fr':∀ q∈(T,as.map V.ref)::as.zip (Ht xs ys us),H3 q.1=Af:=λq hq=>by
       rcases Av.mp hq with rfl|hq
       .exact fT
       .obtain⟨j,h1,h2⟩:=Ni (a:=q.1) (b:=q.2) hq;exact fr _ (DM h1)
      have sm:AN H3 (IP H3 ((T,as.map V.ref)::as.zip (Ht xs ys us))):=λb o e=>by
       rw[Ue λq hq z=>by rw[<-z,fr' q hq]at e;cases e]
       exact e
      refine p3 _ _ sm ⟨T,as.map V.ref,rfl,.inl (hA3.new fT),SqT.of ?_,Tg hA3 sm (λj a r h1 h2=>?_) fr el ny nz rs1 rs2 rs3⟩
      .unfold IP;rw[XM]
      .have na:a≠T:=λe=>by subst e;exact hT (DM h1)
       unfold IP;rw[B6,n5 na,Wg nd h1 h2]
     .exact p3.elim
end
section
variable{X:Cx}{CL:ClA}{W:XW}{pos p tpos:A6}{a b c:Ao}{fa fb fc:Rho->R D}{x:An}
end
section
variable{X:Cx}{CL:ClA}{W:XW}{a:Ao}{fa:Rho->R D}
end
section
variable{X:Cx}{CL:ClA}{W:XW}{o o' e:Ao}{fe:Rho->R D}{i j:Ag}{apos cpos apos' cpos' pos:A6}
end
section
variable{X:Cx}{CL:ClA}{W:XW}
end
section
variable{X:Cx}
variable{CL:ClA}{W:XW}{pos p pos' p':A6}{a b:Ao}{fa fb:Rho->R D}
end
section
variable{X:Cx}{CL:ClA}{W:XW}{e o o' k l:Ao}{fe:Rho->R Ov.D}{i ik il:Ag}{pos spos spos' tpos:A6}{kt:Ag}
end
section
variable{prog:AU}{w:AH}{A:Bc}{E:Vq}{s:As}
theorem TB{it t:Am}{items:A1 Ai}(hne:t≠it):∀(n i:Ag)(s:As)(Q:Ac Ai->As->Prop),s.heap.IsListIter it t i->s.heap.IsList t items->i+n<=items.size->(∀ h',h'.IsListIter it t (i+n)->EC it s.heap h'->Q ((items.toList.drop i).take n) {s with heap:=h'})->AC (model prog w) A (draw (.ref it) n) Q E s
 |0,i,s,Q,hit,_,_,hQ=>by
  show AC _ _ (pure []) Q E s;exact Aw (by simpa using hQ s.heap hit (Y_2 ..))
 |n+1,i,s,Q,hit,ht,hle,hQ=>by
  have hlt:i<items.size:=by omega
  show AC _ _ (D0 (.ref it) >>= _) Q E s;refine Ah (ZM hit ht (x:=items[i]) (by simp[hlt]) λh₁ hit₁ hs₁=>?_)
  refine Ah (Cc (TB hne n (i+1) _ _ hit₁ (ht.extBut hs₁.extBut hne) (by omega) λh₂ hit₂ hs₂=>Aw ?_))
  have hd:items.toList.drop i=items[i]::items.toList.drop (i+1):=by simp[FG,hlt]
  have:=hQ h₂ (by rw[show i+(n+1)=i+1+n by omega];exact hit₂) (hs₁.trans hs₂)
  rw[hd,List.take_succ_cons]at this;exact this
theorem dH{t:Am}{Q:Ac Ai->As->Prop}(hh:A.handled=Af)(ht:s.heap.IsList t items)(hQ:∀ h',Iw s.heap.objs.size s.heap h'->Q items.toList {s with heap:=h'}):AC (model prog w) A (unpackItems (.ref t) items.size Af) Q E s:=by
 have hlt:t≠s.heap.objs.size:=by obtain⟨o,ho,_⟩:=ht;exact AZ (AE ho)
 have htp:(s.heap.push { cls:=.type "list_iterator",data:=.fields #[.ref t,.int 0 0] }).IsList t items:=by
  obtain⟨o,ho,r⟩:=ht;exact⟨o,Ar _ ho,r⟩
 unfold unpackItems;refine Ah ?_
 .unfold notIterableAtAll;refine Ah (GP ht.typeIs slot_list_iter.lookup ?_);refine Aw ?_;simp only[FN,Ha];refine Ah (Cc (En ht ?_));refine Ah (Cc (TB hlt items.size 0 _ _ ⟨_,AB _ rfl,rfl,rfl⟩ htp (by omega) λh₁ hit₁ hs₁=>?_))
  have hall:List.take items.size (List.drop 0 items.toList)=items.toList:=by
   rw[XB];exact D6 (by simp)
  rw[hall];rw[AW (by simp)]
  have ht₁:h₁.IsList t items:=htp.extBut hs₁.extBut hlt;refine Ah (Cc (ZL hh hit₁ ht₁ (by simp) λh₂ he₂=>?_))
  simp only[Option.isSome_none,FN,Ha];refine Aw (hQ h₂ λb o hb e=>he₂ b o hb (hs₁.extBut b o hb (Ar _ e)))
theorem dJ{elts:Ac Ao}{x1}{t:Am}{Q:Ji->As->Prop}(hh:A.handled=Af)(ht:s.heap.IsList t items) (hn:(CG elts env).length=items.size) (hstar:(CG elts env).findIdx? (·.1)=Af) (h:∀ h',Iw s.heap.objs.size s.heap h'->AC (model prog w) A (assignInOrder ((CG elts env).map (·.2)) items.toList) Q E {s with heap:=h'}):AC (model prog w) A (assign (.Tuple elts x1 pos) env (.ref t)) Q E s:=by
 rw[assign_Tuple];refine Ah (Hn ?_);unfold unpack;rw[hn,hstar];exact Ah (Cc (dH hh ht h))
end
section
variable{X:Cx}{pos:A6}{CL:ClA}
def gSq(K:Fg)(n:Ag)(t:TGs):TG:=λv Y H Q=>LP K n t v Y H Q\/∃ a xs,v=.ref a/\SqL K H a xs/\xs.length=n/\t xs Y H Q
theorem jx{t:TGs}(hc:X.calm=Aa)(h:PGs X es t)(hn:(CG es X.env).length=n)(hst:(CG es X.env).findIdx? (·.1)=Af):PG X (.Tuple es k pos) (gSq X.K n t):=by
 intro pI s Y H v u Q I r hw;rcases hw with hw|hw
 .exact Q9 hc h hn hst pI s Y H v u Q I r hw
 .obtain⟨a,xs,e1,hq,hl,hw⟩:=hw;subst e1;cases r;obtain⟨its,rv,ht,hz⟩:=I.list hq;refine dJ (I.ok.hd hc) ht.isList (by simp[hn,<-hl,rv.length]) hst λh' hx=>?_
  have I1:Inv X pI Y H {s with heap:=h'}:=I.kept (t':=s.toks) λb o e=>hx b o (AZ (AE e)) e
  exact h pI _ Y H xs _ Q I1 (by simpa using rv) hw
theorem ZR(ts:Ac Ag):GT K CL (Js ts) (gSq K ts.length (ts.foldr (λt u=>Ia (FC t) u) Il)):=λFz B U Y H v d U' Q x r e k=>by
 cases d with
 |lst ds=>
  obtain⟨a,xs,rfl,na,sq,rs⟩:=r;rw[iT]at e;cases e2:EW ts ds U with
  |none=>rw[e2]at e;cases e
  |some U2=>
   rw[e2]at e;cases e;exact .inr ⟨a,xs,rfl,sq,by rw[rs.length];exact NB _ _ _ _ e2,Rl ts ds xs U _ Y Q x rs e2 k⟩
 |_=>exact .inl (Wk ts Fz B U Y H v _ U' Q x r e k)
end
section
variable{X:Cx}{CL:ClA}{W:XW}
end
end Ov
namespace Ov
open PySem PySem.W PyProof.Rows
variable{p:A1 Ag}{m:Ag}
def Kr{α:Type}(lt:Ag->Ag->Ak)(n:Ag):KasT α->(α->Prop)->Prop
 |.ret a,Q=>Q a
 |.ask i j k,Q=>i<n/\j<n/\Kr lt n (k (lt i j)) Q
theorem Kr.mono{α:Type}{lt:Ag->Ag->Ak}{n:Ag}{Q Q':α->Prop}:∀{t:KasT α},Kr lt n t Q->(∀ a,Q a->Q' a)->Kr lt n t Q'
 |.ret _,h,k=>k _ h
 |.ask i j f,h,k=>⟨h.1,h.2.1,Kr.mono (t:=f (lt i j)) h.2.2 k⟩
theorem Kr.bind{α β:Type}{lt:Ag->Ag->Ak}{n:Ag}{f:α->KasT β}{Q:β->Prop}:∀{t:KasT α},Kr lt n t (λa=>Kr lt n (f a) Q)->Kr lt n (t.bind f) Q
 |.ret _,h=>h
 |.ask i j k,h=>⟨h.1,h.2.1,Kr.bind (t:=k (lt i j)) h.2.2⟩
structure Sto (lt:Ag->Ag->Ak) (n:Ag):Prop where
 tr:∀ i j k,i<n->j<n->k<n->lt i j=Aa->lt j k=Aa->lt i k=Aa
 tot:∀ i j,i<n->j<n->i≠j->lt i j=Ae->lt j i=Aa
 asy:∀ i j,i<n->j<n->lt i j=Aa->lt j i=Ae
noncomputable def at0(p:A1 Ag)(x:Ag):Ag:=p.getD x 0
structure Pm (n:Ag) (p:A1 Ag):Prop where
 sz:p.size=n
 lt:∀ x,x<n->at0 p x<n
 inj:∀ x y,x<n->y<n->at0 p x=at0 p y->x=y
section
variable{lt:Ag->Ag->Ak}{n:Ag}
def O3(lt:Ag->Ag->Ak)(p:A1 Ag)(m:Ag):Prop:=∀ x y,x<y->y<m->lt (at0 p x) (at0 p y)=Aa
def O8(lt:Ag->Ag->Ak)(p:A1 Ag)(m:Ag):Prop:=∀ x y,x<y->y<m->lt (at0 p y) (at0 p x)=Aa
theorem O3.succ(S:Sto lt n)(hp:Pm n p)(h1:1<=m)(hm:m<n)(h:O3 lt p m)(e:lt (at0 p (m-1)) (at0 p m)=Aa):O3 lt p (m+1):=λx y hxy hy=>by
 by_cases hym:y<m
 .exact h x y hxy hym
 .have:y=m:=by omega
  subst this;by_cases hx:x=y-1
  .rw[hx];exact e
  .exact S.tr _ _ _ (hp.lt _ (by omega)) (hp.lt _ (by omega)) (hp.lt _ hm) (h x (y-1) (by omega) (by omega)) e
theorem O8.succ(S:Sto lt n)(hp:Pm n p)(h1:1<=m)(hm:m<n)(h:O8 lt p m)(e:lt (at0 p m) (at0 p (m-1))=Aa):O8 lt p (m+1):=λx y hxy hy=>by
 by_cases hym:y<m
 .exact h x y hxy hym
 .have:y=m:=by omega
  subst this;by_cases hx:x=y-1
  .rw[hx];exact e
  .exact S.tr _ _ _ (hp.lt _ hm) (hp.lt _ (by omega)) (hp.lt _ (by omega)) e (h x (y-1) (by omega) (by omega))
end
section
variable{prog:AU}{w:AH}{A:Bc}{E:Vq}{κ:SortKind}{it:A1 Keyed}
end
section
variable{lt:Ag->Ag->Ak}{n:Ag}
end
def QU(h:AM)(v:Ai)(r:Ac Ad):Prop:=∃ a its,v=.ref a/\J5 h a its/\HE its.toList r/\r≠[]
theorem QU.kept{h h':AM}{v:Ai}{r:Ac Ad}(t:QU h v r)(k:∀ b o,h.get? b=Ab o->h'.get? b=Ab o):QU h' v r:=by
 obtain⟨a,its,e,⟨o,ho,q⟩,i,n⟩:=t;exact⟨a,its,e,⟨o,k _ _ ho,q⟩,i,n⟩
section
variable{prog:AU}{w:AH}{A:Bc}{E:Vq}{s:As}
end
end Ov
section
namespace Ov
open PySem PySem.Spec PyProof.Rows L2
section
variable{X:Cx}{CL:ClA}{W:XW}
theorem U_2:∀{is:Ac Ad}{its:Ac Ai},Bj (is.map V.int) its->HE its is
 |[],_,h=>by cases h;exact .nil
 |i::is,_,h=>by
  cases h with
  |cons h1 h2=>
   obtain⟨t,rfl⟩:=h1;exact .cons i t (U_2 h2)
end
end Ov
end
section
namespace Ov
open PySem PySem.Spec PyProof.Rows
variable{α:Type}{a b:Am}{h:Ad}{Q:Ak->As->Prop}{hs k:Ac Ad}
section
variable{t:L4}{hashAt:Ag->Ad}{h:Ad}
noncomputable def stand(i b:Ag):SetTable.Probe:=⟨i,0,i,b,Af⟩
noncomputable def nxt(i b:Ag):Ag:=(i*5+1+b/32)%8
noncomputable def itP:Ag->Ag->Ag->Ag
 |i,_,0=>i
 |i,b,k+1=>itP (nxt i b) (b/32) k
theorem dm(hm:t.mask=7)(i b:Ag):t.advance (stand i b)=stand (nxt i b) (b/32):=by
 unfold SetTable.advance stand SetTable.leap Y_8 nxt;simp[hm]
theorem ZS(hm:t.mask=7)(hd:∀ j,t.slot j≠.dummy)(hl:∀ j i,t.slot j=.live i->(hashAt i==h)=Ae):∀(k f i b:Ag),k<f->t.slot (itP i b k)=.empty->∃ j,HA t hashAt h f (stand i b)=Ab (.empty j Af):=by
 intro k
 induction k with
 |zero=>
  intro f i b hf e;obtain⟨f,rfl⟩:∃ f',f=f'+1:=⟨f-1,by omega⟩
  refine⟨i,?_⟩;unfold HA;rw[show (stand i b).j=i from rfl,show t.slot i=.empty from e]
  rfl
 |succ k ih=>
  intro f i b hf e;obtain⟨f,rfl⟩:∃ f',f=f'+1:=⟨f-1,by omega⟩
  unfold HA;rw[show (stand i b).j=i from rfl]
  cases e1:t.slot i with
  |empty=>exact⟨i,rfl⟩
  |dummy=>exact absurd e1 (hd i)
  |live i'=>
   dsimp only;rw[hl i i' e1,dm hm];exact ih f _ _ (by omega) e
theorem NV:∀(k i b:Ag),itP i b (k+1)=(itP i b k*5+1+b/32 ^ (k+1))%8
 |0,i,b=>by
  show nxt i b=_;unfold nxt itP;rw[Nat.pow_one]
 |k+1,i,b=>by
  show itP (nxt i b) (b/32) (k+1)=(itP (nxt i b) (b/32) k*5+1+_)%8;rw[NV k,Nat.div_div_eq_div_mul,X4 32 (k+1),Nat.mul_comm 32]
theorem Nw{j i:Ag}(e:t.slot j=.live i):t.place[i]?=Ab j:=by
 unfold Y_9 at e;dsimp only at e;split at e
 .rename_i h1;cases e;exact eq_of_beq h1
 .split at e<;>cases e
theorem NP(hd:t.dummies=#[])(j:Ag):t.slot j≠.dummy:=by
 unfold Y_9 JJ;rw[hd];dsimp only;split
 .exact λz=>nomatch z
 .rw[AW (by simp)]
  exact λz=>nomatch z
theorem eJ(hm:t.mask=7)(hd:t.dummies=#[])(hn:t.place.size<=2)(i:Ag){b:Ag}(hb:b<2 ^ 64):∃ k,k<20/\t.slot (itP i b k)=.empty:=by
  have z:∀ k,13<=k->b/32 ^ (k+1)=0:=λk hk=>Nat.div_eq_of_lt (AK hb (by
    calc 2 ^ 64<=32 ^ 14:=by decide
      _<=32 ^ (k+1):=Et (by decide) (by omega)))
  have e0:=NV 13 i b;have e1:=NV 14 i b;have e2:=NV 15 i b;rw[z 13 (by omega)]at e0
  rw[z 14 (by omega)]at e1
  rw[z 15 (by omega)]at e2
  have l14:itP i b 14<8:=by rw[e0];exact Nat.mod_lt _ (by decide)
  have key:∀ a:Ag,a<8->a≠(a*5+1+0)%8/\a≠((a*5+1+0)%8*5+1+0)%8/\(a*5+1+0)%8≠((a*5+1+0)%8*5+1+0)%8:=by decide
  rw[e1]at e2;obtain⟨k1,k2,k3⟩:=key _ l14;rw[<-e1]at k1;rw[<-e2]at k2;rw[<-e2,<-e1]at k3;cases s0:t.slot (itP i b 14) with
  |empty=>exact⟨14,by omega,s0⟩
  |dummy=>exact absurd s0 (NP hd _)
  |live i0=>
    cases s1:t.slot (itP i b 15) with
    |empty=>exact⟨15,by omega,s1⟩
    |dummy=>exact absurd s1 (NP hd _)
    |live i1=>
      cases s2:t.slot (itP i b 16) with
      |empty=>exact⟨16,by omega,s2⟩
      |dummy=>exact absurd s2 (NP hd _)
      |live i2=>
        exfalso
        have p0:=Nw s0;have p1:=Nw s1;have p2:=Nw s2;have l0:=(CC.mp p0).1;have l1:=(CC.mp p1).1;have l2:=(CC.mp p2).1;have d01:i0≠i1:=λz=>by
          subst z;exact k1 (BJ (p0.symm.trans p1))
        have d02:i0≠i2:=λz=>by
          subst z;exact k2 (BJ (p0.symm.trans p2))
        have d12:i1≠i2:=λz=>by
          subst z;exact k3 (BJ (p1.symm.trans p2))
        omega
theorem kA(hm:t.mask=7)(hd:t.dummies=#[])(hn:t.place.size<=2)(hl:∀ i,i<t.place.size->hashAt i≠h):∃ j,t.probe hashAt h (t.probeStart h)=Ab (.empty j Af):=by
 have hb:Gg h<2 ^ 64:=by
  unfold Gg;have h0:=AJ h (show (2 ^ 64:Ad)≠0 by decide)
  have h1:=AF h (show (0:Ad)<2 ^ 64 by decide)
  omega
 have e:t.probeStart h=stand (Gg h%8) (Gg h):=by
  unfold SetTable.probeStart Y_8 stand;simp[hm]
 obtain⟨k,hk,ek⟩:=eJ hm hd hn (Gg h%8) hb;unfold SetTable.probe;rw[e];refine ZS hm (NP hd) (λj i s=>?_) k _ _ _ ?_ ek
 .have:=Nw s;exact Du.mpr (hl i (CC.mp this).1)
 .rw[hm];unfold SetTable.turns;omega
theorem Mz(xs:A1 α)(p:Ag)(x:α):(DT xs p x).size=xs.size+1:=by
 unfold DT;simp;omega
theorem Vx{xs:A1 α}{a b:Ag}{y:α}(hy:y∈xs.extract a b):y∈xs:=by
 obtain⟨i,hi,rfl⟩:=Xf.mp hy;rw[Array.getElem_extract];exact Xe _
theorem qP{xs:A1 α}{p:Ag}{x y:α}(hy:y∈DT xs p x):y=x\/y∈xs:=by
 unfold DT at hy;rcases Array.mem_append.mp hy with hy|hy
 .rcases Array.mem_push.mp hy with hy|hy
  .exact .inr (Vx hy)
  .exact .inl hy
 .exact .inr (Vx hy)
end
section
variable{prog:AU}{w:AH}{A:Bc}{E:Vq}{s:As}{K:Type} [DecidableEq K] {knd:KeyKind prog w K}
theorem cX{o:Di}{es:A1 (Ad×Ai)}{ep:Ag}{t:L4}{x:Ai}{Q:SetFound->As->Prop}(ho:s.heap.get? a=Ab o)(hd:o.data=.set es ep t)(hf:t.fits es.size=Aa)(hm:t.mask=7)(hdm:t.dummies=#[])(hn:es.size<=2)(hh:∀ e∈es,e.1≠h)(q:∀ j,Q (.free j Ae) s):AC (model prog w) A (setSearch a x h Aa) Q E s:=by
 have hp:t.place.size=es.size:=by
  unfold JB at hf;exact eq_of_beq (Ap _ _ |>.mp hf).1
 obtain⟨j,ej⟩:=kA (t:=t) (hashAt:=λi=>(es[i]?.map (·.1)).getD 0) (h:=h) hm hdm (by omega) λi hi=>by
  have hi':i<es.size:=by omega
  rw[BV hi'];exact hh _ (Xe _)
 unfold setSearch setSearchFrom;refine Ah (HC ho hd hf ?_);dsimp only;rw[AW (by unfold SetTable.gaveWay;rw[hm];decide)]
 show AC _ _ (match t.probe (λi=>(es[i]?.map (·.1)).getD 0) h (t.probeStart h) with|some met=>_|_=>_) _ _ _
 rw[ej];exact Aw (q j)
theorem hbv{ks:Ac Ad}(hk:Fh (E9 prog w) s.heap ks a)(h:Q Aa s):AC (model prog w) A (Kc 8 (.ref a)) Q E s:=by
 have hT:=hk.typeIs;obtain⟨o,items,n,ho,_,hd,hi⟩:=hk;unfold Kc;refine Ah (GP hT F.slot_tuple_hash.lookup ?_);dsimp only;refine Ah (BX ho hd ?_);refine Ah ?_;show AC _ _ (forIn items _ _) _ _ s;rw[<-Hd];refine wpAny_forIn_list _ (λrest r s'=>r.1=Af/\s'=s/\∃ ks,ItemsAre (E9 prog w) ks rest) _ ?_ ?_ _ _ ⟨rfl,rfl,ks,hi⟩
 .rintro v rest r s' ⟨hr,rfl,ks,hall⟩;cases hall with
  | @cons k _ ks' _ h1 h2=>
   cases v with
   |int i t=>
    unfold Kc;refine Ah (Aw ?_);simp only[Bool.not_true,FN,Ha];exact Aw ⟨rfl,rfl,ks',h2⟩
   |_=>exact absurd (show Ae=Aa from h1) AY
 .rintro⟨r1,r2⟩ s' ⟨hr,rfl,_⟩;simp only at hr;subst hr;exact Aw h
def IN(hp:AM)(a:Am)(hs:Ac Ad):Prop:=∃ o es ep t,hp.get? a=Ab o/\o.ExactSet/\o.data=.set es ep t/\t.fits es.size=Aa/\t.mask=7/\t.dummies=#[]/\es.size=hs.length/\∀ e∈es,e.1∈hs
theorem Z_7(S:IN s.heap a hs)(hk:Fh (E9 prog w) s.heap k b)(hn:hs.length<=2)(hh:h∉hs)(q:∀ h',EC a s.heap h'->IN h' a (hs++[h])->Q Aa {s with heap:=h'}):AC (model prog w) A (setAddHashed a (.ref b) h) Q E s:=by
 obtain⟨o,es,ep,t,ho,hex,hd,hf,hm,hdm,hsz,hme⟩:=S;have hp:t.place.size=es.size:=by
  unfold JB at hf;exact eq_of_beq (Ap _ _ |>.mp hf).1
 unfold setAddHashed setAddHashedIn;refine Cc (Ah (HC ho hd hf ?_));dsimp only;rw[AW (by unfold byScan;simp[Value.scannable])]
 refine Ah (cX ho hd hf hm hdm (by omega) (λe he z=>hh (z ▸ hme e he)) λj=>?_)
 dsimp only;refine Ah (HC ho hd hf ?_);dsimp only;have nd:JJ t.dummies j=Ae:=by
  unfold JJ;rw[hdm];simp
 have fin:∀ t':L4,t'.mask=7->t'.dummies=#[]->t'.place=DT t.place (IS t.place j) j ->
   AC (model prog w) A (do
    storeSet a (DT es (IS t.place j) (h,.ref b)) t'
    if (!false&&t'.tooFull)=Aa then setRelay a (SetTable.grown (es.size+1))
    pure Aa) Q E s:=by
  intro t' h1 h2 h3;have hfi:t'.fill=es.size+1:=by
   unfold SetTable.fill;rw[h2,h3,Mz,hp];rfl
  refine Ah (wpAny_storeSet_of ho hd ?_ (by rw[Mz,Ew];omega))
  rw[AW (by unfold SetTable.tooFull;rw[hfi,h1];simp;omega)]
  refine Aw (q _ (Fx s.heap a _) ?_);have hg:=Ci (Obj.putSet (DT es (IS t.place j) (h,.ref b)) t') ho (by rw[putSet_of _ t' hd];rfl)
  rw[putSet_of _ t' hd]at hg;refine⟨_,_,_,_,hg,hex,rfl,?_,h1,h2,?_,?_⟩
  .unfold JB;rw[hfi,h1,h3,Mz,Mz,hp];simp;omega
  .rw[Mz,hsz,BU];rfl
  .intro e he;rcases qP he with rfl|he
   .simp
   .exact Er _ (hme e he)
 unfold SetTable.put;dsimp only;rw[nd];split
 .refine Ah (hbv hk ?_);exact fin _ hm hdm rfl
 .refine Ah (Aw ?_);exact fin _ hm hdm rfl
end
section
variable{prog:AU}{w:AH}{A:Bc}{R:JH->As->Prop}{I:Am}{fp wr:Ac Am}{G:A1 Ff->A1 Ff->Prop}{n:Ag}{P:Ag->Ai->Prop}{St:Ag->As->Prop}
theorem RG{h h':AM}(x:Fh (E9 prog w) h k b)(e:∀ o,h.get? b=Ab o->h'.get? b=Ab o):Fh (E9 prog w) h' k b:=by
 obtain⟨o,items,n,ho,r⟩:=x;exact⟨o,items,n,e o ho,r⟩
theorem WG{h h':AM}(x:IN h b hs)(e:∀ o,h.get? b=Ab o->h'.get? b=Ab o):IN h' b hs:=by
 obtain⟨o,es,ep,t,ho,r⟩:=x;exact⟨o,es,ep,t,e o ho,r⟩
theorem xY(W:WalksS prog w A.in1 I fp wr G n P St)(S:Am)(hSf:S∉fp)(hu:A.in1.units<Cs)(key:Ag->Ac Ad)(hn:n<=3)(hne:∀ i j,i<j->j<n->Gv (key i)≠Gv (key j)):
    ∀(k i:Ag)(s:As),n-i=k->i<=n->St i s->(∀ j v,P j v->∃ b,v=.ref b/\b∉S::wr/\Fh (E9 prog w) s.heap (key j) b) ->
      IN s.heap S ((AT i).map λj=>Gv (key j)) ->
      (∀ s',Moved (S::wr) G s s'->IN s'.heap S ((AT n).map λj=>Gv (key j))->R (.ok (.ret .none)) s') ->
      Fu (model prog w) A (.builtin "set.update.loop" ⟨[.ref S,.ref I],[]⟩) R s:=by
  have hSw:S∉wr:=λh=>hSf (W.sub _ h)
  have hsub:∀ b∈wr,b∈S::wr:=λb hb=>At _ hb
  intro k
  induction k with
  |zero=>
    intro i s hk hi hst hky hS hR;have hin:i=n:=by omega
    subst hin;refine DP X6 ?_;rw[Dl FY _];show AC _ A.in1 (D0 (.ref I) >>= _) _ _ s;refine Ah (W.done s _ _ hst λs' hm=>?_)
    show AC _ A.in1 (ret Da) _ _ s';exact Aw (hR s' (hm.mono hsub) (WG hS λo e=>hm.heap S _ hSw e))
  |succ k ih=>
    intro i s hk hi hst hky hS hR;have hlt:i<n:=by omega
    refine DP X6 ?_;rw[Dl FY _];show AC _ A.in1 (D0 (.ref I) >>= _) _ _ s;refine Ah (W.item i s _ _ hlt hst λv s' hP hst' hm=>?_)
    obtain⟨b,rfl,hb,hkb⟩:=hky i v hP;have hkb':Fh (E9 prog w) s'.heap (key i) b:=RG hkb λo e=>hm.heap b _ (λz=>hb (hsub _ z)) e
    have hS':=WG hS λo e=>hm.heap S _ hSw e
    show AC _ A.in1 (holding [Dt b] (setAdd S (.ref b)) >>= _) _ _ s';refine Ah (Cc ?_);unfold setAdd;refine Cc ?_;refine Ah (wpAny_pyHash_tuple hu hkb' ?_);refine Z_7 (s:={s' with toks:=s'.toks+((key i).length+1)}) (h:=Gv (key i)) hS' hkb' (by rw[AV,E0];omega) ?_ λh' hsb hS2=>?_
    · intro z;obtain⟨j,hj,e⟩:=Bb.mp z;exact hne j i (A3.mp hj) hlt e
    have hSi:IN h' S ((AT (i+1)).map λj=>Gv (key j)):=by
      rw[XX,FI];exact hS2
    refine Aw ⟨Gi FY _,ih (i+1) _ (by omega) hlt (W.frame _ s' _ _ hst' (DC _ _) λb hb o e=>?_) (λj v hP=>?_) hSi λs'' hm'' hS''=>?_⟩
    · rw[hsb.2 b (λh:b=S=>hSf (by rw[<-h];exact hb))];exact e
    · obtain⟨c,ec,hc,hkc⟩:=hky j v hP;refine⟨c,ec,hc,RG hkc λo e=>?_⟩
      rw[hsb.2 c (λh:c=S=>hc (by rw[h];exact Ax))]
      exact hm.heap c _ (λz=>hc (hsub _ z)) e
    · refine hR s'' (Moved.trans W.gtrans ((hm.mono hsub).then_heap (DC _ _) λb o hb e=>?_) hm'') hS''
      rw[hsb.2 b (λh:b=S=>hb (by rw[h];exact Ax))];exact e
end
theorem eF:isSubtype (.type "tuple") (.type "set")=pure Ae:=by rw[ZA];kernel_rfl
theorem dW:isSubtype (.type "tuple") (.type "frozenset")=pure Ae:=by rw[ZA];kernel_rfl
section
variable{prog:AU}{w:AH}{A:Bc}{E:Vq}{s:As}
theorem dP{l:Am}{items:A1 Ai}{key:Ag->Ac Ad}{Q:Vq}(hu:A.units+8<Cs)(hh:A.handled=Af)(hl:s.heap.IsTuple l items)(hi:∀ j v,items[j]?=Ab v->∃ b,v=.ref b/\Fh (E9 prog w) s.heap (key j) b)(hn:items.size<=3)(hne:∀ i j,i<j->j<items.size->Gv (key i)≠Gv (key j))(h:∀(h':AM)(tk:Ag),IN h' s.heap.objs.size ((AT items.size).map λj=>Gv (key j)) ->
   (∀ b o,b<s.heap.objs.size->s.heap.get? b=Ab o->h'.get? b=Ab o)->Q (.ref s.heap.objs.size) {s with heap:=h',toks:=tk}):
  AC (model prog w) A (call (.type "set") [.ref l]) Q E s:=by
 obtain⟨c,tl,hmro⟩:=F.called_set.mro;have hmade:=F.called_set.made;have hsub:=F.called_set.sub;refine wpAny_call (Zx ?_);show AC _ _ (callAny (.type "set") _) _ _ _;refine Aw ⟨Code.quiet_builtin _ (by decide+kernel),DP F.entry_type_call ?_⟩
 rw[Around.under_plain (weight_type_call_type "set" [.ref l] []) rfl];have h1:=F.called_set.notType;have h2:=F.called_set.canCreate;have hct:=F.typeCall_set_1 (.ref l)
 repeat (any_goals (first|assumption|wp_step))
 refine GM (code_set_new_1 (.ref l) (E:=E) (Q₁:=λobj s₁=>∃ led:Ak,obj=.ref s.heap.objs.size/\s₁={ s with heap:=s.heap.push { cls:=.type "set",dict:=Af,data:=.set #[] 0 (.fresh 0 0 led) } }) λled=>⟨led,rfl,rfl⟩) λr s₁ hr=>?_
 cases r with
 |error e=>exact hr
 |ok fl=>
  cases fl with
  |ret obj=>
   obtain⟨led,rfl,rfl⟩:=hr;have hS:(s.heap.push { cls:=.type "set",dict:=Af,data:=.set #[] 0 (.fresh 0 0 led) }).get? s.heap.objs.size=Ab { cls:=.type "set",dict:=Af,data:=.set #[] 0 (.fresh 0 0 led) }:=AB _ rfl;have hT:Za { s with heap:=s.heap.push { cls:=.type "set",dict:=Af,data:=.set #[] 0 (.fresh 0 0 led) } } (.ref s.heap.objs.size) "set" := ⟨_,hS,rfl⟩
   have hli:=F.called_set.init.lookup;have hbi:=F.called_set.init.bind (.ref s.heap.objs.size)
   repeat (any_goals (first|assumption|wp_step))
   refine GM (codeAny_call_builtin (R:=wants (λr s₂=>r=.none/\∃ h' tk,s₂={s with heap:=h',toks:=tk} /\
     IN h' s.heap.objs.size ((AT items.size).map λj=>Gv (key j)) /\
     (∀ b o,b<s.heap.objs.size->s.heap.get? b=Ab o->h'.get? b=Ab o)) E) F.called_set.init.plain F.entry_set_init (check_set_init_1 hT ?_)) λr₂ s₂ hr₂=>?_
   .obtain⟨ol,hol,hcl,nl,hdl⟩:=hl;obtain⟨ocls,odict,odata,oslots⟩:=ol;simp only at hcl hdl;subst hcl;subst hdl;have hol':(s.heap.push { cls:=.type "set",dict:=Af,data:=.set #[] 0 (.fresh 0 0 led) }).get? l=Ab { cls:=.type "tuple",dict:=odict,data:=.seq items nl,slots:=oslots }:=Ar _ hol;have hsls:=eF;have hslf:=dW;have hne':(Fi "tuple" == Fi "dict")=Ae:=by decide
    have hl1:(s.heap.push { cls:=.type "set",dict:=Af,data:=.set #[] 0 (.fresh 0 0 led) }).IsTuple l items:=⟨_,hol',rfl,nl,rfl⟩;unfold Builtin.«set.__init__» noKeywords Builtin.Frozenset.updateFrom;generalize hPI:JP=PI
    wp_walk
    subst hPI;refine ET hl1 ?_;refine Ah (ZN ?_);have hlS:l<s.heap.objs.size:=AE hol;have hh3:A.in1.in1.in1.handled=Af:=by simp[hh]
    have hneI:l≠(s.heap.push { cls:=.type "set",dict:=Af,data:=.set #[] 0 (.fresh 0 0 led) }).objs.size:=by
     rw[Bk];exact AZ (CN hlS)
    have hSf:s.heap.objs.size∉[(s.heap.push { cls:=.type "set",dict:=Af,data:=.set #[] 0 (.fresh 0 0 led) }).objs.size,l]:=by
     rw[Bk];simp only[Av,BY,AR,BQ,DB];exact⟨AZ (EA _),De hlS⟩
    refine xY ((Kb hh3 _ l hneI items).toS) s.heap.objs.size hSf (show A.units+1+1+1<Cs by omega) key hn hne (items.size-0) 0 _ (by omega) (Fs _)
     ⟨⟨_,AB _ rfl,rfl,rfl⟩,(hl1.push _)⟩ ?hK ?hS0 ?hR
    case hK=>
     intro j v hv;obtain⟨b,e,hk⟩:=hi j v hv;have hb:b<s.heap.objs.size:=by
      obtain⟨o,_,_,ho,_⟩:=id hk;exact AE ho
     refine⟨b,e,?_,RG hk λo e=>Ar _ (Ar _ e)⟩
     rw[Bk];simp only[Av,AR,BQ,DB];exact⟨AZ hb,AZ (CN hb)⟩
    case hS0=>
     have hget:((s.heap.push { cls:=.type "set",dict:=Af,data:=.set #[] 0 (.fresh 0 0 led) }).push { cls:=.type "tuple_iterator",data:=.fields #[.ref l,.int 0 0] }).get? s.heap.objs.size
       = Ab { cls:=.type "set",dict:=Af,data:=.set #[] 0 (.fresh 0 0 led) }:=Ar _ hS
     exact⟨_,#[],0,.fresh 0 0 led,hget,⟨rfl,rfl,rfl⟩,rfl,rfl,rfl,rfl,rfl,λe he=>absurd he (by simp)⟩
    case hR=>
     intro s' hm hS';obtain⟨h',g',d',tk',os'⟩:=s';have eg:g'=s.gens:=hm.gens;have ed:d'=s.drawn:=hm.drawn;have eo:os'=s.os:=hm.os;subst eg;subst ed;subst eo;show AC _ _ _ _ _ _;refine Aw ?_;show AC _ _ (ret Da) _ _ _;refine Aw ⟨rfl,h',tk',rfl,hS',λb o hb e=>?_⟩
     have hb1:b≠s.heap.objs.size:=AZ hb;have hb2:b≠(s.heap.push { cls:=.type "set",dict:=Af,data:=.set #[] 0 (.fresh 0 0 led) }).objs.size:=by
      rw[Bk];exact AZ (CN hb)
     exact hm.heap b o (by simp only[Av,BY,AR,BQ,DB];exact⟨hb1,hb2⟩) (Ar _ (Ar _ e))
   .cases r₂ with
    |error e=>exact hr₂
    |ok fl₂=>
     cases fl₂ with
     |ret r=>
      obtain⟨rfl,h',tk,rfl,hS',hk'⟩:=hr₂
      repeat (any_goals (first|assumption|wp_step))
      exact h _ _ hS' hk'
     |_=>exact hr₂.elim
  |_=>exact hr.elim
theorem xZ{Q:Vq}(S:IN s.heap a hs)(hn:hs.length<=3)(q:Q (.int hs.length (s.toks+1)) {s with toks:=s.toks+1+1}):AC (model prog w) A (call (.builtin "len") [.ref a]) Q E s:=by
 obtain⟨o,es,ep,t,ho,hex,hd,hf,_,_,hz,_⟩:=S;refine call_len_set ho hex hd hf (by omega) ?_
 rw[hz];exact q
end
end Ov
end
namespace Ov
open PySem PySem.Spec PyProof.Rows L2
variable{w:AH}{s:As}{a T':Am}{P:AU}{H:Hp}{X:Cx}{pI:Pn}{Y:L2.St}{i:Ag}{ex:Ac Am}{h h':AM}{oe:Di}{vs:A1 Ai}{Q:Ji->As->Prop}{a0:Ai}
theorem Wd(is:Ac Ad):(firstMet (λi=>is.getD i 0) is.length).length=ddN is:=by
 have e:(AT is.length).map (λi=>is.getD i 0)=is:=by
  apply List.ext_getElem
  .simp
  .intro i h1 h2;simp[Cj,BP h2]
 unfold firstMet ddN;rw[e];rfl
theorem rX{prog:AU}{A:Bc}{E:Vq}{S:Ad->Ak}{n:Ag}{Q:Vq}(h:s.heap.SetOf (E9 prog w) a S n)(hf:(n:Ad)<2 ^ 63)(q:Q (.int n (s.toks+1)) {s with toks:=s.toks+1+1}):AC (model prog w) A (call (.builtin "len") [.ref a]) Q E s:=by
 obtain⟨o,es,ep,t,ho,hex,hd,_,_,_,hfi,rfl⟩:=h;exact call_len_set ho hex hd hfi hf q
section
variable{X:Cx}
theorem jP:∀{k:Ac Ad}{its:Ac Ai},Bj (k.map V.int) its->ItemsAre (E9 P w) k its:=by
 intro k
 induction k with
 |nil=>intro its v;cases v;exact .nil
 |cons i k ih=>
  intro its v;cases v with
  |cons v1 v2=>
   obtain⟨t,rfl⟩:=v1;exact .cons (intKind_is _ _ _ _) (ih v2)
def KI(K:Fg)(H:Hp):Ac V->Ac (Ac Ad)->Prop
 |[],[]=>Ix
 |x::xs,k::ks=>(∃ b,x=.ref b/\SqT K H b (k.map V.int))/\KI K H xs ks
 |_,_=>BF
theorem sA{K:Fg}{CL:ClA}{A:Am->Prop}:∀{ds:Ac D}{ks:Ac (Ac Ad)}{xs:Ac V},LD ds=Ab ks->Reps K CL H A xs ds->KI K H xs ks:=by
 intro ds
 induction ds with
 |nil=>
  intro ks xs e r;cases e;cases xs with
  |nil=>exact trivial
  |cons=>exact r.elim
 |cons d ds ih=>
  intro ks xs e r;cases xs with
  |nil=>exact r.elim
  |cons x xs=>
   cases d with
   |tup es=>
    have e':((Hu es).bind λk=>(LD ds).map (k :: ·))=Ab ks:=e
    cases e1:Hu es with
    |none=>rw[e1]at e';cases e'
    |some k=>
     cases e2:LD ds with
     |none=>rw[e1,e2]at e';cases e'
     |some ks'=>
      rw[e1,e2]at e';cases e';obtain⟨a,ys,ev,na,sq,rs⟩:=r.1;exact⟨⟨a,ev,ND e1 rs ▸ sq⟩,ih e2 r.2⟩
   |_=>cases e
theorem KI.length{K:Fg}{H:Hp}:∀{xs:Ac V}{ks:Ac (Ac Ad)},KI K H xs ks->xs.length=ks.length
 |[],[],_=>rfl
 |_::_,_::_,h=>congrArg (· + 1) (KI.length h.2)
 |[],_::_,h=>h.elim
 |_::_,[],h=>h.elim
theorem sB(I:Inv X pI Y H s):∀{xs:Ac V}{ks:Ac (Ac Ad)}{its:Ac Ai},KI X.K H xs ks->Bj xs its->∀(j:Ag)(v:Ai),its[j]?=Ab v->∃ b,v=.ref b/\Fh (E9 X.prog X.w) s.heap (ks.getD j []) b:=by
 intro xs
 induction xs with
 |nil=>intro ks its k v j u e;cases v;cases e
 |cons x xs ih=>
  intro ks its k v j u e;cases ks with
  |nil=>exact k.elim
  |cons k0 ks=>
   cases v with
   |cons v1 v2=>
    cases j with
    |zero=>
     cases e;obtain⟨⟨b,rfl,sq⟩,_⟩:=k;cases v1;obtain⟨its,vs,⟨o,ho,hc,n,hd⟩,_⟩:=I.tuple sq;exact⟨b,rfl,o,its.toArray,n,ho,hc,hd,jP vs⟩
    |succ j=>exact ih k.2 v2 j u e
theorem nB:∀{hs:Ac Ad},Ii hs=Aa->∀ i j,i<j->j<hs.length->hs.getD i 0≠hs.getD j 0:=by
 intro hs
 induction hs with
 |nil=>intro _ i j _ hj;cases hj
 |cons h r ih=>
  intro e i j hij hj;obtain⟨e1,e2⟩:=(Ap _ _).mp (show (!r.contains h&&Ii r)=Aa from e)
  cases j with
  |zero=>omega
  |succ j=>
   have hj':j<r.length:=by simpa using hj
   cases i with
   |zero=>
    intro z;have:r.contains h=Aa:=by
     rw[List.contains_iff_mem,show h=r.getD j 0 from z,Cj,BP hj']
     exact Dd _
    rw[this]at e1;cases e1
   |succ i=>exact ih e2 i j (by omega) hj'
theorem VN(ks:Ac (Ac Ad))(h:i<ks.length):(ks.map Gv).getD i 0=Gv (ks.getD i []):=by
 rw[Cj,Cj,DS,BP h];rfl
def im(K:Fg)(ta:TA):TE:=λY H Q=>ta Y H λvs H1=>∃ a,vs=[.ref a]/\((∃ is:Ac Ad,SqL K H1 a (is.map V.int)/\is.length<=4000/\Q (.int (ddN is)) H1)\/∃ xs ks,SqT K H1 a xs/\KI K H1 xs ks/\ks.length<=3/\Ii (ks.map Gv)=Aa/\Q (.int ks.length) H1)
theorem oF{a:Ao}{ta:TA}{p p' pos pos':A6}(hu:X.A.units+64<Cs)(hc:X.calm=Aa)(hg:Gl X "len")(hm:X.mg "len" = Af)(hg':Gl X "set")(hm':X.mg "set" = Af)(ha:PA X [a] ta)(hs:AI [a] X.env=[(Ae,eval a X.env)]):
    PE X (.Call (.Name "len" p) [.Call (.Name "set" p') [a] [] pos'] [] pos) (im X.K ta):=by
  intro pI s Y H Q I h;refine Ja (HY I hg hm boot_len (X9 ?_ rfl rfl));show AC _ _ (spliced ((Ae,eval (.Call (.Name "set" p') [a] [] pos') X.env)::CU pos (AI [] X.env))) _ _ s;refine Hg ?_;refine Ja (HY I hg' hm' PyProof.Rows.boot_set (Ce (thn (ha pos' pI s Y H _ I h) λus s1 ⟨vs,H1,I1,r1,q1⟩=>?_) (by rw[hs];rfl) rfl))
  obtain⟨b,e,q1⟩:=q1;subst e;cases r1 with
  |cons r rr=>
    cases rr;cases r;rcases q1 with ⟨is,sq,hn,q⟩|⟨xs,ks,sq,kv,hn,hl,q⟩
    rotate_left
    · obtain⟨its,rv,pl,hz⟩:=I1.tuple sq;have hsz:its.toArray.size=ks.length:=by rw[AD,<-rv.length,kv.length]
      refine dP (key:=λj=>ks.getD j []) (by omega) (I1.ok.hd hc) pl (λj v e=>sB I1 kv rv j v (by rw[<-Gz];exact e)) (by rw[hsz];exact hn) (λi j hij hj=>?_) λh' tk hS kp=>F1 ?_
      · rw[hsz]at hj;have:=nB hl i j hij (by rw[AV];exact hj)
        rw[VN ks (by omega),VN ks hj]at this
        exact this
      · refine xZ (s:={s1 with heap:=h',toks:=tk}) hS (by rw[AV,E0,hsz];exact hn) ?_
        rw[AV,E0,hsz];exact⟨.int ks.length,H1,I1.kept (t':=tk+1+1) λb o e=>kp b o (AE e) e,⟨_,rfl⟩,q⟩
    obtain⟨its,rv,pl,hz⟩:=I1.list sq;have ia:=U_2 rv;have hl:its.length=is.length:=by rw[<-rv.length,AV]
    refine PySem.call_set_list (ns:=is) (I1.ok.hd hc) pl.isList ia (by rw[AD,hl];unfold scanBound;omega) λh' tk hS kp=>F1 ?_
    have hsz:its.toArray.size=is.length:=by rw[AD,hl]
    rw[hsz,Wd]at hS;have hle:ddN is<=is.length:=by
      rw[<-Wd];exact firstMet_length_le _ _
    refine rX (s:={s1 with heap:=h',toks:=tk}) hS (by omega) ?_
    exact⟨.int (ddN is),H1,I1.kept (t':=tk+1+1) λb o e=>kp b o (AE e) e,⟨_,rfl⟩,q⟩
variable{CL:ClA}{W:XW}{pos p pos' p':A6}{a:Ao}{fa:Rho->R D}
theorem mH(ha:ST X CL W a fa)(hu:X.A.units+64<Cs)(hc:X.calm=Aa)(hg:Gl X "len")(hm:X.mg "len" = Af)(hg':Gl X "set")(hm':X.mg "set" = Af)(hs:AI [a] X.env=[(Ae,eval a X.env)]):
  SE X CL W (.Call (.Name "len" p) [.Call (.Name "set" p') [a] [] pos'] [] pos) (λU=>(fa U).bind λx=>biD .lset [x]):=
 λA=>PE.weak (oF hu hc hg hm hg' hm' (Fj (ha A) G5 hs) hs) λY H Q ⟨hA,U,g,q⟩=>⟨hA,U,g,By.bind q λd v H1 _ s1 r1 p1=>by
  cases d with
  |lst ds=>
   obtain⟨b,xs,rfl,sq,r⟩:=r1.lst_of;have p2:By (λH=>Rep X.K CL H A) W H1 (Ow ds) Q:=p1
   unfold Ow at p2;cases e:Hu ds with
   |none=>rw[e]at p2;exact p2.elim
   |some is=>
    rw[e]at p2;have ex:=ND e r;subst ex;dsimp only at p2;split at p2
    .rename_i hb;exact⟨b,rfl,.inl ⟨is,sq,Ee hb,p2 _ H1 (AN.refl H1) rfl⟩⟩
    .exact p2.elim
  |tup ds=>
   obtain⟨b,xs,rfl,_,sq,r⟩:=r1.tup_of;have p2:By (λH=>Rep X.K CL H A) W H1 (R5 ds) Q:=p1
   unfold R5 at p2;cases e:LD ds with
   |none=>rw[e]at p2;exact p2.elim
   |some ks=>
    rw[e]at p2;dsimp only at p2;split at p2
    .rename_i hb;obtain⟨h1,h2⟩:=(Ap _ _).mp hb;exact⟨b,rfl,.inr ⟨xs,ks,sq,sA e r,Ee h1,h2,p2 _ H1 (AN.refl H1) rfl⟩⟩
    .exact p2.elim
  | _=>exact p1.elim⟩
end
section
theorem rC(l:Am)(items:A1 Ai)(n:Ag)(b:Am)(items2:A1 Ai)(n2:Ag)(dd:Aq Am)(sl:A1 (Aq Ai))(hs0:¬(!items.isEmpty&&DN (items.size+items2.size))=Aa)(hs1:items.size<=sizeLine)(hs2:items.size+items2.size<=sizeLine+1):
  Meets (Builtin.«list.extend» ⟨[.ref l,.ref b],[]⟩) (λ_ R s=>s.heap.get? l=Ab { cls:=.type "list",dict:=Af,data:=.seq items n,slots:=#[] }/\s.heap.get? b=Ab { cls:=.type "tuple",dict:=dd,data:=.seq items2 n2,slots:=sl }/\R (.ok (.ret Da)) {s with heap:=s.heap.update l (CV λx=>x++items2),toks:=s.toks}):=
 .of_wp λprog w A R s h=>by
  obtain⟨hp,g,d,tk,os⟩:=s;obtain⟨hl,hb,h⟩:=h;have f1:=AutoSeq1.idx_int;have f2:=AutoSeq1.sub_tuple_tuple;have f3:=AutoSeq1.sub_list_list;have f4:=AutoSeq1.sub_tuple_list;have f5:=AutoSeq1.sub_list_tuple;
  have hz':(items++items2).size<=sizeLine+1:=by rw[Array.size_append];exact hs2
  wp_walk using (FM hl rfl (hz:=hs1) (_hz':=hz')),Ye hl,Ye hb;exact⟨_,rfl,h⟩
end
section
variable{X:Cx}
def jq(K:Fg):V->Ac V->Hp->VK->Prop:=λx vs H Q=>∃ l b xs zs,x=.ref l/\vs=[.ref b]/\H l=Ab (.lst xs)/\SqT K H b zs/\xs.length+zs.length<=sizeLine/\Q .non (upd H l (.lst (xs++zs)))
theorem rO:MtM X "list.extend" (jq X.K):=by
 intro pI s Y H x vs v us Q I rx rv h;obtain⟨l,b,xs,zs,rfl,rfl,hH,hB,hz,q⟩:=h;cases rx;obtain⟨u,rfl,ru⟩:=rv.one;cases ru;obtain⟨z,its,n,r,hl,e⟩:=I.lstM hH;obtain⟨its2,r2,⟨o,e2,c2,n2,d2⟩,z2⟩:=I.tuple hB;have hl2:=r2.length;obtain⟨oc,od,oda,os⟩:=o;dsimp only at c2 d2;subst c2 d2;have hsz:its.toArray.size+its2.toArray.size<=sizeLine:=by rw[AD,AD];omega
 have hlong:¬ (!its.toArray.isEmpty&&DN (its.toArray.size+its2.toArray.size))=Aa:=by
  rw[UV hsz,FS];exact AY
 refine Jg E6 ⟨_,e,rfl⟩ YT (YM _ _)
  (rC l its.toArray n b its2.toArray n2 od os hlong (by rw[AD];omega) (by omega)) ⟨e,e2,?_⟩
 refine⟨.non,_,I.lset (its':=its++its2) hH e (by simp) (r.append r2) ?_,rfl,q⟩
 rw[BU];omega
variable{CL:ClA}{W:XW}{o e:Ao}{fe:Rho->R D}{i:Ag}{apos cpos pos:A6}
theorem lW(ho:PE X o (IQ i))(he:ST X CL W e fe)(hbase:Gh o "extend" X.env (eval o X.env)=eval o X.env)(hfew:((CU cpos (AI [e] X.env)).all (λx=>!x.1)&&(Jc cpos (Hc [] X.env)).all (λx=>x.1.isSome)&&decide ([e].length+([]:Ac Eg).length+(if ([]:Ac Eg).isEmpty then 0 else 1)<30))=Aa)(hline:(apos.endLine==cpos.line)=Aa)(hs:AI [e] X.env=[(Ae,eval e X.env)])(hsw:DU (.Call (.Attribute o "extend" apos) [e] [] cpos) Af pos.line X.env=pure Ae):
  SS X CL W (.Expr (.Call (.Attribute o "extend" apos) [e] [] cpos) pos) (λU=>O.of U (Dc U i) λxs=>O.of U (fe U) λx=>O.of U ((Dj .Add x (.tup [])).bind λy=>biD .list [y]) λd=>O.of U (LF d) λys=>if Do (xs.length+ys.length)=Aa then .next (U.set i (Ab (.lst (xs++ys),Aa))) else .bad):=λFz B pI s Y H D I ⟨U,x,p⟩=>by
 refine ME (Oz EK E6 Y_1 rO ho (Fj (he (CQ B U Y)) G5 hs) hbase hfew hline hs rfl) hsw pI s Y H D I ?_;dsimp only at p;cases e1:Dc U i with
 |bad=>rw[e1]at p;exact p.elim
 |exn z=>exact(Mw e1).elim
 |ok ds=>
  rw[e1,O.of_ok]at p;have hi:=MG e1;obtain⟨a,xs,ds',q,e2,ha,hh,r⟩:=x.good.ow i _ hi;cases e2;refine⟨_,q,.inl ⟨rfl,xs,SqL.of hh⟩,x.aok,U,x.good,CT.ex x p λd v H' _ s rv x' q'=>?_⟩
  cases d with
  |tup es=>
   obtain⟨b,ys,rfl,h0,h1,rs⟩:=Dp.tup_of rv;have eb:Dj .Add (.tup es) (.tup [])=if (!es.isEmpty&&Do (es.length+0))=Aa then .ok (.tup (es++[])) else .bad:=rfl
   rw[eb]at q';split at q'
   .rw[R.bind_ok,show biD .list [.tup (es++[])]=.ok (.lst (es++[])) from rfl,O.of_ok,Ut,O.of_ok,DK]at q'
    split at q'
    .rename_i hz;refine⟨a,b,xs,ys,rfl,rfl,s _ _ hh,h1,?_,q' _ _ (x'.upd hi q ((r.same s).append rs))⟩;rw[r.length,rs.length];exact Iy hz
    .exact q'.elim
   .exact q'.elim
  |_=>exact q'.elim
end
section
open PySem.AutoSeq1 (wpAny_loadPart')
end
section
variable{prog:AU}{w:AH}{A:Bc}{R:JH->As->Prop}{I S T:Am}{u v:Ai}{c:Ag}{P:Ag->Ai->Prop}{St:Ag->AM->Prop}{s:As}{r q:Ac Ad}
end
section
variable{X:Cx}{CL:ClA}{W:XW}
end
def OW(e T:Am)(cls:Ai)(dx:Aq Am)(fl:Ai)(h:AM):Prop:=∃ oe vs oT ts a0,h.get? e=Ab oe/\oe.cls=cls/\oe.dict=dx/\vs[0]?=Ab a0/\oe.data=.fields vs/\vs[1]?=Ab (.ref T)/\T≠e/\h.get? T=Ab oT/\oT.data=.fields ts/\ts[3]?=Ab fl
noncomputable abbrev Fly(e T:Am)(cls:Ai)(dx:Aq Am)(h:AM):Prop:=OW e T cls dx Da h
noncomputable def ZU(C:Am)(dx:Aq Am)(t:Am):Di:={cls:=.ref C,dict:=dx,data:=.fields #[.ref t,.none,.none,.none,.bool Ae,.none]}
structure Shift (ex fs:Ac Am) (h h':AM):Prop where
 keep:∀ b o,h.get? b=Ab o->b∉ex->b∉fs->h'.get? b=Ab o
 slot:∀ b o,h.get? b=Ab o->b∈fs->∃ sl,h'.get? b=Ab {o with slots:=sl}
theorem Shift.trans{fs:Ac Am}{h1 h2:AM}(a:Shift ex fs h h1)(b:Shift ex fs h1 h2):Shift ex fs h h2:=
 ⟨λc o q n m=>b.keep c o (a.keep c o q n m) n m,λc o q m=>by
  obtain⟨sl,e1⟩:=a.slot c o q m;obtain⟨sl',e2⟩:=b.slot c _ e1 m;exact⟨sl',e2⟩⟩
theorem ObjOk.isThere:∀(o:HO),L2.ObjOk P w H h a o->∃ ob,h.get? a=Ab ob
 |.lst _,x=>by obtain⟨_,_,_,_,e⟩:=x;exact⟨_,e⟩
 |.tup _,x=>by obtain⟨_,_,_,p⟩:=x;obtain⟨o,e,_⟩:=p;exact⟨_,e⟩
 |.dK _,x=>by obtain⟨_,_,_,_,o,_,_,e,_⟩:=x;exact⟨_,e⟩
 |.dT _,x=>by obtain⟨_,_,_,_,o,_,_,e,_⟩:=x;exact⟨_,e⟩
 |.set _ _,x=>by obtain⟨o,_,_,_,e,_⟩:=x;exact⟨_,e⟩
 |.ins _ _ _,x=>by obtain⟨_,_,_,e,_⟩:=x;exact⟨_,e⟩
 |.own _,x=>x
 |.xd _,x=>by obtain⟨_,⟨_,_,_,e,_⟩,_⟩:=x;exact⟨_,e⟩
 |.met _ _,x=>⟨_,x⟩
 |.rng _ _,x=>by obtain⟨_,_,_,e⟩:=x;exact⟨_,e⟩
 |.frz _ _,x=>⟨_,x.1⟩
 |.tbl _,x=>⟨_,x⟩
 |.ext _,x=>x.2.1
theorem U_3(x:HOk P w H h)(e:h.get? a=Af):H a=Af:=by
 cases q:H a with
 |none=>rfl
 |some o=>
  obtain⟨ob,z⟩:=ObjOk.isThere o (x a o q);rw[e]at z;cases z
theorem HOk.shift{fs:Ac Am}(x:HOk P w H h)(sh:Shift ex fs h h')(h1:∀ b∈ex,H b=Af)(h2:∀ b∈fs,H b=Af):HOk P w H h':=λa o e=>
 (x a o e).stay (λb u hb q=>by
  have hs:∃ v,H b=Ab v:=by
   rcases hb with rfl|hb
   .exact⟨_,e⟩
   .exact⟨_,hb⟩
  obtain⟨v,hv⟩:=hs;exact sh.keep b u q (λz=>by rw[h1 b z]at hv;cases hv) (λz=>by rw[h2 b z]at hv;cases hv)) (λ_ q=>q) λ_ _ q=>q
theorem Un.shift{fs0 fs ex:Ac Am}{H':Hp}{h0:AM}(u:Un fs0 [] H H' h0 h)(sh:Shift ex fs h h')(h1:∀ b∈ex,h0.get? b=Af)(h2:∀ b∈fs,b∈fs0\/h0.get? b=Af):Un fs0 [] H H' h0 h' where
 keep:=λb o q n hb hx=>sh.keep b o (u.keep b o q n hb hx) (λz=>by rw[h1 b z]at q;cases q) λz=>(h2 b z).elim hb λe=>by rw[e]at q;cases q
 slot:=λb o q n hb hx=>by
  obtain⟨sl,e1⟩:=u.slot b o q n hb hx;by_cases hf:b∈fs
  .obtain⟨sl',e2⟩:=sh.slot b _ e1 hf;exact⟨sl',e2⟩
  .exact⟨sl,sh.keep b _ e1 (λz=>by rw[h1 b z]at q;cases q) hf⟩
 free:=u.free
 there:=λb o q hx=>by
  obtain⟨o',e1⟩:=u.there b o q hx;by_cases hf:b∈fs
  .obtain⟨sl',e2⟩:=sh.slot b _ e1 hf;exact⟨_,e2⟩
  .exact⟨o',sh.keep b _ e1 (λz=>by rw[h1 b z]at q;cases q) hf⟩
 tups:=u.tups
 frzs:=u.frzs
 tbls:=u.tbls
theorem qI(f:A1 Ai->A1 Ai)(o:Di):(Gf f o).dict=o.dict:=by
 obtain⟨c,d,dt,sl⟩:=o;cases dt<;>rfl
section
variable{M:J6}{A:Bc}{E:Vq}{s:As}{env:C1}{outer:Ac C1}{L e T:Am}{cls:Ai}{dx:Aq Am}{base h:AM}
theorem TR{hd:Ai}{nx:Ak}(hfr:A.frames=Ab (env::outer))(hf:env.frame=Ab L)(ff:s.heap.FunFrames base (env::outer))(he:s.heap.get? e=Ab oe)(dt:oe.data=.fields vs)(hz:1<vs.size)(hQ:∀ h' T' oT ts,h'.get? e=Ab (Gf (·.setIfInBounds 1 (.ref T')) oe)->T'≠e->s.heap.get? T'=Af->h'.get? T'=Ab oT->oT.data=.fields ts->ts[3]?=Ab (Cw L)->Shift [e] (frs (env::outer)) s.heap h'->Q () {s with heap:=h'}):
  AC M A (do
   let fr <-frameOf env
   let pl <-entryPlaceOf L nx
   let en <-Yl hd fr .none (Cw L) .none pl
   setField (.ref e) 1 en) Q E s:=by
 have nf:e∉frs (env::outer):=λz=>by
  obtain⟨_,o,q,n⟩:=ff.mem z;rw[he]at q;cases q;exact n vs dt
 refine Ah (wpAny_frameOf_fun hfr ff hf λk1 so=>Ah (wpAny_entryPlaceOf λpl ip=>?_))
 obtain⟨sz,sm,sl⟩:=so;have e1:k1.get? e=Ab oe:=(sm e nf).trans he;unfold Yl;unfold newFields;refine Ah (CO ?_ (ip.sizeOk5 _ _ _ _ _));generalize hX:({ cls:=.type "traceback",dict:=Af,data:=.fields ([hd,.ref L,.none,Cw L,.none]++(if pl.isEmpty then G3 6 Da else pl)).toArray }:Di)=ob
 have od:ob.data=.fields ([hd,.ref L,.none,Cw L,.none]++(if pl.isEmpty then G3 6 Da else pl)).toArray:=by rw[<-hX]
 have nl:k1.objs.size≠e:=De (AE e1);have e2:=Ar ob e1;refine FW e2 dt hz ?_;have up:∀ b,b≠e->((k1.push ob).update e (Gf (·.setIfInBounds 1 (.ref k1.objs.size)))).get? b=(k1.push ob).get? b:=λb nb=>Cp _ _ (Br nb)
 have lf:ob.isFreed=Ae:=by rw[<-hX];rfl
 refine hQ _ k1.objs.size ob _ (Ci _ e2 (E8 (DF dt _))) nl ?_ ((up _ nl).trans (AB k1 lf)) od ?_ ⟨λb o q n1 n2=>?_,λb o q hb=>?_⟩
 .rw[sz];exact GJ (A5 _)
 .simp
 .have nb:b≠e:=λz=>n1 (by rw[z];exact Ax)
  rw[up b nb];exact Ar ob ((sm b n2).trans q)
 .obtain⟨sl',q'⟩:=sl b o q;have nb:b≠e:=λz=>nf (z ▸ hb)
  exact⟨sl',(up b nb).trans (Ar ob q')⟩
theorem Tz{oT:Di}{ts:A1 Ai}{fl:Ai}(hc:oe.cls=cls)(hx:oe.dict=dx)(h0:vs[0]?=Ab a0)(dt:oe.data=.fields vs)(hz:1<vs.size)(g:h'.get? e=Ab (Gf (·.setIfInBounds 1 (.ref T')) oe))(ne:T'≠e)(gT:h'.get? T'=Ab oT)(dT:oT.data=.fields ts)(f3:ts[3]?=Ab fl):OW e T' cls dx fl h':=
 ⟨_,_,oT,ts,a0,g,(Y_4 _ _).trans hc,(qI _ _).trans hx,by rw[Array.getElem?_setIfInBounds_ne (by decide)];exact h0,DF dt _,by simp[hz],ne,gT,dT,f3⟩
theorem K5{v:Ai}(q:vs[i]?=Ab v):i<vs.size:=(CC.mp q).1
theorem iW(hfr:A.frames=Ab (env::outer))(hf:env.frame=Ab L)(ff:s.heap.FunFrames base (env::outer))(fl:Fly e T cls dx s.heap)(hQ:∀ h' T',OW e T' cls dx (Cw L) h'->Shift [e,T] (frs (env::outer)) s.heap h'->s.heap.get? T'=Af->Q () {s with heap:=h'}):AC M A (JN (.ref e) env) Q E s:=by
 obtain⟨oe,vs,oT,ts,a0,he,hc,hx,h0,dt,h1,ne,hT,dT,h3⟩:=fl;have z3:=K5 h3;unfold JN;simp only[hf];refine Ah (Bl he dt h1 ?_);rw[AO (by simp:(Dt T != Da)=Aa)]
 refine Ah (Bl hT dT h3 ?_);rw[AW (by simp[Cw]:¬ (Da==Cw L)=Aa)]
 refine Ah (FW hT dT z3 ?_);have up:∀ b,b≠T->(s.heap.update T (Gf (·.setIfInBounds 3 Da))).get? b=s.heap.get? b:=λb nb=>Cp _ _ (Br nb)
 have rcd:∀ b o,s.heap.get? b=Ab o->(∀ us,o.data≠.fields us)->b≠T:=λb o q n z=>by
  rw[z,hT]at q;cases q;exact n ts dT
 refine TR (base:=base) hfr hf (ff.of_keeps λb o q n=>⟨o,(up b (rcd b o q n)).trans q,rfl⟩) ((up e (Br ne)).trans he) dt (K5 h1) λh' T' oT' ts' g nT gn gT dT' f3 sh=>?_
 have T0:s.heap.get? T'=Af:=by
  by_cases z:T'=T
  .rw[z]at gn;rw[Ci _ hT (E8 (DF dT _))]at gn;cases gn
  .rw[<-up T' z];exact gn
 refine hQ h' T' (Tz hc hx h0 dt (K5 h1) g nT gT dT' f3) ⟨λb o q n1 n2=>?_,λb o q hb=>?_⟩ T0
 .simp only[Av,AR,BQ,DB]at n1;exact sh.keep b o ((up b n1.2).trans q) (by simp[n1.1]) n2
 .obtain⟨_,o',q',n⟩:=ff.mem hb;rw[q]at q';cases q';exact sh.slot b o ((up b (rcd b o q n)).trans q) hb
theorem Vu{fv:Ai}(fl:OW e T cls dx fv s.heap)(hQ:∀ h',Fly e T cls dx h'->(∀ b o,b≠T->s.heap.get? b=Ab o->h'.get? b=Ab o)->Q () {s with heap:=h'}):AC M A (setFlight (.ref e) Af) Q E s:=by
 obtain⟨oe,vs,oT,ts,a0,he,hc,hx,h0,dt,h1,ne,hT,dT,h3⟩:=fl;have z3:=K5 h3;unfold setFlight;refine Ah (Bl he dt h1 ?_);rw[AO (by simp:(Dt T != Da)=Aa)]
 refine FW hT dT z3 (hQ _ ?_ λb o nb q=>(Cp _ _ (Br nb)).trans q)
 exact⟨oe,vs,_,_,a0,(Cp _ _ ne).trans he,hc,hx,h0,dt,h1,ne,Ci _ hT (E8 (DF dT _)),DF dT _,by simp[z3]⟩
theorem TJ{h1 h2:AM}(ff:s.heap.FunFrames base (env::outer))(sh:Shift ex (frs (env::outer)) s.heap h1)(hT:s.heap.get? T'=Af)(k:∀ b o,b≠T'->h1.get? b=Ab o->h2.get? b=Ab o):Shift ex (frs (env::outer)) s.heap h2:=
 ⟨λb o q n1 n2=>k b o (λz=>by rw[z,hT]at q;cases q) (sh.keep b o q n1 n2),λb o q hb=>let ⟨sl,q'⟩:=sh.slot b o q hb;⟨sl,k b _ (λz=>by rw[z,hT]at q;cases q) q'⟩⟩
theorem fZ(hfr:A.frames=Ab (env::outer))(hf:env.frame=Ab L)(ff:s.heap.FunFrames base (env::outer))(fl:Fly e T cls dx s.heap)(hQ:∀ h' T',Fly e T' cls dx h'->Shift [e,T] (frs (env::outer)) s.heap h'->(T'=T\/s.heap.get? T'=Af)->Q () {s with heap:=h'}):AC M A (leaving env (.ref e)) Q E s:=by
 unfold leaving;exact Ah (iW hfr hf ff fl λh1 T' f1 sh hT=>Vu f1 λh2 f2 k=>hQ h2 T' f2 (TJ ff sh hT k) (.inr hT))
theorem fJ(hfr:A.frames=Ab (env::outer))(hf:env.frame=Ab L)(ff:s.heap.FunFrames base (env::outer))(he:s.heap.get? e=Ab oe)(hc:oe.cls=cls)(hx:oe.dict=dx)(dt:oe.data=.fields vs)(h0:vs[0]?=Ab a0)(h1:vs[1]?=Ab .none)(hQ:∀ h' T',Fly e T' cls dx h'->Shift [e] (frs (env::outer)) s.heap h'->s.heap.get? T'=Af->Q () {s with heap:=h'}):AC M A (leaving env (.ref e)) Q E s:=by
 unfold leaving JN;simp only[hf];refine Ah (Ah (Bl he dt h1 ?_));rw[AW (by decide)]
 exact TR (base:=base) hfr hf ff he dt (K5 h1) λh' T' oT ts g nT gn gT dT f3 sh=>Vu (Tz hc hx h0 dt (K5 h1) g nT gT dT f3) λh2 f2 k=>hQ h2 T' f2 (TJ ff sh gn k) gn
end
def CXR(P:AU)(w:AH):CXT:=λouter H s E ev s'=>∃ e T cls dx H',ev=.ref e/\s'.os=s.os/\FU s'.gens/\Un (frs outer) [] H H' s.heap s'.heap/\HOk P w H' s'.heap/\Fly e T cls dx s'.heap/\H' e=Af/\H' T=Af/\s.heap.get? e=Af/\s.heap.get? T=Af/\E cls dx H'
def O5(X:Cx)(CL:ClA)(W:XW):Prop:=∀ pI Y H s e C dx t x,Inv X pI Y H s->(X.ex=[]->X.s₀.heap.get? e=Af)->H e=Af->s.heap.get? e=Ab (ZU C dx t)->Ie X.K CL H (.ref C) dx x->W x H->X.xe (.ref e) s
section
variable{P:AU}{w:AH}{K:Fg}{mg:An->Aq Ai}{base:AM}{N:Ac An}{qual:An}{scope:Cz}{f:Am}{cd:Ai}{A:Bc}{outer:Ac C1}{s:As}{H:Hp}{E:XK}{CL:ClA}{W:XW}
theorem Vr(I:Inv X pI Y H s):∀ b∈frs X.stack,b∈X.fs\/X.s₀.heap.get? b=Af:=λb hb=>by
 rcases Av.mp (I.stkSub b hb) with z|z
 .exact .inr (by rw[z];exact GJ I.ok.above)
 .exact .inl z
theorem NL{b:Am}(I:Inv X pI Y H s)(hx:X.ex=[])(h:s.heap.get? b=Af):X.s₀.heap.get? b=Af:=by
 cases q:X.s₀.heap.get? b with
 |none=>rfl
 |some o=>
  obtain⟨o',z⟩:=I.base.there b o q (by rw[hx];simp)
  rw[h]at z;cases z
theorem k9(hE:∀ x cls dx H',W x H'->Ie K CL H' cls dx x->E cls dx H'):∀ A',Lr (CXR P w) (G7 (CXR P w) P w K mg base N qual scope f cd A outer s H E) (EKW K CL A' W):=by
 intro A' pI Y H1 s1 ev s2 I h;obtain⟨e,T,cls,dx,H',rfl,os,bare,un,hok,fl,he,hT,ne,nT,x,xr,wx⟩:=h;have I':=I.call' (s':=s2) (ch:=[]) os un hok bare (λb z=>absurd z (by simp))
 have hb0:Un (frs outer) [] H H' s.heap s2.heap:=I'.base;show AC (model P w) (A.deeper (Fp qual scope s.heap.objs.size f cd)) (leaving (Fp qual scope s.heap.objs.size f cd) (.ref e)) _ _ s2;refine fZ (L:=s.heap.objs.size) I'.ok.frames rfl I'.stack fl λh' T' fl' sh hT'=>?_
 have e0:s.heap.get? e=Af:=NL I rfl ne;have T0:s.heap.get? T=Af:=NL I rfl nT;refine⟨e,T',cls,dx,H',rfl,I'.os,bare,Un.shift hb0 sh ?_ (Vr I'),HOk.shift hok sh ?_ I'.stkFree,fl',he,?_,e0,?_,?_⟩
 .intro b hb;rcases Av.mp hb with rfl|hb
  .exact e0
  .rw[BY.mp hb];exact T0
 .intro b hb;rcases Av.mp hb with rfl|hb
  .exact he
  .rw[BY.mp hb];exact hT
 .rcases hT' with rfl|z
  .exact hT
  .exact U_3 hok z
 .rcases hT' with rfl|z
  .exact T0
  .exact NL I' rfl z
 .exact hE x cls dx H' wx xr
theorem rzR(hE:∀ x cls dx H',W x H'->Ie K CL H' cls dx x->E cls dx H'):O5 (G7 (CXR P w) P w K mg base N qual scope f cd A outer s H E) CL W:=by
 intro pI Y H1 s1 e C dx t x I e0 he ge xr hw;have hb0:Un (frs outer) [] H H1 s.heap s1.heap:=I.base;have e0':s.heap.get? e=Af:=e0 rfl;show AC (model P w) (A.deeper (Fp qual scope s.heap.objs.size f cd)) (leaving (Fp qual scope s.heap.objs.size f cd) (.ref e)) _ _ s1;refine fJ (cls:=.ref C) (dx:=dx) (L:=s.heap.objs.size) I.ok.frames rfl I.stack ge rfl rfl rfl (a0:=.ref t) rfl rfl λh' T' fl' sh hT'=>?_
 have one:∀{Z_:Am->Prop},Z_ e->∀ b∈[e],Z_ b:=λ{Z_} z b hb=>by rw[BY.mp hb];exact z
 exact⟨e,T',.ref C,dx,H1,rfl,I.os,I.bare,Un.shift hb0 sh (one e0') (Vr I),HOk.shift I.hok sh (one (Z_:=λb=>H1 b=Af) he) I.stkFree,fl',he,U_3 I.hok hT',e0',NL I rfl hT',hE x _ dx H1 hw xr⟩
theorem ownR:GA (model P w) (G7 (CXR P w) P w K mg base N qual scope f cd A outer s H E).A (G7 (CXR P w) P w K mg base N qual scope f cd A outer s H E).env (G7 (CXR P w) P w K mg base N qual scope f cd A outer s H E).xe:=PassesOwn.leaving
end
noncomputable def veB:Ac Ai:=[.type "ValueError",.type "Exception",.type "BaseException",.type "object"]
noncomputable def LH(K:Fg)(C:Am)(v:Aq Ai):Ak:=match K.lookup C with
  | some ⟨.type "type",_,.cls c,z⟩=>(match c.mro,z.toList with
    |.ref c0::tl,[_,_,_,_,Ab (.builtin nw),_]=>c0==C&&(nw == "ValueError.__new__" && (!c.hasDel&&(PySem.W.tailIn K veB tl&&(PySem.W.nsOkIn K c.ns&&BZ K c.ns "__init__" == Ab v))))
    | _,_=>Ae)
  |_=>Ae
structure XcOk (K:Fg) (C:Am):Prop where
 exc:∃ v,LH K C v=Aa
 ga:C2 K (.ref C) "__getattribute__" = Ab (Ab (.builtin "BaseException.__getattribute__"))
 gt:C2 K (.ref C) "__getattr__" = Ab Af
 cl:C2 K (.ref C) "__class__" = Ab (Ab (.builtin "object.__class__"))
 ob:PySem.W.mroIn K C (.type "object")=Ab Aa
 be:Zt K (.ref C) (.type "BaseException")=Ab Aa
 cs:(PySem.W.clsIn K C).isSome=Aa
 ve:Zr K (.ref C) (.type "ValueError")=Ab Aa
section
variable{prog:AU}{w:AH}{A:Bc}{E:Vq}{h:AM}{g:A1 Ff}{d:Jb}{t:Ag}{os:IR}{K:Fg}{e C:Am}
end
def Xd(X:Cx)(pI:Pn)(e:Am):Prop:=e≠X.env.locals/\(∀ x c,X.env.cells.lookup x=Ab c->c≠e)/\(∀ p∈X.pn++pI,p.1≠e)/\X.s₀.heap.get? e=Af
section
variable{X:Cx}{pI:Pn}{Y:L2.St}{H:Hp}{s:As}{e:Am}
end
noncomputable def Cx.hot(X:Cx)(e:Am):Cx:={X with A:=X.A.mark (Ab (.ref e)),calm:=Ae,xe:=λ_ _=>BF}
section
variable{X:Cx}{pI:Pn}{Y:L2.St}{H:Hp}{s:As}{e:Am}
end
noncomputable def Z_8(X:Cx)(CL:ClA)(pI:Pn)(Y:L2.St)(H:Hp)(y:Ex)(Xw:Vq):Prop:=
 ∀ s' H' e T cls dx,Inv X pI Y H' s'->AN H H'->Fly e T cls dx s'.heap->H' e=Af->H' T=Af->Xd X pI e->Xd X pI T->Ie X.K CL H' cls dx y->Xw (.ref e) s'
def STB(X:Cx)(CL:ClA)(body:Ac BA)(f:Rho->O):Prop:=∀ Fz B pI s Y H D U (Xw:Vq),GA (model X.prog X.w) X.A X.env Xw->Inv X pI Y H s->Sx X.K CL Fz B U Y H ->
  (match f U with
   |.exn y U'=>U'=U->Z_8 X CL pI Y H y Xw
   | o=>CT X.K CL Fz B (λ_ _=>BF) o D)->(∀ y U',f U=.exn y U'->U'=U)->AC (model X.prog X.w) X.A (execs body X.env) (SP X pI D) Xw s
noncomputable def Cx.pw(X:Cx)(pI:Pn)(Xw:Vq):Cx:={X with pn:=X.pn++pI,xe:=Xw}
section
variable{X:Cx}{pI pins':Pn}{Y:L2.St}{H:Hp}{s:As}{Xw:Vq}
end
section
variable{X:Cx}{CL:ClA}{k n:Ag}{fr:Ak}{f:Am}{fd:CA}{ps:Ac An}{F:Ac D->R D}{x:An}{p pos pos2:A6}{e:Ao}{es:Ac Ao}{fs ft:Rho->R (Ac D)}{sh:Rho->Ak}
variable(hx0:X.ex=[])(G:FnOk X.prog X.w X.K X.mg X.base (CXR X.prog X.w) k f fd ps (spD X.K CL n fr F))(hr:Room k X.A)(hg:Gl X x)(hm:X.mg x=Ab (.ref f))
    (hk:DG X.K (.ref f)=Aa) (hb:IG X.K fd ps []) (hst:∀ U,sh U=Aa->ft U=fs U) (hn:∀ U ds,ft U=.ok ds->ds.length=n) (hnx:∀ U y,ft U≠.exn y)
    (hdb:(x==("__debug__" : An))=Ae) (he:AI (e::es) X.env=(Ae,eval e X.env)::AI es X.env) (hpl:∀ pos,(CU pos (AI es X.env)).any (·.1)=Ae)
    (ha:∀ pI Xw,GA (model X.prog X.w) X.A X.env Xw->SA (Cx.pw X pI Xw) CL (λ_ _=>BF) (e::es) fs/\SAT (Cx.pw X pI Xw) CL (λ_ _=>BF) (e::es) ft)
include hx0 G hr hg hm hk hb hst hn hnx hdb he hpl ha
end
section
variable{X:Cx}{CL:ClA}{W:XW}
def dq(K:Fg)(CL:ClA)(up:Ag->Ac Ag)(c':Ag)(C':Am):Prop:=∀ c C,CL c=Ab C->Zr K (.ref C) (.ref C')=Ab ((up c).contains c')
variable{a:Ao}{fa:Rho->R D}{up:Ag->Ac Ag}{x:An}{p p2 pos:A6}
end
end Ov
section
namespace Ov
open PySem PySem.Spec PyProof.Rows L2
end Ov
end
namespace Ov
open PySem PySem.Spec PyProof.Rows L2
variable{α:Type}{g x qual x0 x1:An}{as:Es}{X:Cx}{CL:ClA}{fr:Ak}{pos p:A6}{xs ys:Ac Ao}{env:C1}{l kk k:Ag}{scope:Cz}{ts:Ac Ag}{C:Am}{H:Hp}{vs:Ac V}{K:Fg}{fd:CA}{xn:Ag->Ac D->R Ex}{CX:CXT}{ps:Ac An}{h:AM}
noncomputable abbrev bF:CXT:=λ_ _ _ _ _ _=>BF
structure HotOk (P:AU) (w:AH) (K:Fg) (mg:An->Aq Ai) (base:AM) (k:Ag) (f:Am) (fd:CA) (ps:Ac An) (sp:Sp):Prop where
 len:∀ vs H Q E,sp vs H Q E->vs.length=ps.length
 run:∀(A:Bc)(ev:Am)(outer:Ac C1)(s:As)(H:Hp)(args:Args)(us:Ac Ai)(vs:Ac V)(Q:VK)(E:XK),Room k A->Env0 P w K mg base (A.mark (Ab (.ref ev))) outer s H->HF s fd args (ps.zip us)->Bj vs us->sp vs H Q E ->
  Fu (model P w) (A.mark (Ab (.ref ev))) (.call (.ref f) args) (CR bF outer P w H s Q E) s
def spH(K:Fg)(CL:ClA)(n:Ag)(fr:Ak)(F:Ac D->R D):Sp:=λvs H Q _=>∃(ds:Ac D)(A:Am->Prop),vs.length=n/\AOk H A/\Reps K CL H A vs ds/\(match F ds with
  |.ok d=>∀ v H',AN H H'->Fb K CL fr H A H' v d->Q v H'
  |.exn _=>BF
  | .bad=>BF)
section
variable{X:Cx}{CL:ClA}{ev:Am}
end
section
variable{M:J6}{A:Bc}{E:Vq}{s:As}{env:C1}{nm q:An}{C N:Am}{bs bm bmB:Ac Ai}{hdct:Ak}{sn:Ac An}{sub:Ac Ai}{ab:Ak}{col:Aq Ak}{dd:Aq Am}{k0 k1 k2 k3 k5:Aq Ai}{B newId initId:Dy}
end
section
variable{prog:AU}{w:AH}{A:Bc}{E:Vq}{h:AM}{g:A1 Ff}{d:Jb}{t:Ag}{os:IR}
variable{nm q:An}{C N fI:Am}{bs bm bmB:Ac Ai}{hdct:Ak}{sn:Ac An}{sub:Ac Ai}{ab:Ak}{col:Aq Ak}{dd:Aq Am}{k0 k1 k2 k3 k5:Aq Ai}{B newId initId:Dy}{mN:An->Aq Ai}{rest:Ac Ai}{oI:Di}
end
section
variable{prog:AU}{w:AH}{A:Bc}{E:Vq}{s:As}{env:C1}
variable{nm q:An}{C N fI:Am}{bs bm bmB:Ac Ai}{hdct:Ak}{sn:Ac An}{sub:Ac Ai}{ab:Ak}{col:Aq Ak}{dd:Aq Am}{k0 k1 k2 k3 k5:Aq Ai}{B newId initId:Dy}{mN:An->Aq Ai}
end
section
variable{prog:AU}{w:AH}{A:Bc}{E:Vq}{h:AM}{g:A1 Ff}{d:Jb}{tk0:Ag}{os:IR}
variable{nm q:An}{C N e t:Am}{dx:Aq Am}{bs bm bmB:Ac Ai}{hdct:Ak}{sn:Ac An}{sub:Ac Ai}{ab:Ak}{col:Aq Ak}{dd:Aq Am}{k0 k1 k2 k3 k5:Aq Ai}{B newId initId:Dy}
end
section
variable{X:Cx}{CL:ClA}{pI:Pn}{Y:L2.St}{H:Hp}{s:As}
end
section
variable{X:Cx}{CL:ClA}
end
section
variable{X:Cx}{CL:ClA}{C:Am}{nm q:An}{N:Am}{bs bm:Ac Ai}{hdct:Ak}{sn:Ac An}{sub:Ac Ai}{ab:Ak}{col:Aq Ak}{dd:Aq Am}{k0 k1 k2 k3 k5:Aq Ai}
end
section
variable{prog:AU}{w:AH}{A:Bc}{E:Vq}{h:AM}{g:A1 Ff}{d:Jb}{tk0:Ag}{os:IR}{K:Fg}
variable{nm q:An}{C N e t:Am}{bs bm bmB:Ac Ai}{sn:Ac An}{sub:Ac Ai}{ab:Ak}{col:Aq Ak}{dd:Aq Am}{k0 k1 k2 k3 k5:Aq Ai}{B newId sa owner:Dy}
end
section
variable{prog:AU}{w:AH}{A:Bc}{E:Vq}{h:AM}{g:A1 Ff}{d:Jb}{tk0:Ag}{os:IR}{K:Fg}
variable{nm q:An}{C N e t:Am}{bs bm bmB:Ac Ai}{sn:Ac An}{sub:Ac Ai}{ab:Ak}{col:Aq Ak}{dd:Aq Am}{k0 k1 k2 k3 k5:Aq Ai}{B newId sa owner:Dy}
end
section
variable{X:Cx}{pI:Pn}{Y:L2.St}{H:Hp}{s:As}{e:Am}
end
section
variable{X:Cx}{C:Am}{nm q:An}{N:Am}{bs bm:Ac Ai}{sn:Ac An}{sub:Ac Ai}{ab:Ak}{col:Aq Ak}{dd:Aq Am}{k0 k1 k2 k3 k5:Aq Ai}
end
noncomputable def MY(K:Fg)(C:Am):Ak:=match K.lookup C with
  |some ⟨_,_,.cls c,_⟩=>c.hasDict
  |_=>Ae
section
variable{P:AU}{w:AH}{K:Fg}{mg:An->Aq Ai}{base:AM}{CL:ClA}{C fI OV:Am}{x qual g par z f:An}{st:BA}{fd:CA}{k:Ag}{np apos p1 p2 p3 p4 p5 cpos p6 p7 p8 p9 p10:A6}
variable{nm q:An}{N:Am}{bs bm:Ac Ai}{sn:Ac An}{sub:Ac Ai}{ab:Ak}{col:Aq Ak}{dd:Aq Am}{k0 k1 k2 k3 k5:Aq Ai}
end
section
variable{X:Cx}{CL:ClA}{W:XW}
end
section
variable{prog:AU}{w:AH}{A:Bc}{E:Vq}{h:AM}{g:A1 Ff}{d:Jb}{t:Ag}{os:IR}{K:Fg}{e C dx:Am}{f:An}{mA:An->Aq Ai}{v:Ai}
end
section
variable{X:Cx}{CL:ClA}{W:XW}{K:Fg}{H:Hp}{A:Am->Prop}
end
theorem noF{P:Prop}(h:Ae=Aa):P:=nomatch h
structure Tc where
 sc:Cz
 N:Ac An
 /-- a def's name,its number,how many parameters it has -/
 fns:Ac (An×Ag×Ag)
 /-- built-in names that the text does not hide -/
 bl:Ac An
 /-- exceptions' classes by their names: those that are raised,all that are asked for -/
 rzs:Ac (An×Ag)
 exs:Ac (An×Ag)
 /-- the text's constants -/
 gls:Ac (An×Ag)
noncomputable def Sd(T:Tc)(x:An):Ak:=match T.sc.names.lookup x with
  |some .local=>Aa
  |some .cell=>Aa
  |some .free=>Aa
  |_=>Ae
noncomputable def LK(T:Tc)(x:An):Ak:=match T.sc.names.lookup x with
  |some .local=>Aa
  |some .cell=>Aa
  |_=>Ae
noncomputable def glB(T:Tc)(x:An):Ak:=T.sc.names.lookup x==Ab .globalImplicit
noncomputable def MZ(x:An):Ak:=!(x==("__debug__" : An)) && !(x==("__classdict__" : An)) && !(x==("__name__" : An))
noncomputable def isV(T:Tc)(x:An)(i:Ag):Ak:=T.N[i]? == Ab x&&Sd T x&&MZ x
noncomputable def isB(T:Tc)(x:An):Ak:=T.bl.contains x&&glB T x&&MZ x
theorem FR{a b:Ak}(h:(a&&b)=Aa):a=Aa/\b=Aa:=(Ap a b).mp h
theorem orT{a b:Ak}(h:(a||b)=Aa):a=Aa\/b=Aa:=(C9 a b).mp h
noncomputable def IC(e:Ao)(F:An->Ak):Ak:=if c:e.ctorIdx=23 then YD (motive_1:=λ_=>Ak) e c λx _=>F x else Ae
theorem Jn{e:Ao}{F:An->Ak}(h:IC e F=Aa):∃ x p,e=YC x p/\F x=Aa:=by
 by_cases c:e.ctorIdx=23
 .exact YD (motive_1:=λe=>IC e F=Aa->∃ x p,e=YC x p/\F x=Aa) e c (λx p h=>⟨x,p,rfl,h⟩) h
 .exact noF ((CH c).symm.trans h)
noncomputable def Lz(e:Ao)(F:Const->Ak):Ak:=if c:e.ctorIdx=19 then Yx (motive_1:=λ_=>Ak) e c λc _ _=>F c else Ae
theorem NK{e:Ao}{F:Const->Ak}(h:Lz e F=Aa):∃ c u p,e=Yw c u p/\F c=Aa:=by
 by_cases c:e.ctorIdx=19
 .exact Yx (motive_1:=λe=>Lz e F=Aa->∃ c u p,e=Yw c u p/\F c=Aa) e c (λc u p h=>⟨c,u,p,rfl,h⟩) h
 .exact noF ((CH c).symm.trans h)
noncomputable def RK(e:Ao)(F:Ao->Gn->Ao->Ak):Ak:=if c:e.ctorIdx=2 then Yp (motive_1:=λ_=>Ak) e c λx o y _=>F x o y else Ae
theorem jF{e:Ao}{F:Ao->Gn->Ao->Ak}(h:RK e F=Aa):∃ x o y p,e=Yo x o y p/\F x o y=Aa:=by
 by_cases c:e.ctorIdx=2
 .exact Yp (motive_1:=λe=>RK e F=Aa->∃ x o y p,e=Yo x o y p/\F x o y=Aa) e c (λx o y p h=>⟨x,o,y,p,rfl,h⟩) h
 .exact noF ((CH c).symm.trans h)
noncomputable def LJ(e:Ao)(F:J7->Ao->Ak):Ak:=if c:e.ctorIdx=3 then YL (motive_1:=λ_=>Ak) e c λo x _=>F o x else Ae
theorem Q3{e:Ao}{F:J7->Ao->Ak}(h:LJ e F=Aa):∃ o x p,e=YK o x p/\F o x=Aa:=by
 by_cases c:e.ctorIdx=3
 .exact YL (motive_1:=λe=>LJ e F=Aa->∃ o x p,e=YK o x p/\F o x=Aa) e c (λo x p h=>⟨o,x,p,rfl,h⟩) h
 .exact noF ((CH c).symm.trans h)
noncomputable def LB(e:Ao)(F:BoolOp->Ac Ao->A6->Ak):Ak:=if c:e.ctorIdx=0 then Yr (motive_1:=λ_=>Ak) e c λo xs p=>F o xs p else Ae
theorem QB{e:Ao}{F:BoolOp->Ac Ao->A6->Ak}(h:LB e F=Aa):∃ o xs p,e=Yq o xs p/\F o xs p=Aa:=by
 by_cases c:e.ctorIdx=0
 .exact Yr (motive_1:=λe=>LB e F=Aa->∃ o xs p,e=Yq o xs p/\F o xs p=Aa) e c (λo xs p h=>⟨o,xs,p,rfl,h⟩) h
 .exact noF ((CH c).symm.trans h)
noncomputable def LA(e:Ao)(F:Ao->Ac DI->Ac Ao->Ak):Ak:=if c:e.ctorIdx=15 then Yv (motive_1:=λ_=>Ak) e c λx os ys _=>F x os ys else Ae
theorem QA{e:Ao}{F:Ao->Ac DI->Ac Ao->Ak}(h:LA e F=Aa):∃ x os ys p,e=Yu x os ys p/\F x os ys=Aa:=by
 by_cases c:e.ctorIdx=15
 .exact Yv (motive_1:=λe=>LA e F=Aa->∃ x os ys p,e=Yu x os ys p/\F x os ys=Aa) e c (λx os ys p h=>⟨x,os,ys,p,rfl,h⟩) h
 .exact noF ((CH c).symm.trans h)
noncomputable def Oq(e:Ao)(F:Ao->Ac Ao->Ac Eg->A6->Ak):Ak:=if c:e.ctorIdx=16 then Yt (motive_1:=λ_=>Ak) e c λf as ks p=>F f as ks p else Ae
theorem UT{e:Ao}{F:Ao->Ac Ao->Ac Eg->A6->Ak}(h:Oq e F=Aa):∃ f as ks p,e=Ys f as ks p/\F f as ks p=Aa:=by
 by_cases c:e.ctorIdx=16
 .exact Yt (motive_1:=λe=>Oq e F=Aa->∃ f as ks p,e=Ys f as ks p/\F f as ks p=Aa) e c (λf as ks p h=>⟨f,as,ks,p,rfl,h⟩) h
 .exact noF ((CH c).symm.trans h)
noncomputable def RM(e:Ao)(F:Ao->An->A6->Ak):Ak:=if c:e.ctorIdx=20 then Yn (motive_1:=λ_=>Ak) e c λo m p=>F o m p else Ae
theorem jG{e:Ao}{F:Ao->An->A6->Ak}(h:RM e F=Aa):∃ o m p,e=Ym o m p/\F o m p=Aa:=by
 by_cases c:e.ctorIdx=20
 .exact Yn (motive_1:=λe=>RM e F=Aa->∃ o m p,e=Ym o m p/\F o m p=Aa) e c (λo m p h=>⟨o,m,p,rfl,h⟩) h
 .exact noF ((CH c).symm.trans h)
noncomputable def MR(e:Ao)(F:Ao->Ao->Ak):Ak:=if c:e.ctorIdx=21 then YH (motive_1:=λ_=>Ak) e c λx y _=>F x y else Ae
theorem Qy{e:Ao}{F:Ao->Ao->Ak}(h:MR e F=Aa):∃ x y p,e=YG x y p/\F x y=Aa:=by
 by_cases c:e.ctorIdx=21
 .exact YH (motive_1:=λe=>MR e F=Aa->∃ x y p,e=YG x y p/\F x y=Aa) e c (λx y p h=>⟨x,y,p,rfl,h⟩) h
 .exact noF ((CH c).symm.trans h)
noncomputable def RO(e:Ao)(F:Aq Ao->Aq Ao->Aq Ao->Ak):Ak:=if c:e.ctorIdx=26 then YF (motive_1:=λ_=>Ak) e c λl u s _=>F l u s else Ae
theorem kJ{e:Ao}{F:Aq Ao->Aq Ao->Aq Ao->Ak}(h:RO e F=Aa):∃ l u s p,e=YE l u s p/\F l u s=Aa:=by
 by_cases c:e.ctorIdx=26
 .exact YF (motive_1:=λe=>RO e F=Aa->∃ l u s p,e=YE l u s p/\F l u s=Aa) e c (λl u s p h=>⟨l,u,s,p,rfl,h⟩) h
 .exact noF ((CH c).symm.trans h)
noncomputable def Ly(e:Ao)(F:Ac Ao->Ak):Ak:=if c:e.ctorIdx=25 then YJ (motive_1:=λ_=>Ak) e c λxs _ _=>F xs else Ae
theorem NJ{e:Ao}{F:Ac Ao->Ak}(h:Ly e F=Aa):∃ xs c p,e=YI xs c p/\F xs=Aa:=by
 by_cases c:e.ctorIdx=25
 .exact YJ (motive_1:=λe=>Ly e F=Aa->∃ xs c p,e=YI xs c p/\F xs=Aa) e c (λxs c p h=>⟨xs,c,p,rfl,h⟩) h
 .exact noF ((CH c).symm.trans h)
noncomputable def RI(e:Ao)(F:Ac Ao->Ak):Ak:=if c:e.ctorIdx=24 then Yz (motive_1:=λ_=>Ak) e c λxs _=>F xs else Ae
theorem kL{e:Ao}{F:Ac Ao->Ak}(h:RI e F=Aa):∃ xs p,e=Yy xs p/\F xs=Aa:=by
 by_cases c:e.ctorIdx=24
 .exact Yz (motive_1:=λe=>RI e F=Aa->∃ xs p,e=Yy xs p/\F xs=Aa) e c (λxs p h=>⟨xs,p,rfl,h⟩) h
 .exact noF ((CH c).symm.trans h)
noncomputable def RJ(e:Ao)(F:Ao->Ac JA->Cz->Ak):Ak:=if c:e.ctorIdx=8 then YB (motive_1:=λ_=>Ak) e c λx gs sc _=>F x gs sc else Ae
theorem kM{e:Ao}{F:Ao->Ac JA->Cz->Ak}(h:RJ e F=Aa):∃ x gs sc p,e=YA x gs sc p/\F x gs sc=Aa:=by
 by_cases c:e.ctorIdx=8
 .exact YB (motive_1:=λe=>RJ e F=Aa->∃ x gs sc p,e=YA x gs sc p/\F x gs sc=Aa) e c (λx gs sc p h=>⟨x,gs,sc,p,rfl,h⟩) h
 .exact noF ((CH c).symm.trans h)
noncomputable def RN(e:BA)(F:Ac Ao->Ao->Ak):Ak:=if c:e.ctorIdx=5 then Zc (motive_2:=λ_=>Ak) e c λts v _=>F ts v else Ae
theorem jH{e:BA}{F:Ac Ao->Ao->Ak}(h:RN e F=Aa):∃ ts v p,e=Zb ts v p/\F ts v=Aa:=by
 by_cases c:e.ctorIdx=5
 .exact Zc (motive_2:=λe=>RN e F=Aa->∃ ts v p,e=Zb ts v p/\F ts v=Aa) e c (λts v p h=>⟨ts,v,p,rfl,h⟩) h
 .exact noF ((CH c).symm.trans h)
noncomputable def OD(e:BA)(F:Ao->Ak):Ak:=if c:e.ctorIdx=24 then Ze (motive_2:=λ_=>Ak) e c λv _=>F v else Ae
theorem US{e:BA}{F:Ao->Ak}(h:OD e F=Aa):∃ v p,e=Zd v p/\F v=Aa:=by
 by_cases c:e.ctorIdx=24
 .exact Ze (motive_2:=λe=>OD e F=Aa->∃ v p,e=Zd v p/\F v=Aa) e c (λv p h=>⟨v,p,rfl,h⟩) h
 .exact noF ((CH c).symm.trans h)
noncomputable def RP(e:BA)(F:Aq Ao->Ak):Ak:=if c:e.ctorIdx=3 then Zi (motive_2:=λ_=>Ak) e c λo _=>F o else Ae
theorem kK{e:BA}{F:Aq Ao->Ak}(h:RP e F=Aa):∃ o p,e=Zh o p/\F o=Aa:=by
 by_cases c:e.ctorIdx=3
 .exact Zi (motive_2:=λe=>RP e F=Aa->∃ o p,e=Zh o p/\F o=Aa) e c (λo p h=>⟨o,p,rfl,h⟩) h
 .exact noF ((CH c).symm.trans h)
noncomputable def Sj(e:BA)(F:Ao->Ac BA->Ac BA->Ak):Ak:=if c:e.ctorIdx=12 then Zg (motive_2:=λ_=>Ak) e c λt xs ys _=>F t xs ys else Ae
theorem nX{e:BA}{F:Ao->Ac BA->Ac BA->Ak}(h:Sj e F=Aa):∃ t xs ys p,e=Stmt.If t xs ys p/\F t xs ys=Aa:=by
 by_cases c:e.ctorIdx=12
 .exact Zg (motive_2:=λe=>Sj e F=Aa->∃ t xs ys p,e=Stmt.If t xs ys p/\F t xs ys=Aa) e c (λt xs ys p h=>⟨t,xs,ys,p,rfl,h⟩) h
 .exact noF ((CH c).symm.trans h)
noncomputable def OC(e:BA)(F:Ao->Ao->Ac BA->Ac BA->Ak):Ak:=if c:e.ctorIdx=9 then Zf (motive_2:=λ_=>Ak) e c λt it xs ys _=>F t it xs ys else Ae
theorem UR{e:BA}{F:Ao->Ao->Ac BA->Ac BA->Ak}(h:OC e F=Aa):∃ t it xs ys p,e=Stmt.For t it xs ys p/\F t it xs ys=Aa:=by
 by_cases c:e.ctorIdx=9
 .exact Zf (motive_2:=λe=>OC e F=Aa->∃ t it xs ys p,e=Stmt.For t it xs ys p/\F t it xs ys=Aa) e c (λt it xs ys p h=>⟨t,it,xs,ys,p,rfl,h⟩) h
 .exact noF ((CH c).symm.trans h)
noncomputable def Oi{α:Type}:Ac α->(α->Ac α->Ak)->Ak
 |[],_=>Ae
 |x::xs,F=>F x xs
theorem Qa{l:Ac α}{F:α->Ac α->Ak}(h:Oi l F=Aa):∃ x xs,l=x::xs/\F x xs=Aa:=by
 cases l with
 |nil=>exact noF h
 |cons x xs=>exact⟨x,xs,rfl,h⟩
theorem Lo{l:Ac α}(h:l.isEmpty=Aa):l=[]:=List.isEmpty_iff.mp h
noncomputable def Gr{α:Type}(l:Ac α)(F:α->Ak):Ak:=Oi l λx r=>r.isEmpty&&F x
theorem Hq{l:Ac α}{F:α->Ak}(h:Gr l F=Aa):∃ x,l=[x]/\F x=Aa:=by
 obtain⟨x,r,rfl,h⟩:=Qa h;obtain⟨h1,h2⟩:=FR h;exact⟨x,by rw[Lo h1],h2⟩
noncomputable def Ic{α:Type}(l:Ac α)(F:α->α->Ak):Ak:=Oi l λx r=>Gr r λy=>F x y
theorem JV{l:Ac α}{F:α->α->Ak}(h:Ic l F=Aa):∃ x y,l=[x,y]/\F x y=Aa:=by
 obtain⟨x,r,rfl,h⟩:=Qa h;obtain⟨y,rfl,h⟩:=Hq h;exact⟨x,y,rfl,h⟩
noncomputable def KD(e:Ao)(F:An->Ac Ao->Ak):Ak:=Oq e λf as ks _=>IC f λg=>ks.isEmpty&&F g as
theorem La{e:Ao}{F:An->Ac Ao->Ak}(h:KD e F=Aa):∃ g p as q,e=.Call (.Name g p) as [] q/\F g as=Aa:=by
 obtain⟨f,as,ks,q,rfl,h⟩:=UT h;obtain⟨g,p,rfl,h⟩:=Jn h;obtain⟨h1,h2⟩:=FR h;exact⟨g,p,as,q,by rw[Lo h1],h2⟩
noncomputable def Rr(e:Ao)(F:An->Ao->Ac Ao->Ak):Ak:=KD e λg l=>Oi l λx xs=>F g x xs
theorem TX{e:Ao}{F:An->Ao->Ac Ao->Ak}(h:Rr e F=Aa):∃ g p x xs q,e=.Call (.Name g p) (x::xs) [] q/\F g x xs=Aa:=by
 obtain⟨g,p,as,q,rfl,h⟩:=La h;obtain⟨x,xs,rfl,h⟩:=Qa h;exact⟨g,p,x,xs,q,rfl,h⟩
noncomputable def OB(st:BA)(F:An->An->Ac Ao->Ak):Ak:=OD st λe=>Oq e λf as ks cp=>RM f λo m ap=>IC o λx=>ks.isEmpty&&(ap.endLine==cp.line&&F x m as)
theorem Qz{st:BA}{F:An->An->Ac Ao->Ak}(h:OB st F=Aa):∃ x p m ap as cp q,st=.Expr (.Call (.Attribute (.Name x p) m ap) as [] cp) q/\ap.endLine=cp.line/\F x m as=Aa:=by
 obtain⟨e,q,rfl,h⟩:=US h;obtain⟨f,as,ks,cp,rfl,h⟩:=UT h;obtain⟨o,m,ap,rfl,h⟩:=jG h;obtain⟨x,p,rfl,h⟩:=Jn h;obtain⟨h1,h⟩:=FR h;obtain⟨h2,h3⟩:=FR h;exact⟨x,p,m,ap,as,cp,q,by rw[Lo h1],eq_of_beq h2,h3⟩
noncomputable def Os(st:BA)(F:Ao->Ao->Ak):Ak:=RN st λts v=>Gr ts λt=>F t v
theorem QC{st:BA}{F:Ao->Ao->Ak}(h:Os st F=Aa):∃ t v q,st=.Assign [t] v q/\F t v=Aa:=by
 obtain⟨ts,v,q,rfl,h⟩:=jH h;obtain⟨t,rfl,h⟩:=Hq h;exact⟨t,v,q,rfl,h⟩
noncomputable def WR(st:BA)(F:An->Ao->Ak):Ak:=Os st λt v=>IC t λx=>F x v
theorem jI{st:BA}{F:An->Ao->Ak}(h:WR st F=Aa):∃ x p v q,st=.Assign [.Name x p] v q/\F x v=Aa:=by
 obtain⟨t,v,q,rfl,h⟩:=QC h;obtain⟨x,p,rfl,h⟩:=Jn h;exact⟨x,p,v,q,rfl,h⟩
noncomputable def Si(e:Ao)(F:Ao->Ao->Ao->Ac Ao->Cz->Ak):Ak:=RJ e λx gs sc=>Gr gs λg=>decide (g.is_async=0)&&F x g.target g.iter g.ifs sc
theorem VI{e:Ao}{F:Ao->Ao->Ao->Ac Ao->Cz->Ak}(h:Si e F=Aa):∃ x t it ifs sc p,e=.ListComp x [⟨t,it,ifs,0⟩] sc p/\F x t it ifs sc=Aa:=by
 obtain⟨x,gs,sc,p,rfl,h⟩:=kM h;obtain⟨g,rfl,h⟩:=Hq h;obtain⟨t,it,ifs,a⟩:=g;obtain⟨h1,h2⟩:=FR h;have h1:a=0:=BG h1;subst h1;exact⟨x,t,it,ifs,sc,p,rfl,h2⟩
noncomputable def OH(e:E)(F:E->Ak):Ak:=if c:e.ctorIdx=8 then E.no.elim (motive_1:=λ_=>Ak) e c F else Ae
theorem nW{e:E}{F:E->Ak}(h:OH e F=Aa):∃ a,e=E.no a/\F a=Aa:=by
 by_cases c:e.ctorIdx=8
 .exact E.no.elim (motive_1:=λe=>OH e F=Aa->∃ a,e=E.no a/\F a=Aa) e c (λa h=>⟨a,rfl,h⟩) h
 .exact noF ((CH c).symm.trans h)
noncomputable def Ot(e:E)(F:Es->Ak):Ak:=if c:e.ctorIdx=9 then E.and.elim (motive_1:=λ_=>Ak) e c F else Ae
theorem jJ{e:E}{F:Es->Ak}(h:Ot e F=Aa):∃ es,e=E.and es/\F es=Aa:=by
 by_cases c:e.ctorIdx=9
 .exact E.and.elim (motive_1:=λe=>Ot e F=Aa->∃ es,e=E.and es/\F es=Aa) e c (λes h=>⟨es,rfl,h⟩) h
 .exact noF ((CH c).symm.trans h)
noncomputable def OR(e:E)(F:Es->Ak):Ak:=if c:e.ctorIdx=10 then E.or.elim (motive_1:=λ_=>Ak) e c F else Ae
theorem nV{e:E}{F:Es->Ak}(h:OR e F=Aa):∃ es,e=E.or es/\F es=Aa:=by
 by_cases c:e.ctorIdx=10
 .exact E.or.elim (motive_1:=λe=>OR e F=Aa->∃ es,e=E.or es/\F es=Aa) e c (λes h=>⟨es,rfl,h⟩) h
 .exact noF ((CH c).symm.trans h)
noncomputable def On(e:E)(F:DI->E->E->Ak):Ak:=if c:e.ctorIdx=11 then E.cmp.elim (motive_1:=λ_=>Ak) e c F else Ae
theorem kN{e:E}{F:DI->E->E->Ak}(h:On e F=Aa):∃ o a b,e=E.cmp o a b/\F o a b=Aa:=by
 by_cases c:e.ctorIdx=11
 .exact E.cmp.elim (motive_1:=λe=>On e F=Aa->∃ o a b,e=E.cmp o a b/\F o a b=Aa) e c (λo a b h=>⟨o,a,b,rfl,h⟩) h
 .exact noF ((CH c).symm.trans h)
noncomputable def Oo(e:E)(F:DI->DI->E->E->E->Ak):Ak:=if c:e.ctorIdx=12 then E.cmp2.elim (motive_1:=λ_=>Ak) e c F else Ae
theorem jD{e:E}{F:DI->DI->E->E->E->Ak}(h:Oo e F=Aa):∃ o q a b c,e=E.cmp2 o q a b c/\F o q a b c=Aa:=by
 by_cases c:e.ctorIdx=12
 .exact E.cmp2.elim (motive_1:=λe=>Oo e F=Aa->∃ o q a b c,e=E.cmp2 o q a b c/\F o q a b c=Aa) e c (λo q a b c h=>⟨o,q,a,b,c,rfl,h⟩) h
 .exact noF ((CH c).symm.trans h)
noncomputable def Op(e:E)(F:BI->Es->Ak):Ak:=if c:e.ctorIdx=15 then E.bi.elim (motive_1:=λ_=>Ak) e c F else Ae
theorem jE{e:E}{F:BI->Es->Ak}(h:Op e F=Aa):∃ b as,e=E.bi b as/\F b as=Aa:=by
 by_cases c:e.ctorIdx=15
 .exact E.bi.elim (motive_1:=λe=>Op e F=Aa->∃ b as,e=E.bi b as/\F b as=Aa) e c (λb as h=>⟨b,as,rfl,h⟩) h
 .exact noF ((CH c).symm.trans h)
noncomputable def Sk(e:E)(F:Ak->Ak):Ak:=if c:e.ctorIdx=1 then E.bl.elim (motive_1:=λ_=>Ak) e c F else Ae
theorem nY{e:E}{F:Ak->Ak}(h:Sk e F=Aa):∃ b,e=E.bl b/\F b=Aa:=by
 by_cases c:e.ctorIdx=1
 .exact E.bl.elim (motive_1:=λe=>Sk e F=Aa->∃ b,e=E.bl b/\F b=Aa) e c (λb h=>⟨b,rfl,h⟩) h
 .exact noF ((CH c).symm.trans h)
noncomputable def Oy(e:E):Ak:=decide (e.ctorIdx=0)
theorem jQ{e:E}(h:Oy e=Aa):e=.non:=E.non.elim (motive_1:=λe=>e=.non) e (BG h) rfl
noncomputable def D5:Ao->Ak
 |.Starred _ _=>Ae
 |_=>Aa
noncomputable def Q4:Ao->Ak
 |.Slice _ _ _ _=>Ae
 |_=>Aa
noncomputable def MS:Ao->Ak
 |.Set _ _ _=>Ae
 |_=>Aa
noncomputable def Ln:Ao->Ak
 |.ListComp _ _ _ _=>Ae
 |.SetComp _ _ _ _=>Ae
 |.DictComp _ _ _ _ _=>Ae
 |_=>Aa
noncomputable def Su(tu:Ak):Ao->Ak
 |.Tuple ..=>tu
 |.Name ..=>!tu
 |_=>Ae
noncomputable def Z_2:Ao->Ak
 |.Tuple _ _ _=>Aa
 |_=>Ae
noncomputable def WT:Ao->Ak
 |.Tuple _ _ _=>Ae
 |_=>Aa
noncomputable def Nx:Ao->Ak
 |.UnaryOp _ _ _=>Ae
 |.BoolOp _ _ _=>Ae
 |.IfExp _ _ _ _=>Ae
 |.Compare _ _ _ _=>Ae
 |_=>Aa
noncomputable def RX:Ki->Aq An
 |.int=>Ab "int"
 |.bool=>Ab "bool"
 |.str=>Ab "str"
 |.list=>Ab "list"
 |.tuple=>Ab "tuple"
 |_=>Af
noncomputable def RY:BI->Aq An
 |.len=>Ab "len"
 |.abs=>Af
 |.max=>Ab "max"
 |.min=>Ab "min"
 |.int=>Af
 |.list=>Ab "list"
 |.tuple=>Ab "tuple"
 |.all=>Ab "all"
 |.any=>Ab "any"
 |.sum=>Ab "sum"
 |.sorted=>Af
 |.tmin=>Af
 |.tmax=>Af
 |_=>Af
noncomputable def RE(o scope:Cz):Cz:={scope with names:=scope.names.map λ(n,k)=>if (k==.free&&o.kind==.function&&o.names.lookup n==Ab .cell) then (n,.cell) else (n,k)}
noncomputable def LI:Ac Ag->Ac An->Ac An->Ac An
 |t::ts,x::xs,N=>LI ts xs ((N.map λy=>if y==x then N.getD t x else y).set t x)
 |_,_,N=>N
noncomputable def MO:Ac An->Ak
 |[]=>Aa
 |x::xs=>!xs.contains x&&MO xs
noncomputable def M4(T:Tc)(scope:Cz)(ts:Ac Ag)(N':Ac An):Ak:=
  scope.kind==.function&&scope.names.all (λy=>scope.names.lookup y.1==Ab y.2) &&
  scope.names.all (λy=>y.2 != .free||T.sc.names.lookup y.1==Ab .cell||T.sc.names.lookup y.1==Ab .free) &&
  N'.length==T.N.length&&MO N' &&
  (AT N'.length).all λi=>ts.contains i||(match N'[i]? with
    |some x=>(scope.names.lookup x != Ab .local&&scope.names.lookup x != Ab .cell)&&(scope.names.lookup x != Ab .free||T.N[i]? == Ab x)
    | none=>Aa)
noncomputable def FA:Ac Ao->Aq (Ac An)
 |[]=>Ab []
 |.Name x _::r=>(FA r).map (x :: ·)
 |_=>Af
noncomputable def tgN(ys:Ac Ao):Ac An:=(FA ys).getD []
noncomputable def tgB(T:Tc):Ac Ag->Ac An->Ak
 |[],[]=>Aa
 |t::ts,x::xs=>T.N[t]? == Ab x&&T.sc.names.lookup x==Ab .local&&tgB T ts xs
 |_,_=>Ae
noncomputable def tgO(T:Tc)(scope:Cz)(t:Ag)(x:An):Ak:=T.N[t]? == Ab x&&(T.sc.names.lookup x==Ab .local||(T.sc.names.lookup x==Ab .cell&&scope.names.lookup x==Ab .cell))
noncomputable def tgC(T:Tc):Ac Ag->Ac An->Ak
 |[],[]=>Aa
 |t::ts,x::xs=>T.N[t]? == Ab x&&LK T x&&tgC T ts xs
 |_,_=>Ae
noncomputable def Tc.blk(T:Tc)(scope:Cz)(ts:Ac Ag)(xs:Ac An):Tc:={T with sc:=RE T.sc scope,N:=LI ts xs T.N}
noncomputable def Sg:E->Ak
 |.lst _=>Aa
 |.comp _ _ _ _=>Aa
 |.compT _ _ _ _=>Aa
 |.bin .Add _ _=>Aa
 |.bi .list _=>Aa
 |.sl _ _ _=>Aa
 |_=>Ae
noncomputable def OE:E->Aq E
  | .bi b as=>(match b with
    | .list=>(match as with
      | .cons x r=>(match r with
        | .nil=>(match x with
          | .bin op a c=>(match op with
            | .Add=>(match c with
              | .tup es=>(match es with
                |.nil=>Ab a
                | _=>Af)
              | _=>Af)
            | _=>Af)
          | _=>Af)
        | _=>Af)
      | .nil=>Af)
    | _=>Af)
  |_=>Af
theorem kW{e a:E}(q:OE e=Ab a):e=.bi .list (.cons (.bin .Add a (.tup .nil)) .nil):=by
 unfold OE at q
 repeat' split at q
 all_goals first|cases q;done|skip
 cases q;rfl
theorem rK(Z:Gam){e:E}(h:Sg e=Aa):DR Z e=Aa:=by
 unfold Sg at h;split at h<;>first|rfl|cases h
noncomputable def SG:Ao->Aq (Ao×Ao×A6)
  | .Compare x ops ys p=>(match ops with
    | [.Lt]=>(match ys with
      |[y]=>Ab (x,y,p)
      | _=>Af)
    | _=>Af)
  |_=>Af
noncomputable def R6(_:Es):Aq (E×E):=Af
noncomputable def Sb(_:Tc)(_:Tc->Ao->E->Ak)(_:Ao)(_:Ac DI)(_:Ac Ao)(_:BI)(_:Es):Ak:=Ae
noncomputable def Sz(T:Tc)(e:Ao)(b:BI)(as:Es):Ak:=Ae
noncomputable def Rx:Ao->Aq (An×A6)
 |.Name x p=>Ab (x,p)
 |_=>Af
theorem Us{e:Ao}{t:An×A6}(q:Rx e=Ab t):e=.Name t.1 t.2:=by
 cases e with
 |Name x p=>cases q;rfl
 |_=>cases q
noncomputable def Ry:Ao->Aq (Ao×Ac Ao×Ac Eg×A6)
 |.Call f as ks p=>Ab (f,as,ks,p)
 |_=>Af
theorem Uu{e:Ao}{t:Ao×Ac Ao×Ac Eg×A6}(q:Ry e=Ab t):e=.Call t.1 t.2.1 t.2.2.1 t.2.2.2:=by
 cases e with
 |Call f as ks p=>cases q;rfl
 |_=>cases q
noncomputable def aP:Ao->Aq (Ac Ao×Ag×A6)
 |.Tuple es k p=>Ab (es,k,p)
 |_=>Af
noncomputable def one{α:Type}:Ac α->Aq α
 |[a]=>Ab a
 |_=>Af
theorem yO{l:Ac α}{a:α}(q:one l=Ab a):l=[a]:=by
  match l,q with
  |[b],q=>cases q;rfl
noncomputable def LS(e:Ao):Aq (An×An×Ac Ao):=(Ry e).bind λc=>(Rx c.1).bind λg=>(one c.2.1).bind λa=>(Ry a).bind λd=>(Rx d.1).bind λh=>if (c.2.2.1.isEmpty&&d.2.2.1.isEmpty)=Aa then Ab (g.1,h.1,d.2.1) else Af
theorem Vm{e:Ao}{h:An}{bs:Ac Ao}(q:LS e=Ab (g,h,bs)):∃ p p' pos pos',e=.Call (.Name g p) [.Call (.Name h p') bs [] pos'] [] pos:=by
 obtain⟨⟨f,as,ks,pos⟩,e1,q⟩:=DX.mp q;obtain⟨⟨g',p⟩,e2,q⟩:=DX.mp q;obtain⟨a,e3,q⟩:=DX.mp q;obtain⟨⟨f',bs',ks',pos'⟩,e4,q⟩:=DX.mp q;obtain⟨⟨h',p'⟩,e5,q⟩:=DX.mp q;by_cases hk:(ks.isEmpty&&ks'.isEmpty)=Aa
 .rw[AO hk]at q;cases q;rw[Ap,HL,HL]at hk;obtain⟨rfl,rfl⟩:=hk;have x1:=Uu e1;have x2:=Us e2;have x3:=yO e3;have x4:=Uu e4;have x5:=Us e5;dsimp only at x1 x2 x3 x4 x5;subst x1 x2 x3 x4 x5;exact⟨_,_,_,_,rfl⟩
 .rw[AW hk]at q;cases q
noncomputable def OS(e:Ao):Aq (An×An×Ao×Ao×Ao):=match LS e with
  | some (g,h,bs)=>(match bs with
    |[x,y,z]=>Ab (g,h,x,y,z)
    | _=>Af)
  |none=>Af
theorem qL{e:Ao}{h:An}{x y z:Ao}(q:OS e=Ab (g,h,x,y,z)):∃ p p' pos pos',e=.Call (.Name g p) [.Call (.Name h p') [x,y,z] [] pos'] [] pos:=by
  unfold OS at q;cases c:LS e with
  |none=>rw[c]at q;cases q
  |some t=>
    obtain⟨g',h',bs⟩:=t;rw[c]at q
    match bs,q,c with
    |[a,b,d],q,c=>cases q;exact Vm c
noncomputable def S0(e:Ao):Aq (An×An×Ao×Ao):=match LS e with
  | some (g,h,bs)=>(match bs with
    |[x,y]=>Ab (g,h,x,y)
    | _=>Af)
  |none=>Af
noncomputable def R8(_:Es):Aq (E×E):=Af
noncomputable def M0(e:Ao):Aq (An×An×Ao):=match LS e with
  | some (g,h,bs)=>(match bs with
    |[x]=>Ab (g,h,x)
    | _=>Af)
  |none=>Af
theorem rP{e:Ao}{h:An}{x:Ao}(q:M0 e=Ab (g,h,x)):∃ p p' pos pos',e=.Call (.Name g p) [.Call (.Name h p') [x] [] pos'] [] pos:=by
  unfold M0 at q;cases c:LS e with
  |none=>rw[c]at q;cases q
  |some t=>
    obtain⟨g',h',bs⟩:=t;rw[c]at q
    match bs,q,c with
    |[a],q,c=>cases q;exact Vm c
noncomputable def MW:Es->Aq E
  | .cons a r=>(match r with
    |.nil=>Ab a
    | _=>Af)
  |.nil=>Af
theorem kU{a:E}(q:MW as=Ab a):as=.cons a .nil:=by
 unfold MW at q;split at q
 .split at q
  .cases q;rfl
  .cases q
 .cases q
noncomputable def two(e:Ao):Aq (Ao×Ao):=(aP e).bind λt=>match t.1 with
  |[a,b]=>Ab (a,b)
  |_=>Af
noncomputable def Pb(_:Es):Aq E:=Af
noncomputable def SM(_:Ao):Aq Ao:=Af
noncomputable def Sn:Ao->Aq (Ao×Ad)
  | .Subscript v s _=>(match s with
    | .Slice lo hi st _=>(match lo with
      | some (.Constant (.int k) _ _)=>(match hi with
        | none=>(match st with
          |some (.Constant (.int j) _ _)=>if j=2 then Ab (v,k) else Af
          | _=>Af)
        | some _=>Af)
      | _=>Af)
    | _=>Af)
  |_=>Af
noncomputable def R7(_:Es):Aq (E×Ad):=Af
mutual
noncomputable def Bs:Ag->Tc->Ao->E->Ak
  |0,_,_,_=>Ae
  |n+1,T,e,c=>match c with
    |.non=>Lz e λc=>decide (c=.none)
    |.bl b=>Lz e λc=>decide (c=.bool b)
    |.int i=>Lz e λc=>decide (c=.int i)
    |.str x=>Lz e λc=>decide (c=.str x)
    |.var i=>IC e λx=>isV T x i
    |.glob g=>Ae
    |.bin op a b=>RK e λx op' y=>decide (op'=op)&&Bs n T x a&&Bs n T y b
    |.un op a=>LJ e λo x=>decide (o=.USub)&&(decide (op=.USub)&&Bs n T x a)
    |.no a=>LJ e λo x=>decide (o=.Not)&&Bs n T x a
    |.and es=>LB e λo xs _=>decide (o=.And)&&(chkEs n T xs es && !xs.isEmpty)
    |.or es=>LB e λo xs _=>decide (o=.Or)&&(chkEs n T xs es && !xs.isEmpty)
    |.cmp op a b=>LA e λx os ys=>Gr os λop'=>Gr ys λy=>decide (op'=op) && !behindInMarks op y&&Bs n T x a&&Bs n T y b
    |.cmp2 op1 op2 a b c=>LA e λx os ys=>Ic os λo1 o2=>Ic ys λy z=>decide (o1=op1)&&decide (o2=op2) && !lastMarks [op1,op2] [y,z]&&Bs n T x a&&Bs n T y b&&Bs n T z c
    |.ite c a b=>Ae
    |.call f as=>Rr e λg x xs=>(T.fns.any λp=>p.1==g&&p.2.1==f&&p.2.2==xs.length+1)&&decide (xs.length<900)&&glB T g&&MZ g&&chkEs n T (x::xs) as
    |.bi b as=>(Rr e λg x xs=>RY b==Ab g&&isB T g&&chkEs n T (x::xs) as)||Sz T e b as||(match R8 as with|some (a,c)=>(match S0 e with|some (g,h,x,y)=>decide (b=.list)&&g==("list" : An)&&h==("range" : An)&&isB T g&&isB T h&&D5 x&&D5 y&&Bs n T x a&&Bs n T y c|none=>Ae)|none=>Ae)||(match R7 as with|some (a,k)=>(match Sn e with|some (x,j)=>decide (b=.stp)&&decide (j=k)&&decide (0<=k)&&Bs n T x a|none=>Ae)|none=>Ae)||(match MW as with|some a=>(match M0 e with|some (g,h,x)=>decide (b=.lset)&&g==("len" : An)&&h==("set" : An)&&isB T g&&isB T h&&D5 x&&Bs n T x a|none=>Ae)|none=>Ae)||(match R6 as with|some (a,c)=>(match SG e with|some (x,y,_)=>decide (b=.tlt) && !behindInMarks .Lt y&&Bs n T x a&&Bs n T y c|none=>Ae)|none=>Ae)||(match Pb as with|some a=>(match SM e with|some x=>decide (b=.rvs)&&Bs n T x a|none=>Ae)|none=>Ae)
    |.isi a ks=>Gr ks λk=>KD e λg l=>Ic l λx t=>IC t λt=>g==("isinstance" : An)&&isB T g&&RX k==Ab t&&isB T t&&D5 x&&Bs n T x a
    |.idx a i=>MR e λx y=>Q4 y&&Bs n T x a&&Bs n T y i
    |.sl a lo hi=>MR e λx s=>RO s λl h st=>st.isNone&&(Bs n T x a&&chkO n T l lo&&chkO n T h hi)
    |.tup es=>Ly e λxs=>chkEs n T xs es&&decide (xs.length<=1000)
    |.lst es=>RI e λxs=>chkEs n T xs es&&decide (xs.length<=1000)
    |.comp elt t it c=>Si e λx tg iter ifs scope=>IC tg λy=>chkI n T Ae iter it&&MS iter&&M4 T scope [t] (LI [t] [y] T.N)&&tgO (T.blk scope [t] [y]) scope t y&&chkT n (T.blk scope [t] [y]) ifs c&&Bs n (T.blk scope [t] [y]) x elt
    |.compT elt ts it c=>Si e λx tg iter ifs scope=>Ly tg λys=>(FA ys).isSome&&chkI n T Aa iter it&&MS iter&&M4 T scope ts (LI ts (tgN ys) T.N)&&tgB (T.blk scope ts (tgN ys)) ts (tgN ys)&&chkT n (T.blk scope ts (tgN ys)) ifs c&&Bs n (T.blk scope ts (tgN ys)) x elt
    |.tupI it=>(match it with | .zip3 a b c=>(match OS e with|some (g,h,x,y,z)=>g==("tuple" : An)&&h==("zip" : An)&&isB T g&&isB T h&&D5 x&&D5 y&&D5 z&&Bs n T x a&&Bs n T y b&&Bs n T z c|none=>Ae)|_=>Ae)
    |.dnew=>Ae
    |.fld _ _=>Ae
noncomputable def Jw:Ag->Tc->Ao->E->Ak
 |0,_,_,_=>Ae
 |n+1,T,e,c=>(LJ e λo x=>decide (o=.Not)&&(OH c λa=>Jw n T x a)) ||
  (LB e λo xs _=>(decide (o=.And)&&(Ot c λes=>chkBs n T xs es && !xs.isEmpty))||(decide (o=.Or)&&(OR c λes=>chkBs n T xs es && !xs.isEmpty))) ||
  (LA e λx os ys=>(On c λop a b=>Gr os λop'=>Gr ys λy=>decide (op'=op) && !behindInMarks op y&&Bs n T x a&&Bs n T y b) ||
   (Oo c λop1 op2 a b c=>Ic os λo1 o2=>Ic ys λy z=>decide (o1=op1)&&decide (o2=op2) && !lastMarks [op1,op2] [y,z]&&Bs n T x a&&Bs n T y b&&Bs n T z c) ||
   (Op c λb as=>Sb T (Bs n) x os ys b as)) ||
  Nx e&&Bs n T e c
noncomputable def chkBs:Ag->Tc->Ac Ao->Es->Ak
  |0,_,_,_=>Ae
  |n+1,T,xs,es=>match xs,es with
    |[],.nil=>Aa
    |x::xs,.cons e es=>Jw n T x e&&chkBs n T xs es
    |_,_=>Ae
noncomputable def chkEs:Ag->Tc->Ac Ao->Es->Ak
  |0,_,_,_=>Ae
  |n+1,T,xs,es=>match xs,es with
    |[],.nil=>Aa
    |x::xs,.cons e es=>D5 x&&Bs n T x e&&chkEs n T xs es
    |_,_=>Ae
noncomputable def chkO:Ag->Tc->Aq Ao->E->Ak
  |0,_,_,_=>Ae
  |n+1,T,x,e=>match x with
    |none=>Oy e
    |some x=>!(Oy e)&&Bs n T x e
noncomputable def chkT:Ag->Tc->Ac Ao->E->Ak
  |0,_,_,_=>Ae
  |n+1,T,xs,e=>match xs with
    |[]=>Sk e λb=>b
    |x::r=>r.isEmpty&&Jw n T x e
noncomputable def chkI:Ag->Tc->Ak->Ao->I->Ak
  |0,_,_,_,_=>Ae
  |n+1,T,tu,e,i=>match i with
    |.e a=>Bs n T e a
    |.rng a=>KD e λg l=>Gr l λx=>g==("range" : An)&&isB T g&&D5 x&&Bs n T x a
    |.enm a=>KD e λg l=>Gr l λx=>tu&&g==("enumerate" : An)&&isB T g&&D5 x&&Bs n T x a
    |.zip a b=>KD e λg l=>Ic l λx y=>tu&&g==("zip" : An)&&isB T g&&D5 x&&D5 y&&Bs n T x a&&Bs n T y b
    |.rng2 a b=>KD e λg l=>Ic l λx y=>g==("range" : An)&&isB T g&&D5 x&&D5 y&&Bs n T x a&&Bs n T y b
    |.zip3 a b c=>Ae
end
noncomputable def WX(_:Ag)(_:Tc)(_:Ag)(_:Ac BA)(_:Ss):Ak:=Ae
noncomputable def cH:E->Ak
  | .bi b as=>(match b,as with
    |.len,.nil=>Aa
    | _,_=>Ae)
  |_=>Ae
noncomputable def cE:S->Ak
 |.expr e=>cH e
 |_=>Ae
noncomputable def OU:Ss->Ak
 |.cons s _=>cE s
 |.nil=>Ae
mutual
noncomputable def OT:Ag->Tc->BA->S->Ak
  |0,_,_,_=>Ae
  |n+1,T,st,s=>match s with
    |.pass=>Ae
    |.brk=>Ae
    |.cont=>Ae
    |.asg i _ e=>WR st λx v=>T.N[i]? == Ab x&&LK T x&&Bs n T v e
    |.asgT ts e=>Os st λt v=>Ly t λys=>(FA ys).isSome&&tgC T ts (tgN ys)&&(WT v||Ed 4 ys.length)&&Bs n T v e
    |.expr e=>OD st λv=>Ln v&&Bs n T v e
    |.ret e=>RP st λo=>match o with|some v=>Bs n T v e|none=>Ae
    |.retN=>Ae
    |.ife c a b=>Sj st λt xs ys=>Jw n T t c&&chkSs n T xs a&&chkSs n T ys b
    |.fors t it body=>OC st λtg iter xs ys=>ys.isEmpty&&(IC tg λx=>tgC T [t] [x]&&MS iter&&chkI n T Ae iter it&&chkSs n T xs body)
    |.forT ts it body=>OC st λtg iter xs zs=>zs.isEmpty&&(Ly tg λys=>(FA ys).isSome&&tgC T ts (tgN ys)&&MS iter&&chkI n T Aa iter it&&chkSs n T xs body)
    |.whl c body=>Ae
    |.rais c as=>!(T.rzs.any λp=>p.2==c)
    |.tryx _ _ _ _=>Ae
    |.try2 _ _ _ _ _ _ _=>Ae
    |.app i e=>OB st λx m l=>Gr l λv=>m==("append" : An)&&isV T x i&&D5 v&&Bs n T v e
    |.ext i e=>OB st λx m l=>Gr l λv=>m==("extend" : An)&&isV T x i&&D5 v&&(Sg e&&Bs n T v e||(match OE e with|some a=>Bs n T v a|none=>Ae))
    |.rev i=>Ae
    |.clr i=>Ae
    |.put i k e=>Os st λt v=>MR t λo y=>IC o λx=>isV T x i&&Q4 y&&Bs n T y k&&Bs n T v e
    |.swp _ _ _=>Ae
    |.apop _ _ _=>Ae
    |.ins i k e=>OB st λx m l=>Ic l λy v=>m==("insert" : An)&&isV T x i&&D5 y&&D5 v&&Bs n T y k&&Bs n T v e
    |.dput _ _ _=>Ae
    |.dsd _ _ _=>Ae
    |.rel _=>Ae
noncomputable def chkSs:Ag->Tc->Ac BA->Ss->Ak
  |0,_,_,_=>Ae
  | n+1,T,sts,ss=>(match ss with
    |.nil=>sts.isEmpty
    |.cons (.rel i) ss=>chkSs n T sts ss
    | .cons s ss=>(match sts with
      |st::r=>OT n T st s&&chkSs n T r ss
      | []=>Ae))||OU ss
end
noncomputable def Ik(fuel:Ag)(hot:Ak)(fns:Ac (An×Ag×Ag))(bl:Ac An)(rzs exs gls:Ac (An×Ag))(ps N:Ac An)(st:BA)(df:Df):Ak:=
  let sc:=GS st
  sc.kind==.function && !sc.isCoroutine && !sc.isGenerator&&MO N&&N.take ps.length==ps&&ps.all (λx=>sc.names.lookup x==Ab .local||sc.names.lookup x==Ab .cell)&&sc.names.all (λy=>y.2 != .free)&&N.length==df.n &&
  (match hot with
  |true=>WX fuel ⟨sc,N,fns,bl,rzs,exs,gls⟩ 0 (HX st) df.body
  | false=>chkSs fuel ⟨sc,N,fns,bl,rzs,exs,gls⟩ (HX st) df.body)
structure XT (up:Ag->Ac Ag) (xn:Ag->Ac D->R Ex) (CL:ClA) (rzs exs:Ac (An×Ag)) (K:Fg) (mg:An->Aq Ai):Prop where
 xc:∀ c C,CL c=Ab C->XcOk K C
 rz:∀ p∈rzs,∃ C,CL p.2=Ab C/\mg p.1=Ab (.ref C)
 ex:∀ p∈exs,∃ C,mg p.1=Ab (.ref C)/\dq K CL up p.2 C/\∀ c D,CL c=Ab D->Zt K (.ref D) (.ref C)=Ab ((up c).contains p.2)
 made:∀ c C ds,CL c=Ab C->xn c ds=.bad\/(xn c ds=.ok ⟨c,[]⟩/\LH K C Af=Aa)\/BF
 nf:∀ c C,CL c=Ab C->∀ f:An,(f==("triple" : An)||f==("points" : An))=Aa->MY K C=Aa/\C2 K (.ref C) f=Ab Af
 xb:∀ c,(∀ p∈rzs,p.2≠c)->∀ ds,xn c ds=.bad
def O7(K:Fg)(mg:An->Aq Ai)(CL:ClA)(x:An)(d:D):Prop:=∃ u v,mg x=Ab u/\Ca v u/\∀ H A,Rep K CL H A v d
structure VX (Z:Gam) (CL:ClA) (k:Ag) (W:XW) (T:Tc) (X:Cx):Prop where
 sc:X.env.scope=T.sc
 kd:T.sc.kind=.function
 N:X.N=T.N
 nd:T.N.Nodup
 calm:X.calm=Aa
 room:Room k X.A
 bl:∀ x,x∈T.bl->X.mg x=Af
 fn:∀ p∈T.fns,∃ f fd ps,X.mg p.1=Ab (.ref f)/\DG X.K (.ref f)=Aa/\IG X.K fd ps []/\ps.length=p.2.2%1000/\(p.2.2<1000->FnOk X.prog X.w X.K X.mg X.base (CXR X.prog X.w) k f fd ps (spD X.K CL (p.2.2%1000) (Z.fr p.2.1) (Z.F p.2.1)))/\(1000<=p.2.2->HotOk X.prog X.w X.K X.mg X.base k f fd ps (spH X.K CL (p.2.2%1000) (Z.fr p.2.1) (Z.F p.2.1)))
 own:GA (model X.prog X.w) X.A X.env X.xe
 px:∀ A,Lr (CXR X.prog X.w) X (EKW X.K CL A W)
 rz:O5 X CL W
 xt:XT Z.up Z.xn CL T.rzs T.exs X.K X.mg
 gl:∀ p∈T.gls,O7 X.K X.mg CL p.1 (Z.G p.2)
theorem Wc:∀ A,Lr (CXR X.prog X.w) X (EKW X.K CL A W0):=λA pI Y H s ev s' I h=>by
 obtain⟨e,T,cls,dx,H',_,_,_,_,_,_,_,_,_,_,x,_,w⟩:=h;exact w.elim
theorem SL:O5 X CL W0:=λ_ _ _ _ _ _ _ _ _ _ _ _ _ _ z=>z.elim
def Rf{α:Type}(g f:Rho->R α):Prop:=∀ U,g U=.bad\/g U=f U
section
variable{X:Cx}{CL:ClA}{W:XW}{a:Ao}{f g:Rho->R D}
theorem SE.ref(h:SE X CL W a f)(r:Rf g f):SE X CL W a g:=λA=>PE.weak (h A) λY H Q ⟨hA,U,q,p⟩=>⟨hA,U,q,by
 rcases r U with e|e
 .rw[e]at p;exact p.elim
 .rw[e]at p;exact p⟩
theorem SB.ref{f g:Rho->R Ak}(h:SB X CL W a f)(r:Rf g f):SB X CL W a g:=λA=>PT.weak (h A) λY H Q ⟨hA,U,q,p⟩=>⟨hA,U,q,by
 rcases r U with e|e
 .rw[e]at p;exact p.elim
 .rw[e]at p;exact p⟩
theorem SW.ref{f g:Rho->R Ak}(h:SW X CL W a f)(r:Rf g f):SW X CL W a g:=λA=>PW.weak (h A) λY H Q ⟨hA,U,q,p⟩=>⟨hA,U,q,by
 rcases r U with e|e
 .rw[e]at p;exact p.elim
 .rw[e]at p;exact p⟩
theorem SC.ref(h:SC X CL W fr a f)(r:Rf g f):SC X CL W fr a g:=λA=>PE.weak (h A) λY H Q ⟨hA,U,q,p⟩=>⟨hA,U,q,by
 rcases r U with e|e
 .rw[e]at p;exact p.elim
 .rw[e]at p;exact p⟩
theorem SS.ref{st:BA}{f g:Rho->O}(h:SS X CL W st f)(r:∀ U,g U=.bad\/g U=f U):SS X CL W st g:=λFz B=>PS.weak (h Fz B) λD Y H ⟨U,x,p⟩=>⟨U,x,by
 rcases r U with e|e
 .rw[e]at p;exact p.elim
 .rw[e]at p;exact p⟩
end
theorem Ny:∀{l:Ac An},MO l=Aa->l.Nodup
 |[],_=>G2
 |x::xs,h=>by
  unfold MO at h;simp only[Ap,Cb,Xy,F0]at h;exact BM.mpr ⟨h.1,Ny h.2⟩
section
variable{T:Tc}{X:Cx}{Z:Gam}{CL:ClA}{k:Ag}{W:XW}
theorem mY(h:Sd T x=Aa):Vis T.sc x:=by
 unfold Sd at h;split at h
 .exact .inl (by assumption)
 .exact .inr (.inl (by assumption))
 .exact .inr (.inr (by assumption))
 .cases h
theorem QK(h:LK T x=Aa):Loc T.sc x:=by
 unfold LK at h;split at h
 .exact .inl (by assumption)
 .exact .inr (by assumption)
 .cases h
theorem Q5(h:MZ x=Aa):(x==("__debug__" : An))=Ae/\(x==("__classdict__" : An))=Ae/\x≠"__name__" := by
 unfold MZ at h;simp only[Ap,Cb]at h;exact⟨h.1.1,h.1.2,λe=>by subst e;exact absurd h.2 (by simp)⟩
theorem JX{i:Ag}(v:VX Z CL k W T X)(h:isV T x i=Aa):PE X (.Name x pos) (IQ i):=by
 unfold isV at h;simp only[Ap,BR]at h;obtain⟨h2,h3,_⟩:=Q5 h.2;exact zU (by rw[v.N];exact h.1.1) (by rw[v.sc];exact mY h.1.2) h2 h3
theorem HZ(v:VX Z CL k W T X)(h:isB T x=Aa):Gl X x/\X.mg x=Af/\x≠"__name__"/\(x==("__debug__" : An))=Ae:=by
 unfold isB glB at h;simp only[Ap,BR,Xy,Bh]at h;obtain⟨h2,h3,h4⟩:=Q5 h.2;exact⟨by show X.env.scope.names.lookup x=_;rw[v.sc];exact h.1.2,v.bl x h.1.1,h4,h2⟩
theorem CZ{x:Ao}(h:D5 x=Aa):AI (x::xs) env=(Ae,eval x env)::AI xs env:=by
 cases x<;>first|rfl|cases h
theorem iP{y:Ao}(h:Q4 y=Aa):QY y:=by
 intro o i;cases y<;>first|rfl|cases h
theorem N7{e:Ao}(h:MS e=Aa):∀ x,Dr e env x=pure x:=by
 intro x;cases e<;>first|rfl|cases h
theorem VC{e:Ao}{t:Aq Ao}(h:Ln e=Aa):DU e t l env=pure Ae:=by
 cases e<;>first|rfl|cases h
theorem nM{e:Ao}(h:Nx e=Aa):∀ whole,IU e env whole=(do let v <-whole;J9 e.pos;holding [v] (truthy v)):=by
 intro whole;cases e<;>first|rfl|cases h
theorem eK(v:VX Z CL k W T X)(scope:Cz):relabel scope X.env=RE T.sc scope:=by
 unfold relabel RE;have:∀ n,X.env.kindOf n=T.sc.names.lookup n:=λn=>by show X.env.scope.names.lookup n=_;rw[v.sc]
 simp only[this,v.sc]
theorem Rw{N':Ac An}(v:VX Z CL k W T X)(h:M4 T scope ts N'=Aa):BlockOk X scope N' ts/\N'.Nodup/\scope.kind=.function:=by
 unfold M4 at h;simp only[Ap,BR,Fd,C9,KS,ne_eq]at h;obtain⟨⟨⟨⟨⟨h1,h2⟩,h4⟩,h5⟩,h6⟩,h7⟩:=h;have at7:∀ i x,N'[i]?=Ab x->i∈ts\/((scope.names.lookup x≠Ab .local/\scope.names.lookup x≠Ab .cell)/\(scope.names.lookup x≠Ab .free\/T.N[i]?=Ab x)):=λi x e=>by
  have hi:=(Be.mp e).1;have:=h7 i (A3.mpr hi);rcases this with z|z
  .exact .inl (by simpa using z)
  .rw[e]at z;simp only[Ap,KS,ne_eq,C9,BR]at z;exact .inr z
 refine⟨⟨h1,h2,λy hy hl=>by rw[h2 y hy,hl],λy hy hf=>?_,by rw[v.N];exact h5,λi x e hf hn=>?_,λi x e hl=>?_⟩,Ny h6,h1⟩
 .rw[v.sc];rcases h4 y hy with (z|z)|z
  .exact absurd hf z
  .exact .inl z
  .exact .inr z
 .rw[v.N];rcases at7 i x e with z|⟨_,z⟩
  .exact absurd z hn
  .exact z.resolve_left λq=>q hf
 .rcases at7 i x e with z|⟨z,_⟩
  .exact z
  .exact hl.elim (λq=>absurd q z.1) (λq=>absurd q z.2)
theorem VX.blk{xs:Ac An}{cl:Ac (An×Am)}{s:As}{fp:Ac Am}(v:VX Z CL k W T X)(h:M4 T scope ts (LI ts xs T.N)=Aa):VX Z CL k W0 (T.blk scope ts xs) (cxC X scope cl C (LI ts xs T.N) s H fp):=by
 obtain⟨_,h2,h3⟩:=Rw v h;exact⟨eK v scope,h3,rfl,h2,v.calm,v.room,v.bl,v.fn,PassesOwn.never,Wc,SL,v.xt,v.gl⟩
theorem nH{t:Ag}(v:VX Z CL k W T X)(hfn:scope.names.lookup x=Ab .cell->X.fn x=Aa)(h:tgO T scope t x=Aa):PG X (.Name x pos) (FC t):=by
 unfold tgO at h;simp only[Ap,C9,BR]at h;rcases h with ⟨h1,h2|h2⟩
 .exact MF (by rw[v.N];exact v.nd) (by rw[v.N];exact h1) (by rw[v.sc];exact .inl h2) (.inr (by rw[v.sc];exact h2))
 .exact MF (by rw[v.N];exact v.nd) (by rw[v.N];exact h1) (by rw[v.sc];exact .inr h2.1) (.inl (hfn h2.2))
theorem PV{y:Ao}{r:Ac Ao}{zs:Ac An}(h:FA (y::r)=Ab zs):∃ x p ws,y=.Name x p/\FA r=Ab ws/\zs=x::ws:=by
 cases y with
 |Name x p=>
  have h':(FA r).map (x :: ·)=Ab zs:=h;cases e:FA r with
  |none=>rw[e]at h';cases h'
  |some ws=>rw[e]at h';cases h';exact⟨x,p,ws,rfl,rfl,rfl⟩
 |_=>cases h
theorem P8(x:An)(p:A6)(r:Ac Ao)(env:C1):CG (.Name x p::r) env=(Ae,assign (.Name x p) env)::CG r env:=rfl
theorem PU:∀(ys:Ac Ao)(zs:Ac An),FA ys=Ab zs->(CG ys env).length=ys.length/\(CG ys env).findIdx? (·.1)=Af/\(CG ys env).map (·.2)=ys.map λy=>assign y env:=by
 intro ys
 induction ys with
 |nil=>intro _ _;exact⟨rfl,rfl,rfl⟩
 |cons y r ih=>
  intro zs h;obtain⟨x,p,ws,rfl,e,rfl⟩:=PV h;obtain⟨h1,h2,h3⟩:=ih ws e;rw[P8];refine⟨?_,?_,?_⟩
  .rw[BE,BE,h1]
  .rw[List.findIdx?_cons,h2];simp
  .rw[Bq,Bq,h3]
theorem nL(v:VX Z CL k W T X):∀(ys:Ac Ao)(ts:Ac Ag)(zs:Ac An),FA ys=Ab zs->tgB T ts zs=Aa->PGs X ys (ts.foldr (λt u=>Ia (FC t) u) Il)/\ts.length=ys.length:=by
 intro ys
 induction ys with
 |nil=>
  intro ts zs e h;cases e;cases ts with
  |nil=>exact⟨U_8,rfl⟩
  |cons t ts=>cases h
 |cons y r ih=>
  intro ts zs e h;obtain⟨x,p,ws,rfl,e2,rfl⟩:=PV e;cases ts with
  |nil=>cases h
  |cons t ts=>
   have h':(T.N[t]? == Ab x&&T.sc.names.lookup x==Ab .local&&tgB T ts ws)=Aa:=h;simp only[Ap,BR]at h';obtain⟨h1,h2⟩:=ih ts ws e2 h'.2;exact⟨UO (MF (by rw[v.N];exact v.nd) (by rw[v.N];exact h'.1.1) (by rw[v.sc];exact .inl h'.1.2) (.inr (by rw[v.sc];exact h'.1.2))) h1 (by rw[P8];rfl),congrArg (· + 1) h2⟩
theorem nK(v:VX Z CL k W T X)(hn:(FA ys).isSome=Aa)(h:tgB T ts (tgN ys)=Aa):PG X (.Tuple ys kk pos) (LP X.K ts.length (ts.foldr (λt u=>Ia (FC t) u) Il)):=by
 cases e:FA ys with
 |none=>rw[e]at hn;cases hn
 |some zs=>
  have e2:tgN ys=zs:=by unfold tgN;rw[e];rfl
  rw[e2]at h;obtain⟨h1,h2⟩:=nL v ys ts zs e h;obtain⟨h3,h4,_⟩:=PU (env:=X.env) ys zs e;exact Q9 v.calm h1 (by rw[h3,h2]) h4
end
noncomputable def Es.len:Es->Ag
 |.nil=>0
 |.cons _ es=>es.len+1
theorem QN(Z:Gam)(U:Rho):∀(es:Es)(ds:Ac D),evA Z U es=.ok ds->ds.length=es.len
 |.nil,ds,h=>by cases h;rfl
 |.cons e es,ds,h=>by
  obtain⟨x,h1,h2⟩:=Km (UC Z U e es ▸ h);obtain⟨xs,h3,h4⟩:=Km h2;cases h4;exact congrArg (· + 1) (QN Z U es xs h3)
theorem Vy(Z:Gam)(U:Rho):∀(es:Es)(ds:Ac D),evB Z U es=.ok ds->ds.length=es.len
 |.nil,ds,h=>by cases h;rfl
 |.cons e es,ds,h=>by
  obtain⟨x,h1,h2⟩:=Km (UB Z U e es ▸ h);obtain⟨xs,h3,h4⟩:=Km h2;cases h4;exact congrArg (· + 1) (Vy Z U es xs h3)
theorem Wy(Z:Gam)(U:Rho)(e:E)(h:shE U e=Aa):top U e (evE Z U e)=evE Z U e:=by
 cases e with
 |var i=>
  show Fn U i=F7 U i;have h':shV U i=Aa:=h;unfold shV at h';unfold Fn F7;cases q:U[i]? with
  |none=>rfl
  |some x=>
   cases x with
   |none=>rfl
   |some y=>
    obtain⟨d,o⟩:=y;cases o with
    |true=>rw[q]at h';cases h'
    |false=>rfl
 |_=>rfl
theorem Wn(Z:Gam)(U:Rho):∀(es:Es),J4 U es=Aa->evB Z U es=evA Z U es
 |.nil,_=>rfl
 |.cons e es,h=>by
  simp only[eZ,Ap]at h;rw[UC,UB,Wy Z U e h.1,Wn Z U es h.2]
theorem Re(Z:Gam)(c:E):Rf (λU=>evE Z U c) (λU=>top U c (evE Z U c)):=λU=>by
 by_cases h:shE U c=Aa
 .exact .inr (Wy Z U c h).symm
 .cases c with
  |var i=>
   refine .inl ?_;show F7 U i=.bad;have h':¬ shV U i=Aa:=h;unfold shV at h';unfold F7;cases q:U[i]? with
   |none=>rfl
   |some x=>
    cases x with
    |none=>rfl
    |some y=>
     obtain⟨d,o⟩:=y;cases o with
     |true=>rfl
     |false=>rw[q]at h';exact absurd rfl h'
  |_=>exact absurd rfl h
def Pcs(X:Cx)(CL:ClA)(W:XW)(e:Ao)(f:Rho->R D):Prop:=∃ tg iter elt ifs scope pos N' ts fi fc fe as g,e=.ListComp elt [⟨tg,iter,ifs,0⟩] scope pos/\BlockOk X scope N' ts/\SI X CL W tg iter fi/\GG X.K CL ts as g /\
 (∀ cl C s H fp,PG (cxC X scope cl C N' s H fp) tg g)/\(∀ cl C s H fp,STs (cxC X scope cl C N' s H fp) CL ifs fc)/\(∀ cl C s H fp,SE (cxC X scope cl C N' s H fp) CL W0 elt fe)/\(∀ x,Dr iter X.env x=pure x) /\
 ∀ U,f U=(fi U).bind λxs=>(noX (BK (λx=>(as x U).bind fc) (λx=>(as x U).bind fe) xs)).bind λys=>.ok (.lst ys)
theorem Pcs.sc{W:XW}{e:Ao}{f:Rho->R D}(hc:X.calm=Aa)(h:Pcs X CL W e f):SC X CL W Aa e f:=by
 obtain⟨tg,iter,elt,ifs,scope,pos,N',ts,fi,fc,fe,as,g,rfl,B,hi,hGG,hg,ht,he,hs,ef⟩:=h;exact SC.congr (mJ hc B hi hGG hg ht he hs) ef
structure OkE (Z:Gam) (CL:ClA) (W:XW) (X:Cx) (e:Ao) (c:E):Prop where
 se:SE X CL W e (λU=>evE Z U c)
 st:ST X CL W e (λU=>top U c (evE Z U c))
 nw:DR Z c=Aa->SC X CL W Aa e (λU=>evE Z U c)
 cp:Ln e=Ae->Pcs X CL W e (λU=>evE Z U c)
section
variable{Z:Gam}{CL:ClA}{W:XW}{X:Cx}{e:Ao}{c:E}
theorem EL(h:SE X CL W e (λU=>evE Z U c))(ht:∀ U r,top U c r=r)(hn:DR Z c=Ae)(hc:Ln e=Aa):OkE Z CL W X e c:=
 ⟨h,by simp only[ht];exact h.st,λz=>absurd z (by rw[hn];decide),λz=>absurd z (by rw[hc];decide)⟩
theorem Rs(h:SC X CL W Aa e (λU=>evE Z U c))(ht:∀ U r,top U c r=r)(hc:Ln e=Aa):OkE Z CL W X e c:=
 ⟨h.se,by simp only[ht];exact h.se.st,λ_=>h,λz=>absurd z (by rw[hc];decide)⟩
theorem WS(hc:X.calm=Aa)(h:Pcs X CL W e (λU=>evE Z U c))(ht:∀ U r,top U c r=r):OkE Z CL W X e c:=
 ⟨(h.sc hc).se,by simp only[ht];exact(h.sc hc).se.st,λ_=>h.sc hc,λ_=>h⟩
end
theorem aL{k:Ki}(h:RX k=Ab x):∃ T,tyK k=Ab T/\Dx x=Ab (.type T):=by
 cases k<;>simp only[RX]at h<;>cases h
 .exact⟨_,rfl,PyProof.Rows.boot_int⟩
 .exact⟨_,rfl,PyProof.Rows.boot_bool⟩
 .exact⟨_,rfl,PyProof.Rows.boot_str⟩
 .exact⟨_,rfl,X7⟩
 .exact⟨_,rfl,FZ⟩
structure Snd (Z:Gam) (CL:ClA) (k:Ag) (n:Ag):Prop where
 e:∀(W:XW)(T:Tc)(X:Cx)(x:Ao)(c:E),VX Z CL k W T X->Bs n T x c=Aa->OkE Z CL W X x c
 b:∀(W:XW)(T:Tc)(X:Cx)(x:Ao)(c:E),VX Z CL k W T X->Jw n T x c=Aa->SB X CL W x (λU=>(top U c (evE Z U c)).bind CJ)
 bs:∀(W:XW)(T:Tc)(X:Cx)(xs:Ac Ao)(es:Es)(pos:A6),VX Z CL k W T X->chkBs n T xs es=Aa->xs≠[]->SW X CL W (.BoolOp .And xs pos) (λU=>(evN Z U es).bind CJ)/\SW X CL W (.BoolOp .Or xs pos) (λU=>(evO Z U es).bind CJ)
 es:∀(W:XW)(T:Tc)(X:Cx)(xs:Ac Ao)(es:Es),VX Z CL k W T X->chkEs n T xs es=Aa->SA X CL W xs (λU=>evA Z U es)/\SAT X CL W xs (λU=>evB Z U es)/\xs.length=es.len/\(∀ pos,xs≠[]->SE X CL W (.BoolOp .And xs pos) (λU=>evN Z U es)/\SE X CL W (.BoolOp .Or xs pos) (λU=>evO Z U es))/\(∀ pos,(CU pos (AI xs X.env)).any (·.1)=Ae)
 o:∀(W:XW)(T:Tc)(X:Cx)(x:Aq Ao)(c:E),VX Z CL k W T X->chkO n T x c=Aa->SO X CL W x (λU=>(top U c (evE Z U c)).bind (slE c))
 t:∀(T:Tc)(X:Cx)(xs:Ac Ao)(c:E),VX Z CL k W0 T X->chkT n T xs c=Aa->STs X CL xs (λU=>(top U c (evE Z U c)).bind CJ)
 i:∀(W:XW)(T:Tc)(X:Cx)(tu:Ak)(tg x:Ao)(i:I),VX Z CL k W T X->Su tu tg=Aa->chkI n T tu x i=Aa->SI X CL W tg x (λU=>evI Z U i)
section
variable{Z:Gam}{CL:ClA}{W:XW}{k n:Ag}{T:Tc}{X:Cx}
theorem iO:Snd Z CL k 0:=⟨λ_ _ _ _ _ _ h=>noF h,λ_ _ _ _ _ _ h=>noF h,λ_ _ _ _ _ _ _ h=>noF h,λ_ _ _ _ _ _ h=>noF h,λ_ _ _ _ _ _ h=>noF h,λ_ _ _ _ _ h=>noF h,λ_ _ _ _ _ _ _ _ _ h=>noF h⟩
theorem Tf{x:Ao}(h:D5 x=Aa)(hx:(CU pos (AI xs env)).any (·.1)=Ae):(CU pos (AI (x::xs) env)).any (·.1)=Ae:=by
 rw[CZ h];show (Ae||(CU pos (AI xs env)).any (·.1))=Ae;rw[hx];rfl
theorem vN(S:Snd Z CL k n)(W:XW)(T:Tc)(X:Cx)(xs:Ac Ao)(es:Es)(v:VX Z CL k W T X)(h:chkEs (n+1) T xs es=Aa):SA X CL W xs (λU=>evA Z U es)/\SAT X CL W xs (λU=>evB Z U es)/\xs.length=es.len/\(∀ pos,xs≠[]->SE X CL W (.BoolOp .And xs pos) (λU=>evN Z U es)/\SE X CL W (.BoolOp .Or xs pos) (λU=>evO Z U es))/\(∀ pos,(CU pos (AI xs X.env)).any (·.1)=Ae):=by
 cases xs with
 |nil=>
  cases es with
  |nil=>exact⟨wD,mL,rfl,λ_ z=>absurd rfl z,λ_=>rfl⟩
  |cons=>exact noF h
 |cons x xs=>
  cases es with
  |nil=>exact noF h
  |cons e es=>
   replace h:(D5 x&&Bs n T x e&&chkEs n T xs es)=Aa:=h;simp only[Ap]at h;obtain⟨⟨h0,h1⟩,h2⟩:=h;have he:=S.e W T X x e v h1;obtain⟨a1,a2,a3,a4,a5⟩:=S.es W T X xs es v h2;refine⟨mM he.se a1 (CZ h0),gQ he.st a2 (CZ h0),congrArg (· + 1) a3,λpos _=>?_,λpos=>Tf h0 (a5 pos)⟩
   cases xs with
   |nil=>
    cases es with
    |nil=>exact⟨WD he.se,WD he.se⟩
    |cons=>cases a3
   |cons y ys=>
    cases es with
    |nil=>cases a3
    |cons e' es'=>
     obtain⟨b1,b2⟩:=a4 pos (by simp)
     exact⟨xT he.se b1,gr he.se b2⟩
theorem j8(S:Snd Z CL k n)(W:XW)(T:Tc)(X:Cx)(x:Aq Ao)(c:E)(v:VX Z CL k W T X)(h:chkO (n+1) T x c=Aa):SO X CL W x (λU=>(top U c (evE Z U c)).bind (slE c)):=by
 cases x with
 |none=>
  obtain rfl:=jQ h;exact mC
 |some x=>
  replace h:(!(Oy c)&&Bs n T x c)=Aa:=h;rw[Ap]at h;have q:=mB (S.e W T X x c v h.2).st;have e:slE c=λd=>(EX d).bind λi=>.ok (Ab i):=by
   funext d
   cases c<;>first|rfl|exact absurd (show Ae=Aa from h.1) AY
  rw[e];exact q
theorem j6(S:Snd Z CL k n)(T:Tc)(X:Cx)(xs:Ac Ao)(c:E)(v:VX Z CL k W0 T X)(h:chkT (n+1) T xs c=Aa):STs X CL xs (λU=>(top U c (evE Z U c)).bind CJ):=by
 cases xs with
 |nil=>
  replace h:=nY h;obtain⟨b,rfl,h⟩:=h;subst h;exact nS
 |cons x xs=>
  replace h:(xs.isEmpty&&Jw n T x c)=Aa:=h;rw[Ap]at h;obtain rfl:=Lo h.1;exact nR (S.b W0 T X x c v h.2)
theorem j9(S:Snd Z CL k n)(W:XW)(T:Tc)(X:Cx)(tu:Ak)(tg x:Ao)(i:I)(v:VX Z CL k W T X)(ht':Su tu tg=Aa)(h:chkI (n+1) T tu x i=Aa):SI X CL W tg x (λU=>evI Z U i):=by
 have ht:tu=Aa->Z_2 tg=Aa:=λz=>by
  subst z;cases tg<;>first|rfl|cases ht'
 cases i with
 |e a=>
  exact cZ (S.e W T X x a v h).se
 |rng a=>
  replace h:=La h;obtain⟨g,pp,l,qq,rfl,h⟩:=h;replace h:=Hq h;obtain⟨y,rfl,h⟩:=h;simp only[Ap,BR]at h;obtain⟨⟨⟨rfl,h1⟩,h2⟩,h3⟩:=h;obtain⟨g1,g2,_,_⟩:=HZ v h1;exact xE (S.e W T X _ a v h3).st g1 g2 (CZ h2)
 |rng2 a b=>
  replace h:=La h;obtain⟨g,pp,l,qq,rfl,h⟩:=h;replace h:=JV h;obtain⟨y,z,rfl,h⟩:=h;simp only[Ap,BR]at h;obtain⟨⟨⟨⟨⟨rfl,h1⟩,h2⟩,h3⟩,h4⟩,h5⟩:=h;obtain⟨g1,g2,_,_⟩:=HZ v h1;exact mF (S.e W T X _ a v h4).st (S.e W T X _ b v h5).st g1 g2 (by rw[CZ h2,CZ h3];rfl) (by rw[CZ h3];rfl)
 |zip a b=>
  replace h:=La h;obtain⟨g,pp,l,qq,rfl,h⟩:=h;replace h:=JV h;obtain⟨y,z,rfl,h⟩:=h;simp only[Ap,BR]at h;obtain⟨⟨⟨⟨⟨⟨h0,rfl⟩,h1⟩,h2⟩,h3⟩,h4⟩,h5⟩:=h;obtain⟨g1,g2,_,_⟩:=HZ v h1;have hg:=ht h0;cases tg with
  |Tuple es m tpos=>exact xD (S.e W T X _ a v h4).se (S.e W T X _ b v h5).se g1 g2 (by rw[CZ h2,CZ h3];rfl) (by rw[CZ h3];rfl)
  |_=>cases hg
 |zip3 a b c=>exact absurd (show Ae=Aa from h) AY
 |enm a=>
  replace h:=La h;obtain⟨g,pp,l,qq,rfl,h⟩:=h;replace h:=Hq h;obtain⟨y,rfl,h⟩:=h;simp only[Ap,BR]at h;obtain⟨⟨⟨⟨h0,rfl⟩,h1⟩,h2⟩,h3⟩:=h;obtain⟨g1,g2,_,_⟩:=HZ v h1;have hg:=ht h0;cases tg with
  |Tuple es m tpos=>exact mG (S.e W T X _ a v h3).se g1 g2 (CZ h2)
  |_=>cases hg
theorem Lg{c:Prop}[Gy c]{b:Ak}:(if c then R.ok (D.bl b) else .bad)=.bad\/∃ b',(if c then R.ok (D.bl b) else .bad)=.ok (.bl b'):=by
 by_cases h:c
 .rw[AO h];exact .inr ⟨_,rfl⟩
 .rw[AW h];exact .inl rfl
theorem kR(op:DI)(d d':D):B9 op d d'=.bad\/∃ b,B9 op d d'=.ok (.bl b):=by
 cases op with
 |Eq=>exact Lg
 |NotEq=>exact Lg
 |In=>
  cases d' with
  |lst ys=>exact Lg
  |tup ys=>exact Lg
  |dic kvs=>
   show (match LO d with|some k=>R.ok (D.bl (kvs.any λp=>p.1==k))|none=>.bad)=.bad\/∃ b,(match LO d with|some k=>R.ok (D.bl (kvs.any λp=>p.1==k))|none=>.bad)=.ok (.bl b)
   cases LO d with
   |some k=>exact .inr ⟨_,rfl⟩
   |none=>exact .inl rfl
  |_=>exact .inl rfl
 |NotIn=>
  cases d' with
  |lst ys=>exact Lg
  |tup ys=>exact Lg
  |_=>exact .inl rfl
 |Is=>
  cases d' with
  |non=>cases d<;>first|exact .inr ⟨_,rfl⟩|exact .inl rfl
  |_=>cases d<;>first|exact .inl rfl|exact .inr ⟨_,rfl⟩
 |IsNot=>
  cases d' with
  |non=>cases d<;>first|exact .inr ⟨_,rfl⟩|exact .inl rfl
  |_=>cases d<;>first|exact .inl rfl|exact .inr ⟨_,rfl⟩
 |_=>
  cases d with
  |int i=>cases d'<;>first|exact .inr ⟨_,rfl⟩|exact .inl rfl
  |_=>exact .inl rfl
theorem Vl(op:DI)(d d':D):(B9 op d d').bind CJ=.bad\/(B9 op d d').bind CJ=(B9 op d d').bind Ek:=by
 rcases kR op d d' with h|⟨b,h⟩
 .rw[h];exact .inl rfl
 .rw[h];exact .inr rfl
theorem dg(e e':E)(es:Es):Rf (λU=>(evN Z U (.cons e (.cons e' es))).bind CJ) (λU=>((top U e (evE Z U e)).bind CJ).bind λc=>if c=Aa then (evN Z U (.cons e' es)).bind CJ else .ok Ae):=λU=>by
 have e0:evN Z U (.cons e (.cons e' es))=(evE Z U e).bind λx=>(Ek x).bind λc=>if c=Aa then evN Z U (.cons e' es) else .ok (.bl Ae):=rfl
 dsimp only;rw[e0];rcases Re Z e U with z|z<;>dsimp only at z
 .rw[z];exact .inl rfl
 .rw[<-z];cases evE Z U e with
  |bad=>exact .inl rfl
  |exn x=>exact .inr rfl
  |ok d=>
   cases d with
   |bl b=>cases b<;>exact .inr rfl
   |_=>exact .inl rfl
theorem de(e e':E)(es:Es):Rf (λU=>(evO Z U (.cons e (.cons e' es))).bind CJ) (λU=>((top U e (evE Z U e)).bind CJ).bind λc=>if c=Aa then .ok Aa else (evO Z U (.cons e' es)).bind CJ):=λU=>by
 have e0:evO Z U (.cons e (.cons e' es))=(evE Z U e).bind λx=>(Ek x).bind λc=>if c=Aa then .ok (.bl Aa) else evO Z U (.cons e' es):=rfl
 dsimp only;rw[e0];rcases Re Z e U with z|z<;>dsimp only at z
 .rw[z];exact .inl rfl
 .rw[<-z];cases evE Z U e with
  |bad=>exact .inl rfl
  |exn x=>exact .inr rfl
  |ok d=>
   cases d with
   |bl b=>cases b<;>exact .inr rfl
   |_=>exact .inl rfl
theorem Rf.tru(e:E):Rf (λU=>(evE Z U e).bind CJ) (λU=>(top U e (evE Z U e)).bind CJ):=λU=>by
 rcases Re Z e U with z|z<;>dsimp only at z ⊢
 .rw[z];exact .inl rfl
 .rw[<-z];exact .inr rfl
theorem vO(S:Snd Z CL k n)(W:XW)(T:Tc)(X:Cx)(xs:Ac Ao)(es:Es)(pos:A6)(v:VX Z CL k W T X)(h:chkBs (n+1) T xs es=Aa)(hne:xs≠[]):SW X CL W (.BoolOp .And xs pos) (λU=>(evN Z U es).bind CJ)/\SW X CL W (.BoolOp .Or xs pos) (λU=>(evO Z U es).bind CJ):=by
 cases xs with
 |nil=>exact absurd rfl hne
 |cons x xs=>
  cases es with
  |nil=>exact noF h
  |cons e es=>
   replace h:(Jw n T x e&&chkBs n T xs es)=Aa:=h;simp only[Ap]at h;obtain⟨h1,h2⟩:=h;have he:=S.b W T X x e v h1;cases xs with
   |nil=>
    cases es with
    |nil=>exact⟨SW.ref (nP he) (Rf.tru e),SW.ref (vG he) (Rf.tru e)⟩
    |cons=>
     cases n with
     |zero=>exact absurd (show Ae=Aa from h2) AY
     |succ n=>exact absurd (show Ae=Aa from h2) AY
   |cons y ys=>
    cases es with
    |nil=>
     cases n with
     |zero=>exact absurd (show Ae=Aa from h2) AY
     |succ n=>exact absurd (show Ae=Aa from h2) AY
    |cons e' es'=>
     obtain⟨b1,b2⟩:=S.bs W T X (y::ys) (.cons e' es') pos v h2 (by simp)
     exact⟨SW.ref (vH he b1) (dg e e' es'),SW.ref (j5 he b2) (de e e' es')⟩
theorem nG(S:Snd Z CL k n){x:Ao}{ops:Ac DI}{b:BI}(v:VX Z CL k W T X)(h:Sb T (Bs n) x ops ys b as=Aa):SB X CL W (.Compare x ops ys pos) (λU=>(top U (.bi b as) (evE Z U (.bi b as))).bind CJ):=by
 exact absurd (show Ae=Aa from h) AY
theorem jb(S:Snd Z CL k n)(W:XW)(T:Tc)(X:Cx)(x:Ao)(c:E)(v:VX Z CL k W T X)(h:Jw (n+1) T x c=Aa):SB X CL W x (λU=>(top U c (evE Z U c)).bind CJ):=by
 have plain:∀ e,Nx e=Aa->Bs n T e c=Aa->SB X CL W e (λU=>(top U c (evE Z U c)).bind CJ):=λe h1 h2=>xU (S.e W T X e c v h2).st (nM h1)
 replace h:((LJ x λo x=>decide (o=.Not)&&(OH c λa=>Jw n T x a))||(LB x λo xs _=>(decide (o=.And)&&(Ot c λes=>chkBs n T xs es && !xs.isEmpty))||(decide (o=.Or)&&(OR c λes=>chkBs n T xs es && !xs.isEmpty)))||(LA x λx os ys=>(On c λop a b=>Gr os λop'=>Gr ys λy=>decide (op'=op) && !behindInMarks op y&&Bs n T x a&&Bs n T y b)||(Oo c λop1 op2 a b c=>Ic os λo1 o2=>Ic ys λy z=>decide (o1=op1)&&decide (o2=op2) && !lastMarks [op1,op2] [y,z]&&Bs n T x a&&Bs n T y b&&Bs n T z c)||(Op c λb as=>Sb T (Bs n) x os ys b as))||Nx x&&Bs n T x c)=Aa:=h
 replace h:=(orT h).imp_left λz=>(orT z).imp_left orT
 rcases h with ((h|h)|h)|h
 .replace h:=Q3 h;obtain⟨o,y,p,rfl,h⟩:=h;replace h:=FR h;obtain⟨h0,h⟩:=h;obtain rfl:=BG h0;replace h:=nW h;obtain⟨a,rfl,h⟩:=h
  .skip
   refine SB.ref (xV (S.b W T X _ a v h)) λU=>?_
   show ((top U a (evE Z U a)).bind λx=>(Ek x).bind λb=>.ok (.bl (!b))).bind CJ=.bad\/((top U a (evE Z U a)).bind λx=>(Ek x).bind λb=>.ok (.bl (!b))).bind CJ=_
   cases top U a (evE Z U a) with
   |bad=>exact .inl rfl
   |exn x=>exact .inr rfl
   |ok d=>cases d<;>first|exact .inr rfl|exact .inl rfl
 .replace h:=QB h;obtain⟨o,ys,p,rfl,h⟩:=h;replace h:=orT h;rcases h with h|h
  .replace h:=FR h;obtain⟨h0,h⟩:=h;obtain rfl:=BG h0;replace h:=jJ h;obtain⟨es,rfl,h⟩:=h;simp only[Ap,Cb,Ep]at h;exact(S.bs W T X _ _ _ v h.1 h.2).1.sb
  .replace h:=FR h;obtain⟨h0,h⟩:=h;obtain rfl:=BG h0;replace h:=nV h;obtain⟨es,rfl,h⟩:=h;simp only[Ap,Cb,Ep]at h;exact(S.bs W T X _ _ _ v h.1 h.2).2.sb
 .replace h:=QA h;obtain⟨w,os,ys,p,rfl,h⟩:=h;replace h:=(orT h).imp_left orT;rcases h with (h|h)|h
  .replace h:=kN h;obtain⟨op,a,b,rfl,h⟩:=h;replace h:=Hq h;obtain⟨op',rfl,h⟩:=h;replace h:=Hq h;obtain⟨y,rfl,h⟩:=h
   .simp only[Ap,Cb,Bh]at h;obtain⟨⟨⟨rfl,h1⟩,h2⟩,h3⟩:=h;refine SB.ref (xW (Li v.room.units _) (S.e W T X _ a v h2).st (S.e W T X _ b v h3).st h1) λU=>?_
    show ((top U a (evE Z U a)).bind λx=>(top U b (evE Z U b)).bind λy=>B9 op' x y).bind CJ=.bad\/((top U a (evE Z U a)).bind λx=>(top U b (evE Z U b)).bind λy=>B9 op' x y).bind CJ=_
    cases top U a (evE Z U a) with
    |bad=>exact .inl rfl
    |exn x=>exact .inr rfl
    |ok d=>
     cases top U b (evE Z U b) with
     |bad=>exact .inl rfl
     |exn x=>exact .inr rfl
     |ok d'=>
      dsimp only[R.bind];exact Vl _ d d'
  .replace h:=jD h;obtain⟨op1,op2,a,b,c,rfl,h⟩:=h;replace h:=JV h;obtain⟨o1,o2,rfl,h⟩:=h;replace h:=JV h;obtain⟨y,z,rfl,h⟩:=h
   .simp only[Ap,Cb,Bh]at h;obtain⟨⟨⟨⟨⟨rfl,rfl⟩,h1⟩,h2⟩,h3⟩,h4⟩:=h;refine SB.ref (gP v.room.units (S.e W T X _ a v h2).st (S.e W T X _ b v h3).st (S.e W T X _ c v h4).st h1) λU=>?_
    show ((top U a (evE Z U a)).bind λx=>(top U b (evE Z U b)).bind λy=>(B9 o1 x y).bind λz=>(Ek z).bind λk=>if k=Aa then (top U c (evE Z U c)).bind λu=>B9 o2 y u else .ok (.bl Ae)).bind CJ=.bad\/((top U a (evE Z U a)).bind λx=>(top U b (evE Z U b)).bind λy=>(B9 o1 x y).bind λz=>(Ek z).bind λk=>if k=Aa then (top U c (evE Z U c)).bind λu=>B9 o2 y u else .ok (.bl Ae)).bind CJ=_
    cases top U a (evE Z U a) with
    |bad=>exact .inl rfl
    |exn x=>exact .inr rfl
    |ok d=>
     cases top U b (evE Z U b) with
     |bad=>exact .inl rfl
     |exn x=>exact .inr rfl
     |ok d'=>
      dsimp only[R.bind];cases B9 o1 d d' with
      |bad=>exact .inl rfl
      |exn x=>exact .inr rfl
      |ok d3=>
       cases d3 with
       |bl k=>
        cases k with
        |false=>exact .inr rfl
        |true=>
         dsimp only[R.bind,Ek];rw[AO rfl,AO rfl];cases top U c (evE Z U c) with
         |bad=>exact .inl rfl
         |exn x=>exact .inr rfl
         |ok d4=>exact Vl _ d' d4
       |_=>exact .inl rfl
  .replace h:=jE h;obtain⟨b,as,rfl,h⟩:=h;exact nG S v h
 .exact plain _ (FR h).1 (FR h).2
end
section
variable{Z:Gam}{CL:ClA}{W:XW}{k n:Ag}{T:Tc}{X:Cx}
theorem aO{b:BI}{x:Ao}(v:VX Z CL k W T X)(hb:RY b=Ab g)(hg:isB T g=Aa)(hs:SAT X CL W (x::xs) (λU=>evB Z U as))(h0:D5 x=Aa)(hpl:∀ pos,(CU pos (AI xs X.env)).any (·.1)=Ae):OkE Z CL W X (.Call (.Name g p) (x::xs) [] pos) (.bi b as):=by
 obtain⟨g1,g2,g3,g4⟩:=HZ v hg;cases b<;>simp only[RY]at hb<;>cases hb
 .exact EL (Lm au g1 g2 PySem.boot_len hs g3 g4 (CZ h0) hpl) (λ_ _=>rfl) rfl rfl
 .exact EL (Lm (ar v.calm) g1 g2 PyProof.Rows.boot_max hs g3 g4 (CZ h0) hpl) (λ_ _=>rfl) rfl rfl
 .exact EL (Lm (aq v.calm) g1 g2 PyProof.Rows.boot_min hs g3 g4 (CZ h0) hpl) (λ_ _=>rfl) rfl rfl
 .exact Rs (xA tN g1 g2 X7 hs g3 g4 (CZ h0) hpl) (λ_ _=>rfl) rfl
 .exact EL (xS kS g1 g2 FZ hs g3 g4 (CZ h0) hpl) (λ_ _=>rfl) rfl rfl
 .exact EL (Lm (d9 v.calm) g1 g2 PyProof.Rows.boot_all hs g3 g4 (CZ h0) hpl) (λ_ _=>rfl) rfl rfl
 .exact EL (Lm (av v.calm) g1 g2 PyProof.Rows.boot_any hs g3 g4 (CZ h0) hpl) (λ_ _=>rfl) rfl rfl
 .exact EL (Lm (ao v.calm) g1 g2 PyProof.Rows.boot_sum hs g3 g4 (CZ h0) hpl) (λ_ _=>rfl) rfl rfl
theorem Qf{x:Ao}{es:Es}(h:chkEs n T (x::xs) es=Aa):D5 x=Aa/\∃ e es',es=.cons e es'/\∃ m,n=m+1/\chkEs m T xs es'=Aa:=by
 cases n with
 |zero=>exact noF h
 |succ m=>
  cases es with
  |nil=>exact noF h
  |cons e es=>
   replace h:(D5 x&&Bs m T x e&&chkEs m T xs es)=Aa:=h;simp only[Ap]at h;exact⟨h.1.1,e,es,rfl,m,rfl,h.2⟩
theorem Tp:∀(m:Ag)(xs:Ac Ao)(es:Es),chkEs m T xs es=Aa->∀ pos,(CU pos (AI xs X.env)).any (·.1)=Ae:=by
 intro m
 induction m with
 |zero=>intro xs es h;exact noF h
 |succ m ih=>
  intro xs es h pos;cases xs with
  |nil=>rfl
  |cons x xs=>
   obtain⟨h0,e,es',rfl,m',e1,h1⟩:=Qf h;cases e1;exact Tf h0 (ih xs es' h1 pos)
theorem wF(S:Snd Z CL k n){x:Ao}{b:BI}(v:VX Z CL k W T X)(h:(match Pb as with|some a=>(match SM x with|some y=>decide (b=.rvs)&&Bs n T y a|none=>Ae)|none=>Ae)=Aa):OkE Z CL W X x (.bi b as):=by
 simp[Pb]at h
theorem vE(S:Snd Z CL k n){x:Ao}{b:BI}(v:VX Z CL k W T X)(h:(match R6 as with|some (a,c)=>(match SG x with|some (y,z,_)=>decide (b=.tlt) && !behindInMarks .Lt z&&Bs n T y a&&Bs n T z c|none=>Ae)|none=>Ae)=Aa):OkE Z CL W X x (.bi b as):=by
 simp[R6]at h
theorem bj{x:Ao}{b:BI}(v:VX Z CL k W T X)(h:Sz T x b as=Aa):OkE Z CL W X x (.bi b as):=by
 exact absurd h AY
theorem vJ(S:Snd Z CL k n){x:Ao}{b:BI}(v:VX Z CL k W T X)(h:(match R7 as with|some (a,k)=>(match Sn x with|some (y,j)=>decide (b=.stp)&&decide (j=k)&&decide (0<=k)&&Bs n T y a|none=>Ae)|none=>Ae)=Aa):OkE Z CL W X x (.bi b as):=by
 simp[R7]at h
theorem xX(S:Snd Z CL k n){x:Ao}{b:BI}(v:VX Z CL k W T X)(h:(match R8 as with|some (a,c)=>(match S0 x with|some (g,h,y,z)=>decide (b=.list)&&g==("list" : An)&&h==("range" : An)&&isB T g&&isB T h&&D5 y&&D5 z&&Bs n T y a&&Bs n T z c|none=>Ae)|none=>Ae)=Aa):OkE Z CL W X x (.bi b as):=by
 simp[R8]at h
theorem rQ(S:Snd Z CL k n){x:Ao}{b:BI}(v:VX Z CL k W T X)(h:(match MW as with|some a=>(match M0 x with|some (g,h,y)=>decide (b=.lset)&&g==("len" : An)&&h==("set" : An)&&isB T g&&isB T h&&D5 y&&Bs n T y a|none=>Ae)|none=>Ae)=Aa):OkE Z CL W X x (.bi b as):=by
 cases q1:MW as with
 |none=>rw[q1]at h;cases h
 |some a=>
  cases q2:M0 x with
  |none=>rw[q1,q2]at h;cases h
  |some t2=>
   obtain⟨g,f,y⟩:=t2;rw[q1,q2]at h;simp only[Ap,BR,Bh]at h;obtain⟨⟨⟨⟨⟨⟨rfl,rfl⟩,rfl⟩,h1⟩,h2⟩,h3⟩,h4⟩:=h;obtain⟨p,p',pos,pos',rfl⟩:=rP q2;have e:=kU q1;subst e;obtain⟨g1,g2,_,_⟩:=HZ v h1;obtain⟨g3,g4,_,_⟩:=HZ v h2;refine EL (SE.congr (mH (S.e W T X _ a v h4).st v.room.units v.calm g1 g2 g3 g4 (by rw[CZ h3];rfl)) λU=>?_) (λ_ _=>rfl) rfl rfl
   simp only[Wm,evB,R.bind_assoc,R.bind_ok]
theorem ja(S:Snd Z CL k n)(W:XW)(T:Tc)(X:Cx)(x:Ao)(c:E)(v:VX Z CL k W T X)(h:Bs (n+1) T x c=Aa):OkE Z CL W X x c:=by
 cases c with
 |non=>
  replace h:=NK h;obtain⟨c,u,p,rfl,h⟩:=h;obtain rfl:=BG h;exact EL xL (λ_ _=>rfl) rfl rfl
 |bl b=>
  replace h:=NK h;obtain⟨c,u,p,rfl,h⟩:=h;obtain rfl:=BG h;exact EL gu (λ_ _=>rfl) rfl rfl
 |int i=>
  replace h:=NK h;obtain⟨c,u,p,rfl,h⟩:=h;obtain rfl:=BG h;exact EL xO (λ_ _=>rfl) rfl rfl
 |str i=>
  replace h:=NK h;obtain⟨c,u,p,rfl,h⟩:=h;obtain rfl:=BG h;exact EL xJ (λ_ _=>rfl) rfl rfl
 |var i=>
  replace h:=Jn h;obtain⟨y,p,rfl,h⟩:=h;exact⟨xH (JX v h),uN (JX v h),λz=>(nomatch z),λz=>(nomatch z)⟩
 |glob g=>exact absurd (show Ae=Aa from h) AY
 |bin op a b=>
  replace h:=jF h;obtain⟨y,op',z,p,rfl,h⟩:=h;simp only[Ap,Bh]at h;obtain⟨⟨rfl,h1⟩,h2⟩:=h;have ha:=(S.e W T X _ a v h1).st;have hb:=(S.e W T X _ b v h2).st;refine⟨WE (VF _) ha hb,(WE (VF _) ha hb).st,λz=>?_,λz=>nomatch z⟩
  cases op'<;>first|exact xB ha hb|cases z
 |un op a=>
  replace h:=Q3 h;obtain⟨o,y,p,rfl,h⟩:=h;replace h:=FR h;obtain⟨h0,h⟩:=h;obtain rfl:=BG h0;simp only[Ap,Bh]at h;obtain⟨rfl,h1⟩:=h;exact EL (xM (S.e W T X _ a v h1).st) (λ_ _=>rfl) rfl rfl
 |no a=>
  replace h:=Q3 h;obtain⟨o,y,p,rfl,h⟩:=h;replace h:=FR h;obtain⟨h0,h⟩:=h;obtain rfl:=BG h0;exact EL (xK (S.e W T X _ a v h).st) (λ_ _=>rfl) rfl rfl
 |and es=>
  replace h:=QB h;obtain⟨o,ys,p,rfl,h⟩:=h;replace h:=FR h;obtain⟨h0,h⟩:=h;obtain rfl:=BG h0;simp only[Ap,Cb,Ep]at h;exact EL ((S.es W T X _ es v h.1).2.2.2.1 _ h.2).1 (λ_ _=>rfl) rfl rfl
 |or es=>
  replace h:=QB h;obtain⟨o,ys,p,rfl,h⟩:=h;replace h:=FR h;obtain⟨h0,h⟩:=h;obtain rfl:=BG h0;simp only[Ap,Cb,Ep]at h;exact EL ((S.es W T X _ es v h.1).2.2.2.1 _ h.2).2 (λ_ _=>rfl) rfl rfl
 |cmp op a b=>
  replace h:=QA h;obtain⟨y,os,ys,p,rfl,h⟩:=h;replace h:=Hq h;obtain⟨op',rfl,h⟩:=h;replace h:=Hq h;obtain⟨z,rfl,h⟩:=h;simp only[Ap,Cb,Bh]at h;obtain⟨⟨⟨rfl,h1⟩,h2⟩,h3⟩:=h;exact EL (xR (Li v.room.units _) (S.e W T X _ a v h2).st (S.e W T X _ b v h3).st h1) (λ_ _=>rfl) rfl rfl
 |cmp2 op1 op2 a b c=>
  replace h:=QA h;obtain⟨y,os,ys,p,rfl,h⟩:=h;replace h:=JV h;obtain⟨o1,o2,rfl,h⟩:=h;replace h:=JV h;obtain⟨z,w,rfl,h⟩:=h;simp only[Ap,Cb,Bh]at h;obtain⟨⟨⟨⟨⟨rfl,rfl⟩,h1⟩,h2⟩,h3⟩,h4⟩:=h;exact EL (gO v.room.units (S.e W T X _ a v h2).st (S.e W T X _ b v h3).st (S.e W T X _ c v h4).st h1) (λ_ _=>rfl) rfl rfl
 |ite c a b=>exact absurd (show Ae=Aa from h) AY
 |call f as=>
  replace h:=TX h;obtain⟨g,pp,y,ys,qq,rfl,h⟩:=h;simp only[Ap,Gk,BR,Bh]at h;obtain⟨⟨⟨⟨⟨p,hp,⟨rfl,rfl⟩,hl⟩,h900⟩,h1⟩,h2⟩,h3⟩:=h;obtain⟨fa,fd,ps,m1,m2,m3,m4,m5,_⟩:=v.fn p hp;have hlt:p.2.2<1000:=by omega
  rw[Nat.mod_eq_of_lt hlt]at m4 m5;have m5:=m5 hlt;obtain⟨n2,n3,n4⟩:=Q5 h2;obtain⟨a1,a2,a3,a4,a5⟩:=S.es W T X _ as v h3;obtain⟨s0,e,es',rfl,m,rfl,s1⟩:=Qf h3;have q:SC X CL W (Z.fr p.2.1) (.Call (.Name p.1 pp) (y::ys) [] qq) (λU=>evE Z U (.call p.2.1 (.cons e es'))):=mK (sh:=λU=>J4 U (.cons e es')) m5 v.room (by unfold glB at h1;show X.env.scope.names.lookup p.1=_;rw[v.sc];exact eq_of_beq h1) m1 m2 m3 v.px a1 a2 (λU z=>Wn Z U _ z) (λU ds z=>by rw[Vy Z U _ _ z,<-a3,hl];rfl) n2 (CZ s0) (Tp m ys es' s1)
  exact⟨q.se,q.se.st,λz=>by
   have z':Z.fr p.2.1=Aa:=z;rw[z']at q;exact q,λz=>nomatch z⟩
 |bi b as=>
  unfold Bs at h;dsimp only at h;simp only[C9]at h;rcases h with (((((h|h)|h)|h)|h)|h)|h
  .replace h:=TX h;obtain⟨g,pp,y,ys,qq,rfl,h⟩:=h;simp only[Ap,BR]at h;obtain⟨⟨h1,h2⟩,h3⟩:=h;obtain⟨s0,e,es',rfl,m,rfl,s1⟩:=Qf h3;exact aO v h1 h2 (S.es W T X _ _ v h3).2.1 s0 (Tp m _ es' s1)
  .exact bj v h
  .exact xX S v h
  .exact vJ S v h
  .exact rQ S v h
  .exact vE S v h
  .exact wF S v h
 |isi a ks=>
  replace h:=Hq h;obtain⟨k',rfl,h⟩:=h;replace h:=La h;obtain⟨g,pp,l,qq,rfl,h⟩:=h;replace h:=JV h;obtain⟨y,t,rfl,h⟩:=h;replace h:=Jn h;obtain⟨t,pt,rfl,h⟩:=h;simp only[Ap,BR]at h;obtain⟨⟨⟨⟨⟨rfl,h1⟩,h2⟩,h3⟩,h4⟩,h5⟩:=h;obtain⟨g1,g2,_,_⟩:=HZ v h1;obtain⟨b1,b2,b3,b4⟩:=HZ v h3;obtain⟨ty,t1,t2⟩:=aL h2;exact EL (xN t1 g1 g2 b1 b2 t2 b3 b4 (S.e W T X _ a v h5).st (CZ h4)) (λ_ _=>rfl) rfl rfl
 |idx a i=>
  replace h:=Qy h;obtain⟨y,z,p,rfl,h⟩:=h;simp only[Ap]at h;obtain⟨⟨h1,h2⟩,h3⟩:=h;exact EL (xP (iP h1) (S.e W T X _ a v h2).st (S.e W T X _ i v h3).st) (λ_ _=>rfl) rfl rfl
 |sl a lo hi=>
  replace h:=Qy h;obtain⟨y,s,p,rfl,h⟩:=h;replace h:=kJ h;obtain⟨l,u,st,p',rfl,h⟩:=h;replace h:=FR h;obtain⟨h0,h⟩:=h;obtain rfl:=Option.isNone_iff_eq_none.mp h0;simp only[Ap]at h;obtain⟨⟨h1,h2⟩,h3⟩:=h;refine Rs (SC.congr (je (S.e W T X _ a v h1).st (S.o W T X _ lo v h2) (S.o W T X _ hi v h3)) λU=>?_) (λ_ _=>rfl) rfl
  show ((top U a (evE Z U a)).bind λx=>(top U lo (evE Z U lo)).bind λl=>(slE lo l).bind λl'=>(top U hi (evE Z U hi)).bind λh=>(slE hi h).bind λh'=>slD x l' h')=_
  simp only[R.bind_assoc]
 |tup es=>
  replace h:=NJ h;obtain⟨ys,cc,p,rfl,h⟩:=h;simp only[Ap,Bh]at h;have q:=S.es W T X _ es v h.1;exact EL (xI q.1 λU ds z=>by rw[QN Z U _ _ z,<-q.2.2.1];omega) (λ_ _=>rfl) rfl rfl
 |lst es=>
  replace h:=kL h;obtain⟨ys,p,rfl,h⟩:=h;simp only[Ap,Bh]at h;have q:=S.es W T X _ es v h.1;exact Rs (uU q.1 λU ds z=>by rw[QN Z U _ _ z,<-q.2.2.1];omega) (λ_ _=>rfl) rfl
 |comp elt t it c=>
  replace h:=VI (e:=x) (F:=_) (by unfold Bs at h;exact h)
  obtain⟨y,tg,it',ifs,scope,p,rfl,h⟩:=h;replace h:=Jn h;obtain⟨w,pw,rfl,h⟩:=h;simp only[Ap]at h;obtain⟨⟨⟨⟨⟨h1,h2⟩,h3⟩,h4⟩,h5⟩,h6⟩:=h;refine WS v.calm ⟨_,_,_,_,_,_,_,_,_,_,_,_,_,rfl,(Rw v h3).1,S.i W T X Ae _ _ it v rfl h1,qU t,λcl C s H fp=>nH (v.blk h3) (λz=>BR.mpr z) h4,λcl C s H fp=>S.t _ _ _ c (v.blk h3) h5,λcl C s H fp=>(S.e W0 _ _ _ elt (v.blk h3) h6).se,N7 h2,λU=>rfl⟩ (λ_ _=>rfl)
 |compT elt ts it c=>
  replace h:=VI (e:=x) (F:=_) (by unfold Bs at h;exact h)
  obtain⟨y,tg,it',ifs,scope,p,rfl,h⟩:=h;replace h:=NJ h;obtain⟨ys,cc,pw,rfl,h⟩:=h;simp only[Ap]at h;obtain⟨⟨⟨⟨⟨⟨h0,h1⟩,h2⟩,h3⟩,h4⟩,h5⟩,h6⟩:=h;refine WS v.calm ⟨_,_,_,_,_,_,_,_,_,_,_,_,_,rfl,(Rw v h3).1,S.i W T X Aa _ _ it v rfl h1,cq ts,λcl C s H fp=>nK (v.blk h3) h0 h4,λcl C s H fp=>S.t _ _ _ c (v.blk h3) h5,λcl C s H fp=>(S.e W0 _ _ _ elt (v.blk h3) h6).se,N7 h2,λU=>rfl⟩ (λ_ _=>rfl)
 |tupI it=>
  cases it with
  |zip3 a b c=>
   unfold Bs at h;dsimp only at h;cases q:OS x with
   |none=>rw[q]at h;cases h
   |some t=>
    obtain⟨g,f,y1,y2,y3⟩:=t;rw[q]at h;simp only[Ap,BR]at h;obtain⟨⟨⟨⟨⟨⟨⟨⟨⟨rfl,rfl⟩,h1⟩,h2⟩,h3⟩,h4⟩,h5⟩,h6⟩,h7⟩,h8⟩:=h;obtain⟨p,p',pos,pos',rfl⟩:=qL q;obtain⟨g1,g2,_,_⟩:=HZ v h1;obtain⟨g3,g4,_,_⟩:=HZ v h2;exact EL (xQ (S.e W T X _ a v h6).se (S.e W T X _ b v h7).se (S.e W T X _ c v h8).se v.calm g1 g2 g3 g4 (by rw[CZ h3,CZ h4,CZ h5];rfl) (by rw[CZ h4,CZ h5];rfl) (by rw[CZ h5];rfl)) (λ_ _=>rfl) rfl rfl
  |_=>exact noF h
 |dnew=>exact noF h
 |fld o f=>exact noF h
theorem snd:∀ n,Snd Z CL k n
 |0=>iO
 |n+1=>⟨ja (snd n),jb (snd n),vO (snd n),vN (snd n),j8 (snd n),j6 (snd n),j9 (snd n)⟩
end
section
variable{Z:Gam}{CL:ClA}{W:XW}{k n:Ag}{T:Tc}{X:Cx}
theorem nJ{t:Ag}(v:VX Z CL k W T X)(hf:∀ x,X.fn x=Aa)(h:tgC T [t] [x]=Aa):PG X (.Name x pos) (FC t):=by
 unfold tgC at h;simp only[Ap,BR]at h;exact MF (by rw[v.N];exact v.nd) (by rw[v.N];exact h.1.1) (by rw[v.sc];exact QK h.1.2) (.inl (hf x))
theorem Vc(v:VX Z CL k W T X)(hf:∀ x,X.fn x=Aa):∀(ys:Ac Ao)(ts:Ac Ag)(zs:Ac An),FA ys=Ab zs->tgC T ts zs=Aa->PGs X ys (ts.foldr (λt u=>Ia (FC t) u) Il)/\ts.length=ys.length:=by
 intro ys
 induction ys with
 |nil=>
  intro ts zs e h;cases e;cases ts with
  |nil=>exact⟨U_8,rfl⟩
  |cons t ts=>cases h
 |cons y r ih=>
  intro ts zs e h;obtain⟨x,p,ws,rfl,e2,rfl⟩:=PV e;cases ts with
  |nil=>cases h
  |cons t ts=>
   have h':(T.N[t]? == Ab x&&LK T x&&tgC T ts ws)=Aa:=h;simp only[Ap,BR]at h';obtain⟨h1,h2⟩:=ih ts ws e2 h'.2;exact⟨UO (MF (by rw[v.N];exact v.nd) (by rw[v.N];exact h'.1.1) (by rw[v.sc];exact QK h'.1.2) (.inl (hf x))) h1 (by rw[P8];rfl),congrArg (· + 1) h2⟩
theorem nI(v:VX Z CL k W T X)(hf:∀ x,X.fn x=Aa)(hn:(FA ys).isSome=Aa)(h:tgC T ts (tgN ys)=Aa):PG X (.Tuple ys kk pos) (LP X.K ts.length (ts.foldr (λt u=>Ia (FC t) u) Il)):=by
 cases e:FA ys with
 |none=>rw[e]at hn;cases hn
 |some zs=>
  have e2:tgN ys=zs:=by unfold tgN;rw[e];rfl
  rw[e2]at h;obtain⟨h1,h2⟩:=Vc v hf ys ts zs e h;obtain⟨h3,h4,_⟩:=PU (env:=X.env) ys zs e;exact Q9 v.calm h1 (by rw[h3,h2]) h4
theorem vF(v:VX Z CL k W T X)(hf:∀ x,X.fn x=Aa)(hn:(FA ys).isSome=Aa)(h:tgC T ts (tgN ys)=Aa):PG X (.Tuple ys kk pos) (gSq X.K ts.length (ts.foldr (λt u=>Ia (FC t) u) Il)):=by
 cases e:FA ys with
 |none=>rw[e]at hn;cases hn
 |some zs=>
  have e2:tgN ys=zs:=by unfold tgN;rw[e];rfl
  rw[e2]at h;obtain⟨h1,h2⟩:=Vc v hf ys ts zs e h;obtain⟨h3,h4,_⟩:=PU (env:=X.env) ys zs e;exact jx v.calm h1 (by rw[h3,h2]) h4
theorem vB{e:Ao}(h:(WT e||Ed 4 ys.length)=Aa):Gj [.Tuple ys kk pos] e env=pure Af:=by
 cases e with
 |Tuple vs a b=>
  have h4:=Ee (show Ed 4 ys.length=Aa from h)
  have e2:(ys.length==2)=Ae:=by rw[Du];omega
  have e3:(ys.length==3)=Ae:=by rw[Du];omega
  unfold Gj;dsimp only;rw[e2,e3];rfl
 |_=>rfl
theorem Tr(ts:Ac Ag):∀ d U x,F4 ts d U≠.exn x:=λd U x h=>by
 unfold F4 at h;cases d with
 |tup xs=>
  dsimp only at h;cases e:EW ts xs U with
  |some r=>rw[e]at h;cases h
  |none=>rw[e]at h;cases h
 |_=>cases h
theorem iS(ts:Ac Ag):∀ d U x,Js ts d U≠.exn x:=λd U x h=>by
 unfold Js at h;split at h
 .split at h<;>cases h
 .exact Tr ts _ U x h
theorem iM{elt:Ao}{gs:Ac JA}{pos':A6}:∃ b,DU (.ListComp elt gs scope pos) (Ab (.Name x pos')) l env=pure b/\(b=Aa->env.scope.names.lookup x=Ab .local):=by
 refine⟨_,rfl,λh=>?_⟩
 simp only[Ap,BR]at h;exact h.1.1.2
theorem Ri{v0:Ao}{i:Ag}{e:E}(v:VX Z CL k W T X)(hf:∀ x,X.fn x=Aa)(hi:T.N[i]?=Ab x)(hl:LK T x=Aa)(o:OkE Z CL W X v0 e)(hfr:fr=Aa->DR Z e=Aa):SAs X CL W fr i (.Assign [.Name x p] v0 pos) (λU=>evE Z U e):=by
 have hN:X.N.Nodup:=by rw[v.N];exact v.nd
 have hi':X.N[i]?=Ab x:=by rw[v.N];exact hi
 have hx:Loc X.env.scope x:=by rw[v.sc];exact QK hl
 have sc:SC X CL W fr v0 (λU=>evE Z U e):=by
  cases fr with
  |false=>exact o.se.sc
  |true=>exact o.nw (hfr rfl)
 cases hc:Ln v0 with
 |true=>exact SC.sas hN hi' hx sc (VC hc) (.inl (hf x))
 |false=>
  obtain⟨tg,iter,elt,ifs,scope,pos2,N',ts,fi,fc,fe,as,g,rfl,B,h2,hGG,hg,ht,he,hs,ef⟩:=o.cp hc;obtain⟨b,hb,hb'⟩:=iM (elt:=elt) (gs:=[⟨tg,iter,ifs,0⟩]) (scope:=scope) (pos:=pos2) (pos':=p) (x:=x) (l:=pos.line) (env:=X.env);cases b with
  |false=>exact SC.sas hN hi' hx sc hb (.inl (hf x))
  |true=>
   have q:=gR (pos2:=pos) v.calm B h2 hGG hg ht he hs hN hi' (hb' rfl) hb;have q':SAs X CL W Aa i (.Assign [.Name x p] (.ListComp elt [⟨tg,iter,ifs,0⟩] scope pos2) pos) (λU=>evE Z U e):=by
    have:(λU=>evE Z U e)=_:=funext ef
    rw[this];exact q
   cases fr with
   |true=>exact q'
   | false=>exact λA=>PS.weak (q' A) λD Y H ⟨hA,U,gd,z⟩=>⟨hA,U,gd,by
     dsimp only at z ⊢;cases e0:evE Z U e with
     |ok d=>
      rw[e0]at z;exact λv' H' s' r'=>z v' H' s' ⟨r'.1,λ_=>r'.2 rfl⟩
     |exn y=>rw[e0]at z;exact z
     | bad=>rw[e0]at z;exact z⟩
theorem Vg{e t:Ao}(h:∀ x p,t≠.Name x p):Hm [t] e l env=pure Ae:=by
 show DU e (Ab t) l env=pure Ae;cases e<;>first|rfl|(cases t<;>first|rfl|exact absurd rfl (h _ _))
theorem Ub(U:Rho)(e:E)(h:∀ i,e≠.var i):evS Z U (.ret e)=O.of U (evE Z U e) λd=>.ret d (DR Z e):=by
 have k:∀ b:Ak,b=Ae->top U e (evE Z U e)=evE Z U e->(O.of U (top U e (evE Z U e)) λd=>.ret d (DR Z e||b))=O.of U (evE Z U e) λd=>.ret d (DR Z e):=λb hb ht=>by
  rw[hb,ht];simp only[Gd]
 rw[rD];cases e with
 |var i=>exact absurd rfl (h i)
 |_=>exact k _ rfl rfl
structure DefX (X:Cx):Prop where
 fn:∀ x,X.fn x=Aa
 ex:X.ex=[]
 st:X.stack=X.env::X.outer
 fm:X.env.frame=Ab X.env.locals
structure SndS (Z:Gam) (CL:ClA) (k:Ag) (n:Ag):Prop where
 s:∀(W:XW)(T:Tc)(X:Cx)(x:BA)(c:S),VX Z CL k W T X->DefX X->OT n T x c=Aa->SS X CL W x (λU=>evS Z U c)
 ss:∀(W:XW)(T:Tc)(X:Cx)(x:Ac BA)(c:Ss),VX Z CL k W T X->DefX X->chkSs n T x c=Aa->SSs X CL W x (λU=>evSs Z U c)
theorem VX.pw(v:VX Z CL k W T X){pI:Pn}{Xw:Vq}(own:GA (model X.prog X.w) X.A X.env Xw):VX Z CL k W0 T (Cx.pw X pI Xw):=⟨v.sc,v.kd,v.N,v.nd,v.calm,v.room,v.bl,v.fn,own,Wc,SL,v.xt,v.gl⟩
theorem STB.congr{st:Ac BA}{f g:Rho->O}(h:STB X CL st f)(e:∀ U,g U=f U):STB X CL st g:=by
 have:g=f:=funext e;rw[this];exact h
theorem j7(Z_:SndS Z CL k n)(W:XW)(T:Tc)(X:Cx)(st:BA)(c:S)(v:VX Z CL k W T X)(hf:DefX X)(h:OT (n+1) T st c=Aa):SS X CL W st (λU=>evS Z U c):=by
  have E:=snd (Z:=Z) (CL:=CL) (k:=k) n;cases c with
  |pass=>exact absurd (show Ae=Aa from h) AY
  |brk=>exact absurd (show Ae=Aa from h) AY
  |cont=>exact absurd (show Ae=Aa from h) AY
  |asg i fresh e=>
    replace h:=jI h;obtain⟨x,px,v0,pos,rfl,h⟩:=h;simp only[Ap,BR]at h;obtain⟨⟨h1,h2⟩,h3⟩:=h;have o:=E.e W T X _ e v h3;cases fresh with
    |false=>exact WC (Ri (fr:=Ae) v hf.fn h1 h2 o (λz=>nomatch z))
    |true=>
      cases hn:DR Z e with
      |true=>
        refine SS.ref (lZ (Ri (fr:=Aa) v hf.fn h1 h2 o (λ_=>hn))) λU=>.inr ?_
        show O.of U (evE Z U e) (λd=>if Aa=Aa then (if DR Z e=Aa then (match d with
          |.lst xs=>.next (U.set i (Ab (.lst xs,Aa)))
          |.dic xs=>.next (U.set i (Ab (.dic xs,Aa)))
          | _=>.bad) else .bad) else .next (U.set i (Ab (d,Ae))))=_
        rw[hn];rfl
      |false=>
        refine SS.ref (WC (Ri (fr:=Ae) v hf.fn h1 h2 o (λz=>nomatch z))) λU=>?_
        have e0:evS Z U (.asg i Aa e)=O.of U (evE Z U e) (λd=>if Aa=Aa then (if DR Z e=Aa then (match d with
          |.lst xs=>.next (U.set i (Ab (.lst xs,Aa)))
          |.dic xs=>.next (U.set i (Ab (.dic xs,Aa)))
          | _=>.bad) else .bad) else .next (U.set i (Ab (d,Ae)))):=rfl
        rw[e0,hn];cases evE Z U e with
        |ok d=>exact .inl rfl
        |exn y=>exact .inr rfl
        |bad=>exact .inl rfl
  |asgT ts e=>
    replace h:=QC h;obtain⟨t,v0,pos,rfl,h⟩:=h;replace h:=NJ h;obtain⟨ys,cc,pw,rfl,h⟩:=h;simp only[Ap]at h;obtain⟨⟨⟨h1,h2⟩,h3⟩,h5⟩:=h;exact lY (ZR ts) (vF v hf.fn h1 h2) (E.e W T X _ e v h5).se (Vg (λ_ _ z=>by cases z)) (vB h3) rfl (iS ts)
  |expr e=>
    replace h:=US h;obtain⟨v0,pos,rfl,h⟩:=h;simp only[Ap]at h;exact lX (E.e W T X _ e v h.2).se (VC h.1)
  |ret e=>
    replace h:=kK h;obtain⟨o,pos,rfl,h⟩:=h;cases o with
    |none=>exact noF h
    |some v0=>
    replace h:Bs n T v0 e=Aa:=h;have o:=E.e W T X _ e v h;cases hv:DR Z e with
    |true=>
      refine SS.ref (lV (o.nw hv)) λU=>.inr ?_
      rw[Ub U e (λi z=>by subst z;cases hv),hv]
    |false=>
      cases e with
      |var i=>
        cases n with
        |zero=>exact noF h
        |succ n=>
          replace h:=Jn h;obtain⟨y,py,rfl,h⟩:=h;exact lR (JX v h)
      |_=>
        refine SS.ref (lU o.se) λU=>.inr ?_
        rw[Ub U _ (by intro i z;cases z),hv]
  |retN=>exact absurd (show Ae=Aa from h) AY
  |ife c a b=>
    replace h:=nX h;obtain⟨t,xs,ys,pos,rfl,h⟩:=h;simp only[Ap]at h;exact jd (E.b W T X _ c v h.1.1) (Z_.ss W T X _ a v hf h.1.2) (Z_.ss W T X _ b v hf h.2)
  |fors t it body=>
    replace h:=UR h;obtain⟨tg,it',xs,ys,pos,rfl,h⟩:=h;replace h:=FR h;obtain⟨hn,h⟩:=h;obtain rfl:=Lo hn;replace h:=Jn h;obtain⟨y,py,rfl,h⟩:=h;simp only[Ap]at h;obtain⟨⟨⟨h1,h2⟩,h3⟩,h4⟩:=h;exact WB v.own v.calm (qR t) (nJ v hf.fn h1) (E.i W T X Ae _ _ it v rfl h3) (Z_.ss W T X _ body v hf h4) (N7 h2) (λ_ _ _ z=>nomatch z)
  |forT ts it body=>
    replace h:=UR h;obtain⟨tg,it',xs,zs,pos,rfl,h⟩:=h;replace h:=FR h;obtain⟨hn,h⟩:=h;obtain rfl:=Lo hn;replace h:=NJ h;obtain⟨ys,cc,py,rfl,h⟩:=h;simp only[Ap]at h;obtain⟨⟨⟨⟨h0,h1⟩,h2⟩,h3⟩,h4⟩:=h;exact WB v.own v.calm (Wk ts) (nI v hf.fn h0 h1) (E.i W T X Aa _ _ it v rfl h3) (Z_.ss W T X _ body v hf h4) (N7 h2) (Tr ts)
  |whl c body=>exact absurd (show Ae=Aa from h) AY
  |rais c as=>
    replace h:(!(T.rzs.any λp=>p.2==c))=Aa:=h
    cases hc:T.rzs.any (λp=>p.2==c) with
    |false=>
      have hb:∀ ds,Z.xn c ds=.bad:=v.xt.xb c λp hp z=>by
        have:T.rzs.any (λp=>p.2==c)=Aa:=List.any_eq_true.mpr ⟨p,hp,BR.mpr z⟩
        rw[hc]at this;cases this
      intro Fz B pI s Y H D I ⟨U,x,p⟩;have p':CT X.K CL Fz B W (O.of U (noX (evA Z U as)) λxs=>O.of U (Z.xn c xs) λx=>.exn x U) D:=p
      cases e1:evA Z U as with
      |bad=>rw[e1]at p';exact p'.elim
      |exn y=>rw[e1]at p';exact p'.elim
      |ok ds=>
        rw[e1]at p';have p2:CT X.K CL Fz B W (O.of U (Z.xn c ds) λx=>.exn x U) D:=p'
        rw[hb ds]at p2;exact p2.elim
    |true=>rw[hc]at h;cases h
  |app i e=>
    replace h:=Qz h;obtain⟨x,px,m,ap,l,cp,pos,rfl,h2,h⟩:=h;replace h:=Hq h;obtain⟨v0,rfl,h⟩:=h;simp only[Ap,BR]at h;obtain⟨⟨⟨rfl,h1⟩,h3⟩,h4⟩:=h;exact uT (JX v h1) (E.e W T X _ e v h4).se rfl (by rw[CZ h3];rfl) (by rw[h2];exact EG _) (CZ h3) rfl
  |ext i e=>
    replace h:=Qz h;obtain⟨x,px,m,ap,l,cp,pos,rfl,h2,h⟩:=h;replace h:=Hq h;obtain⟨v0,rfl,h⟩:=h;simp only[Ap,BR]at h;rw[C9]at h;obtain⟨⟨⟨rfl,h1⟩,h3⟩,h5⟩:=h;rcases h5 with h5|h5
    · rw[Ap]at h5;obtain⟨h5,h4⟩:=h5;exact uS (JX v h1) ((E.e W T X _ e v h4).nw (rK Z h5)) rfl (by rw[CZ h3];rfl) (by rw[h2];exact EG _) (CZ h3) rfl
    · cases q:OE e with
      |none=>rw[q]at h5;cases h5
      |some a=>
        rw[q]at h5;have eq:=kW q;subst eq;have fe:(λU=>evS Z U (.ext i (.bi .list (.cons (.bin .Add a (.tup .nil)) .nil))))=λU=>O.of U (Dc U i) λxs=>O.of U (top U a (evE Z U a)) λx=>O.of U ((Dj .Add x (.tup [])).bind λy=>biD .list [y]) λd=>O.of U (LF d) λys=>if Do (xs.length+ys.length)=Aa then .next (U.set i (Ab (.lst (xs++ys),Aa))) else .bad:=funext λU=>by
          rw[rE];have e2:evE Z U (.bi .list (.cons (.bin .Add a (.tup .nil)) .nil))=(top U a (evE Z U a)).bind λx=>(Dj .Add x (.tup [])).bind λy=>biD .list [y]:=by
            simp only[Wm,evB,rH,nF,nE,rG,evA,R.bind_ok,R.bind_assoc]
          rw[e2];cases Dc U i with
          |ok xs=>
            rw[O.of_ok,O.of_ok];cases top U a (evE Z U a)<;>rfl
          |exn z=>rfl
          |bad=>rfl
        show SS X CL W _ (λU=>evS Z U (.ext i (.bi .list (.cons (.bin .Add a (.tup .nil)) .nil))))
        rw[fe];exact lW (JX v h1) (E.e W T X _ a v h5).st rfl (by rw[CZ h3];rfl) (by rw[h2];exact EG _) (CZ h3) rfl
  |rev i=>exact absurd (show Ae=Aa from h) AY
  |clr i=>exact absurd (show Ae=Aa from h) AY
  |put i k e=>
    replace h:=QC h;obtain⟨t,v0,pos,rfl,h⟩:=h;replace h:=Qy h;obtain⟨o,y,sp,rfl,h⟩:=h;replace h:=Jn h;obtain⟨x,p,rfl,h⟩:=h;simp only[Ap]at h;obtain⟨⟨⟨h1,h2⟩,h4⟩,h5⟩:=h;exact uQ (JX v h1) (E.e W T X _ k v h4).st (E.e W T X _ e v h5).se (λw=>by cases y<;>first|rfl|cases h2) (Vg (λ_ _ z=>by cases z)) rfl rfl
  |tryx body c x hh=>exact absurd (show Ae=Aa from h) AY
  |try2 body c x hd c' hd' els=>exact absurd (show Ae=Aa from h) AY
  |swp i k l=>exact absurd (show Ae=Aa from h) AY
  |apop j i e=>exact absurd (show Ae=Aa from h) AY
  |ins i k e=>
    replace h:=Qz h;obtain⟨x,p,m,ap,l,cp,pos,rfl,hl,h⟩:=h;replace h:=JV h;obtain⟨y,z,rfl,h⟩:=h;simp only[Ap,BR]at h;obtain⟨⟨⟨⟨⟨rfl,h1⟩,h2⟩,h3⟩,h4⟩,h5⟩:=h;exact uR (JX v h1) (E.e W T X _ k v h4).st (E.e W T X _ e v h5).se rfl (by rw[CZ h2,CZ h3];rfl) (by rw[hl];exact EG _) (CZ h2) (CZ h3) (by rw[CZ h3];rfl) rfl
  |dput=>exact noF h
  |dsd=>exact noF h
  |rel=>exact noF h
theorem kT{c:Ss}(h:OU c=Aa)(U:Rho):evSs Z U c=.bad:=by
 cases c with
 |nil=>cases h
 |cons s ss=>
  cases s with
  |expr e=>
   cases e with
   |bi b as=>
    cases as with
    |nil=>
     cases b with
     |len=>rfl
     |_=>exact noF h
    |cons=>cases b<;>exact noF h
   |_=>exact noF h
  |_=>exact noF h
theorem vK(Z_:SndS Z CL k n)(W:XW)(T:Tc)(X:Cx)(xs:Ac BA)(c:Ss)(v:VX Z CL k W T X)(hf:DefX X)(h:chkSs (n+1) T xs c=Aa):SSs X CL W xs (λU=>evSs Z U c):=by
 by_cases hb:OU c=Aa
 .exact λFz B pI s Y H D I ⟨U,x,p⟩=>by
   dsimp only at p;rw[kT hb]at p;exact p.elim
 have hb:OU c=Ae:=by simpa using hb
 cases c with
 |nil=>
  simp only[chkSs,hb,Gd,HL]at h;subst h;exact lP
 |cons s ss=>
  by_cases hr:∃ i,s=.rel i
  .obtain⟨i,rfl⟩:=hr;simp only[chkSs,hb,Gd]at h;exact nU i (Z_.ss W T X xs ss v hf h)
  .cases xs with
   |nil=>cases s<;>first|(simp[chkSs,hb]at h;done)|exact absurd ⟨_,rfl⟩ hr
   |cons st r=>
    have h':OT n T st s=Aa/\chkSs n T r ss=Aa:=by
     cases s<;>first|(simp only[chkSs,hb,Gd,Ap]at h;exact h)|exact absurd ⟨_,rfl⟩ hr
    exact iN (Z_.s W T X st s v hf h'.1) (Z_.ss W T X r ss v hf h'.2)
theorem Sf:∀ n,SndS Z CL k n
 |0=>⟨λ_ _ _ _ _ _ _ h=>noF h,λ_ _ _ _ _ _ _ h=>noF h⟩
 |n+1=>⟨j7 (Sf n),vK (Sf n)⟩
end
theorem Mo{n:Ag}{ds:Ac D}{i:Ag}{d:D}{o:Ak}(h:(Bo n ds)[i]?=Ab (Ab (d,o))):o=Ae/\ds[i]?=Ab d:=by
 unfold Bo at h;by_cases hi:i<ds.length
 .rw[FH (by simpa using hi),DS]at h
  cases e:ds[i]? with
  |none=>rw[e]at h;cases h
  |some x=>rw[e]at h;cases h;exact⟨rfl,rfl⟩
 .rw[XD (by simpa using Nat.le_of_not_lt hi),XF]at h
  split at h<;>cases h
theorem eY{N:Ac An}{i:Ag}{v:V}(h:vs[i]?=Ab v):(L2.start N vs)[i]?=Ab (Ab v):=by
 unfold L2.start;have hi:=(Be.mp h).1;rw[FH (by simpa using hi),DS,h]
 rfl
theorem iL{A:Am->Prop}{N:Ac An}{n:Ag}{ds:Ac D}(hn:N.length=n)(hA:AOk H A)(r:Reps K CL H A vs ds):Sx K CL (λb o=>H b=Ab o) A (Bo n ds) (L2.start N vs) H:=by
 have own:∀ a,CQ A (Bo n ds) (L2.start N vs) a->A a:=λa h=>by
  rcases h with h|⟨j,d,h,_⟩
  .exact h
  .exact absurd (Mo h).1 (by decide)
 have hlen:(Bo n ds).length=(L2.start N vs).length:=by
  unfold Bo L2.start;simp only[BU,AV,XI,r.length,hn]
 refine⟨⟨λi d h=>?_,λi d h=>absurd (Mo h).1 (by decide),hlen⟩,λa h=>hA a (own a h),λj d a h _=>absurd (Mo h).1 (by decide),λi j d e a h _ _ _=>absurd (Mo h).1 (by decide),λb o h=>h,hlen⟩
 obtain⟨v,h1,h2⟩:=r.get (Mo h).2;exact⟨v,eY h1,Rep.sub own _ h2⟩
structure FunX (K:Fg) (x qual:An) (st:BA) (f:Am) (fd:CA):Prop where
 ex:∃(oc:Ai)(od:Aq Am)(dV kV doc pm:Ai)(an:Aq Am)(cdv ct:Ai)(osl:A1 (Aq Ai)),
  fd=D8 x qual (Kt st) (HX st) (GS st) dV kV doc pm an cdv ct/\K.lookup f=Ab ⟨oc,od,.func fd,osl⟩/\FV K cdv qual=Aa
 kp:DG K (.ref f)=Aa
theorem W4{st:BA}{f:Am}(F:Fun K x qual st f fd):FunX K x qual st f fd:=by
 obtain⟨oc,od,kV,doc,pm,an,cdv,ct,osl,e,lk,hcd⟩:=F.ex;exact⟨⟨oc,od,.none,kV,doc,pm,an,cdv,ct,osl,e,lk,hcd⟩,F.kp⟩
def LU(K:Fg)(mg:An->Aq Ai)(fns:Ac (An×Ag×Ag))(bl:Ac An)(rzs exs gls:Ac (An×Ag))(Pg:Prg)(fuel:Ag)(p:An×Ag×Ag):Prop:=∃ f fd ps qual st N,mg p.1=Ab (.ref f)/\FunX K p.1 qual st f fd/\IG K fd ps []/\ps.length=p.2.2%1000/\Ik fuel (Ed 1000 p.2.2) fns bl rzs exs gls ps N st (Pg.defs p.2.1)=Aa
structure Tab (K:Fg) (mg:An->Aq Ai) (CL:ClA) (fns:Ac (An×Ag×Ag)) (bl:Ac An) (rzs exs gls:Ac (An×Ag)) (Pg:Prg) (fuel:Ag):Prop where
 xt:XT Pg.up Pg.xn CL rzs exs K mg
 bln:∀ x,x∈bl->mg x=Af
 gl:∀ p∈gls,O7 K mg CL p.1 (Pg.G p.2)
 fn:∀ p∈fns,LU K mg fns bl rzs exs gls Pg fuel p
theorem cw(Pg:Prg)(n i:Ag):(gam Pg n).fr i=(Pg.defs i).fr:=by cases n<;>rfl
theorem cv(Pg:Prg)(n:Ag):(gam Pg n).up=Pg.up:=by cases n<;>rfl
theorem ZT(Pg:Prg)(n:Ag):(gam Pg n).G=Pg.G:=by cases n<;>rfl
theorem cu(Pg:Prg)(n:Ag):(gam Pg n).xn=Pg.xn:=by cases n<;>rfl
section
variable{P:AU}{w:AH}{K:Fg}{mg:An->Aq Ai}{base:AM}{CL:ClA}{fns:Ac (An×Ag×Ag)}{bl:Ac An}{rzs exs gls:Ac (An×Ag)}{Pg:Prg}{fuel:Ag}
def Lvl(P:AU)(w:AH)(K:Fg)(mg:An->Aq Ai)(base:AM)(CL:ClA)(Pg:Prg)(n:Ag)(p:An×Ag×Ag):Prop:=∃ f fd ps,mg p.1=Ab (.ref f)/\DG K (.ref f)=Aa/\IG K fd ps []/\ps.length=p.2.2%1000/\(p.2.2<1000->FnOk P w K mg base (CXR P w) n f fd ps (spD K CL (p.2.2%1000) ((gam Pg n).fr p.2.1) ((gam Pg n).F p.2.1)))/\(1000<=p.2.2->HotOk P w K mg base n f fd ps (spH K CL (p.2.2%1000) ((gam Pg n).fr p.2.1) ((gam Pg n).F p.2.1)))
theorem Wt(t:Tab K mg CL fns bl rzs exs gls Pg fuel){n:Ag}(hlv:∀ q∈fns,Lvl P w K mg base CL Pg n q){st:BA}{f:Am}{ps N:Ac An}{m id:Ag}(h2:FunX K x qual st f fd)(h4:ps.length=m)(h5:Ik fuel Ae fns bl rzs exs gls ps N st (Pg.defs id)=Aa):FnOk P w K mg base (CXR P w) (n+1) f fd ps (spD K CL m ((gam Pg (n+1)).fr id) ((gam Pg (n+1)).F id)):=by
  unfold Ik at h5;simp only[Ap,BR,Cb,Fd,C9,KS,ne_eq]at h5;obtain⟨⟨⟨⟨⟨⟨⟨⟨c1,c2⟩,c3⟩,c4⟩,c5⟩,c6⟩,c7⟩,c8⟩,c9⟩:=h5;obtain⟨oc,od,dV,kV,doc,pm,an,cdv,ct,osl,rfl,lk,hcd⟩:=h2.ex;refine W8 (N:=N) lk hcd ⟨c1,c2,c3,Ny c4,c5,c6,c7⟩ (λvs H Q E ⟨ds,A,z,_⟩=>z.trans h4.symm) λA outer s H vs Q E hr ⟨ds,B,hl,hA,hreps,hpost⟩=>?_
  have xt:XT (gam Pg n).up (gam Pg n).xn CL rzs exs K mg:=by rw[cv,cu];exact t.xt
  have gl:∀ p∈gls,O7 K mg CL p.1 ((gam Pg n).G p.2):=by rw[ZT];exact t.gl
  have key:∀ W:XW,(∀ x cls dx H',W x H'->Ie K CL H' cls dx x->E cls dx H')->CT K CL (λb o=>H b=Ab o) B W (evSs (gam Pg n) (Bo (Pg.defs id).n ds) (Pg.defs id).body) {nx:=λ_ H'=>Q .non H',rt:=Q} ->
      ∃ t,PSs (G7 (CXR P w) P w K mg base N qual (GS st) f cdv A outer s H E) (HX st) t/\t {nx:=λ_ H'=>Q .non H',rt:=Q} (start N vs) H:=λW hW hp=>by
    have v:VX (gam Pg n) CL n W ⟨GS st,N,fns,bl,rzs,exs,gls⟩ (G7 (CXR P w) P w K mg base N qual (GS st) f cdv A outer s H E):=⟨rfl,c1,rfl,Ny c4,rfl,hr,t.bln,hlv,ownR,k9 hW,rzR hW,xt,gl⟩;exact⟨_,(Sf fuel).ss W _ _ _ (Pg.defs id).body v ⟨λ_=>rfl,rfl,rfl,rfl⟩ c9 (λb o=>H b=Ab o) B,_,iL c8 hA hreps,hp⟩
  have no:∀ x cls dx H',W0 x H'->Ie K CL H' cls dx x->E cls dx H':=λ_ _ _ _ z=>z.elim
  have e:(gam Pg (n+1)).F id ds=Hv Pg.xs ((evSs (gam Pg n) (Bo (Pg.defs id).n ds) (Pg.defs id).body).ans (Pg.defs id).fr):=rfl;rw[e,cw]at hpost;have cutO:∀ r:R D,(∀ x,r≠.exn x)->Hv Pg.xs r=r:=λr hr=>by
    cases Pg.xs<;>cases r<;>first|rfl|exact absurd rfl (hr _)
  cases eo:evSs (gam Pg n) (Bo (Pg.defs id).n ds) (Pg.defs id).body with
  |next U'=>
    refine key W0 no ?_;rw[eo]at hpost ⊢;cases ef:(Pg.defs id).fr with
    |true=>rw[ef]at hpost;rw[cutO _ (by intro x z;cases z)]at hpost;exact hpost.elim
    |false=>
      rw[ef]at hpost;rw[cutO _ (by intro x z;cases z)]at hpost
      exact λY' H' x'=>hpost .non H' (λb o z=>x'.same b o z) ⟨rfl,λz=>nomatch z⟩
  |ret d b=>
    refine key W0 no ?_;rw[eo]at hpost ⊢;intro v H' sm rp fr;have hp2:(match Hv Pg.xs (if ((Pg.defs id).fr&&(!b&&isL d))=Aa then R.bad else R.ok d) with
      |.ok d=>∀ v H',AN H H'->Fb K CL (Pg.defs id).fr H B H' v d->Q v H'
      |.exn x=>∀ cls dx H',AN H H'->Ie K CL H' cls dx x->E cls dx H'
      | .bad=>BF):=hpost
    cases ec:((Pg.defs id).fr&&(!b&&isL d)) with
    |true=>rw[ec,AO rfl,cutO _ (by intro x z;cases z)]at hp2;exact hp2.elim
    |false=>
      rw[ec,AW (by decide),cutO _ (by intro x z;cases z)]at hp2
      refine hp2 v H' sm ⟨rp,λefr es hd=>?_⟩
      subst hd;have eb:b=Aa:=by
        cases b with
        |true=>rfl
        |false=>rw[efr]at ec;cases ec
      obtain⟨a,xs,h1,h2,h3,h4⟩:=fr eb es rfl;refine⟨a,xs,h1,?_,h3,h4⟩;cases ha:H a with
      |none=>rfl
      |some o=>exact absurd ha (h2 o)
  |brk U'=>rw[eo]at hpost;have hp2:(match Hv Pg.xs (R.bad:R D) with | .ok _=>_ | .exn _=>_ | .bad=>BF):=hpost;rw[cutO _ (by intro x z;cases z)]at hp2;exact hp2.elim
  |cont U'=>rw[eo]at hpost;have hp2:(match Hv Pg.xs (R.bad:R D) with | .ok _=>_ | .exn _=>_ | .bad=>BF):=hpost;rw[cutO _ (by intro x z;cases z)]at hp2;exact hp2.elim
  |bad=>rw[eo]at hpost;have hp2:(match Hv Pg.xs (R.bad:R D) with | .ok _=>_ | .exn _=>_ | .bad=>BF):=hpost;rw[cutO _ (by intro x z;cases z)]at hp2;exact hp2.elim
  |exn x U'=>
    rw[eo]at hpost;have hp2:(match Hv Pg.xs (R.exn x:R D) with
      |.ok d=>∀ v H',AN H H'->Fb K CL (Pg.defs id).fr H B H' v d->Q v H'
      |.exn x=>∀ cls dx H',AN H H'->Ie K CL H' cls dx x->E cls dx H'
      | .bad=>BF):=hpost
    cases ex:Pg.xs with
    |false=>rw[ex]at hp2;exact hp2.elim
    |true=>
      rw[ex]at hp2;have hp3:∀ cls dx H',AN H H'->Ie K CL H' cls dx x->E cls dx H':=hp2;refine key (λy H'=>y=x/\AN H H') (λy cls dx H' ⟨e1,sm⟩ xr=>?_) ?_
      · subst e1;exact hp3 cls dx H' sm xr
      · rw[eo];exact λH' sm=>⟨rfl,sm⟩
theorem cm(t:Tab K mg CL fns bl rzs exs gls Pg fuel){n:Ag}(hlv:∀ q∈fns,Lvl P w K mg base CL Pg n q){st:BA}{f:Am}{ps N:Ac An}{m id:Ag}(h2:FunX K x qual st f fd)(h4:ps.length=m)(h5:Ik fuel Aa fns bl rzs exs gls ps N st (Pg.defs id)=Aa):HotOk P w K mg base (n+1) f fd ps (spH K CL m ((gam Pg (n+1)).fr id) ((gam Pg (n+1)).F id)):=by
 exfalso
 unfold Ik at h5;simp[WX]at h5
theorem Rg(t:Tab K mg CL fns bl rzs exs gls Pg fuel):∀ n,∀ p∈fns,Lvl P w K mg base CL Pg n p
 |0,p,hp=>by
  obtain⟨f,fd,ps,qual,st,N,h1,h2,h3,h4,h5⟩:=t.fn p hp;exact⟨f,fd,ps,h1,h2.kp,h3,h4,λ_=>⟨λvs H Q E ⟨ds,A,_,_,_,z⟩=>z.elim,λA outer s H args us vs Q E _ _ _ _ ⟨ds,A,_,_,_,z⟩=>z.elim⟩,λ_=>⟨λvs H Q E ⟨ds,A,_,_,_,z⟩=>z.elim,λA ev outer s H args us vs Q E _ _ _ _ ⟨ds,A,_,_,_,z⟩=>z.elim⟩⟩
 |n+1,p,hp=>by
  obtain⟨f,fd,ps,qual,st,N,h1,h2,h3,h4,h5⟩:=t.fn p hp;refine⟨f,fd,ps,h1,h2.kp,h3,h4,λhlt=>?_,λhge=>?_⟩
  .have eb:Ed 1000 p.2.2=Ae:=by
    cases e:Ed 1000 p.2.2 with
    |false=>rfl
    |true=>exact absurd (Ee e) (by omega)
   rw[eb]at h5;exact Wt t (λq hq=>Rg t n q hq) h2 h4 h5
  .rw[E4 hge]at h5;exact cm t (λq hq=>Rg t n q hq) h2 h4 h5
theorem b8{s s':As}{e:Ai}(h:CXR P w [] H s (λ_ _ _=>BF) e s'):BF:=by
 obtain⟨_,_,_,_,_,_,_,_,_,_,_,_,_,_,_,z⟩:=h;exact z
theorem ZW{c:Ag}(h:∀ ds,xn c ds=.bad\/xn c ds=.ok ⟨c,[]⟩)(e:LH K C Af=Aa)(ds:Ac D):xn c ds=.bad\/(xn c ds=.ok ⟨c,[]⟩/\LH K C Af=Aa)\/BF:=(h ds).imp id λz=>.inl ⟨z,e⟩
theorem jj(dc:MY K C=Aa)(h1:C2 K (.ref C) "triple" = Ab Af)(h2:C2 K (.ref C) "points" = Ab Af)(f:An)(h:(f==("triple" : An)||f==("points" : An))=Aa):MY K C=Aa/\C2 K (.ref C) f=Ab Af:=by
 rw[C9]at h;rcases h with h|h
 .rw[eq_of_beq h];exact⟨dc,h1⟩
 .rw[eq_of_beq h];exact⟨dc,h2⟩
theorem mX{up:Ag->Ac Ag}(h:∀ c ds,xn c ds=.bad):XT up xn (λ_=>Af) [] [] K mg:=⟨λ_ _ z=>(nomatch z),λ_ z=>(nomatch z),λ_ z=>(nomatch z),λc _ ds z=>.inl (h c ds),λ_ _ z=>(nomatch z),λc _ ds=>h c ds⟩
structure XA (K:Fg) (c:An) (x:Am) (i:Aq Ai):Prop where
 n:BZ K Bg c=Ab (Ab (.ref x))
 y:LH K x i=Aa
 dc:MY K x=Aa
 ft:C2 K (.ref x) "triple" = Ab Af
 fp:C2 K (.ref x) "points" = Ab Af
 ok:XcOk K x
structure XR (K:Fg) (mg:An->Aq Ai) (xn:Ag->Ac D->R Ex) (p:Ag×Am):Prop where
 ok:XcOk K p.2
 nf:∀ f:An,(f==("triple" : An)||f==("points" : An))=Aa->MY K p.2=Aa/\C2 K (.ref p.2) f=Ab Af
 md:∀ ds,xn p.1 ds=.bad\/(xn p.1 ds=.ok ⟨p.1,[]⟩/\LH K p.2 Af=Aa)\/BF
theorem XA.row{c:An}{x:Am}(a:XA K c x Af)(h:∀ ds,xn k ds=.bad\/xn k ds=.ok ⟨k,[]⟩):XR K mg xn (k,x):=⟨a.ok,jj a.dc a.ft a.fp,ZW h a.y⟩
def MU(K:Fg):Sp:=λvs H Q _=>∃(a:Am)(ns:Ac Ad),vs=[.ref a]/\ns.length<=63/\SqL K H a (ns.map V.int)/\∀ v H',v=V.bl Aa->Q v H'
theorem law_fn{f:Am}{F:Ac D->R D}(G:FnOk P w K mg base CX k f fd ps (spD K CL 1 Ae F))(h:∀ ns:Ac Ad,F [.lst (ns.map .int)]=.ok (.bl Aa)):FnOk P w K mg base CX k f fd ps (MU K):=G.imp λvs H Q E ⟨a,ns,e,hl,hS,q⟩=>by
 subst e;have rs:∀ l:Ac Ad,Reps K CL H A0 (l.map V.int) (l.map D.int):=λl=>by
  induction l with
  |nil=>trivial
  |cons x l ih=>exact⟨rfl,ih⟩
 refine⟨[.lst (ns.map .int)],A0,rfl,λ_ z=>z.elim,⟨⟨a,_,rfl,.inl (λz=>z),hS,rs ns⟩,trivial⟩,?_⟩
 rw[h ns];exact λv H' _ r=>q v H' r.1
theorem rZ{f:Am}{F:Ac D->R D}(G:FnOk P w K mg base CX k f fd ps (spD K CL 1 Ae F))(h:∀ ns:Ac Ad,ns.length<=63->F [.lst (ns.map .int)]=.ok (.bl Aa)):FnOk P w K mg base CX k f fd ps (MU K):=G.imp λvs H Q E ⟨a,ns,e,hl,hS,q⟩=>by
 subst e;have rs:∀ l:Ac Ad,Reps K CL H A0 (l.map V.int) (l.map D.int):=λl=>by
  induction l with
  |nil=>trivial
  |cons x l ih=>exact⟨rfl,ih⟩
 refine⟨[.lst (ns.map .int)],A0,rfl,λ_ z=>z.elim,⟨⟨a,_,rfl,.inl (λz=>z),hS,rs ns⟩,trivial⟩,?_⟩
 rw[h ns hl];exact λv H' _ r=>q v H' r.1
theorem QT{Q:α->Prop}:∀ x∈([]:Ac α),Q x:=λ_ h=>nomatch h
theorem all_cons{Q:α->Prop}{a:α}{l:Ac α}(h1:Q a)(h2:∀ x∈l,Q x):∀ x∈a::l,Q x:=List.forall_mem_cons.2 ⟨h1,h2⟩
def FnI(K:Fg)(f:Am)(n:An)(st:BA):Prop:=∃ fd,Fun K n n st f fd/\BZ K Bg n=Ab (Ab (.ref f))
theorem fni{n:An}{st:BA}{f:Am}{oc:Ai}{od an:Aq Am}{osl:A1 (Aq Ai)}{kV doc pm cdv ct:Ai}(a:BZ K Bg n=Ab (Ab (.ref f)))(l:K.lookup f=Ab ⟨oc,od,.func (D8 n n (Kt st) (HX st) (GS st) .none kV doc pm an cdv ct),osl⟩)(c:FV K cdv n=Aa)(k:DG K (.ref f)=Aa):FnI K f n st:=⟨_,cx l c k,a⟩
def Bd(n:An)(st:BA)(ps:Ac An)(us:Ac Ai):Prop:=∀(kV doc pm:Ai)(an:Aq Am)(cdv ct:Ai),L5 (D8 n n (Kt st) (HX st) (GS st) .none kV doc pm an cdv ct) ⟨us,[]⟩=pure (ps.zip us)
theorem Og{n:An}{f:Am}{st:BA}{ps N:Ac An}(m id:Ag)(X:K.In h)(G:h.Ns Bg mg)(A:FnI K f n st)(hl:ps.length=m%1000)(hc:Ik fuel (Ed 1000 m) fns bl rzs exs gls ps N st (Pg.defs id)=Aa)(hb:∀ us:Ac Ai,us.length=ps.length->Bd n st ps us):LU K mg fns bl rzs exs gls Pg fuel (n,id,m):=by
 obtain⟨fd,F,a⟩:=A;exact⟨_,_,_,_,_,_,JC X G a,W4 F,F.binds λkV doc pm an cdv ct us hu=>hb us hu kV doc pm an cdv ct,hl,hc⟩
theorem OJ{l:Ac α}(h:l.length=0):l=[]:=List.eq_nil_of_length_eq_zero h
theorem IK{l:Ac α}{n:Ag}(h:l.length=n+1):∃ a r,l=a::r/\r.length=n:=by
 cases l with
 |nil=>cases h
 |cons a r=>exact⟨a,r,rfl,HM h⟩
theorem KF{n:An}{f:Am}{st:BA}{N:Ac An}(m id:Ag)(X:K.In h)(G:h.Ns Bg mg)(A:FnI K f n st)(hl:1=m%1000)(hc:Ik fuel (Ed 1000 m) fns bl rzs exs gls [x0] N st (Pg.defs id)=Aa)(hb:∀ u0,Bd n st [x0] [u0]):LU K mg fns bl rzs exs gls Pg fuel (n,id,m):=
 Og (ps:=[x0]) m id X G A hl hc λus hu=>by obtain⟨u0,v0,rfl,h0⟩:=IK hu;obtain rfl:=OJ h0;exact hb u0
theorem DW{n:An}{f:Am}{st:BA}{N:Ac An}(m id:Ag)(X:K.In h)(G:h.Ns Bg mg)(A:FnI K f n st)(hl:2=m%1000)(hc:Ik fuel (Ed 1000 m) fns bl rzs exs gls [x0,x1] N st (Pg.defs id)=Aa)(hb:∀ u0 u1,Bd n st [x0,x1] [u0,u1]):LU K mg fns bl rzs exs gls Pg fuel (n,id,m):=
 Og (ps:=[x0,x1]) m id X G A hl hc λus hu=>by obtain⟨u0,v0,rfl,h0⟩:=IK hu;obtain⟨u1,v1,rfl,h1⟩:=IK h0;obtain rfl:=OJ h1;exact hb u0 u1
theorem EO{n:An}{f:Am}{st:BA}{N:Ac An}{x2:An}(m id:Ag)(X:K.In h)(G:h.Ns Bg mg)(A:FnI K f n st)(hl:3=m%1000)(hc:Ik fuel (Ed 1000 m) fns bl rzs exs gls [x0,x1,x2] N st (Pg.defs id)=Aa)(hb:∀ u0 u1 u2,Bd n st [x0,x1,x2] [u0,u1,u2]):LU K mg fns bl rzs exs gls Pg fuel (n,id,m):=
 Og (ps:=[x0,x1,x2]) m id X G A hl hc λus hu=>by obtain⟨u0,v0,rfl,h0⟩:=IK hu;obtain⟨u1,v1,rfl,h1⟩:=IK h0;obtain⟨u2,v2,rfl,h2⟩:=IK h1;obtain rfl:=OJ h2;exact hb u0 u1 u2
theorem ON{n:An}{f:Am}{st:BA}{N:Ac An}{x2 x3:An}(m id:Ag)(X:K.In h)(G:h.Ns Bg mg)(A:FnI K f n st)(hl:4=m%1000)(hc:Ik fuel (Ed 1000 m) fns bl rzs exs gls [x0,x1,x2,x3] N st (Pg.defs id)=Aa)(hb:∀ u0 u1 u2 u3,Bd n st [x0,x1,x2,x3] [u0,u1,u2,u3]):LU K mg fns bl rzs exs gls Pg fuel (n,id,m):=
 Og (ps:=[x0,x1,x2,x3]) m id X G A hl hc λus hu=>by obtain⟨u0,v0,rfl,h0⟩:=IK hu;obtain⟨u1,v1,rfl,h1⟩:=IK h0;obtain⟨u2,v2,rfl,h2⟩:=IK h1;obtain⟨u3,v3,rfl,h3⟩:=IK h2;obtain rfl:=OJ h3;exact hb u0 u1 u2 u3
end
end Ov
namespace OvC
open PySem Ov
variable{p t k v m at_ N:Ad}{xs ns:Ac Ad}{n i j:Ag}{Z:Gam}{Y_ T d X PP:D}{s3 s4 s5:Sl}{RL L:Ac D}{U:Rho}{α:Type}
noncomputable def Qu:Df:=⟨4,Ae,(.cons (.ret (.call 1 (.cons (.var 0) (.cons (.bin .Add (.bin .Sub (.bin .Mult (.idx (.var 1) (.int 0)) (.bin .Sub (.bin .Mult (.idx (.var 2) (.int 1)) (.idx (.var 3) (.int 2))) (.bin .Mult (.idx (.var 2) (.int 2)) (.idx (.var 3) (.int 1))))) (.bin .Mult (.idx (.var 1) (.int 1)) (.bin .Sub (.bin .Mult (.idx (.var 2) (.int 0)) (.idx (.var 3) (.int 2))) (.bin .Mult (.idx (.var 2) (.int 2)) (.idx (.var 3) (.int 0)))))) (.bin .Mult (.idx (.var 1) (.int 2)) (.bin .Sub (.bin .Mult (.idx (.var 2) (.int 0)) (.idx (.var 3) (.int 1))) (.bin .Mult (.idx (.var 2) (.int 1)) (.idx (.var 3) (.int 0)))))) .nil)))) .nil)⟩
noncomputable abbrev tr(a b c:Ad):D:=.tup [.int a,.int b,.int c]
noncomputable def det(a0 a1 a2 b0 b1 b2 c0 c1 c2:Ad):Ad:=a0*(b1*c2-b2*c1)-a1*(b0*c2-b2*c0)+a2*(b0*c1-b1*c0)
def Sm(x:Ad):Prop:=0<=x/\x<11
theorem mo{x:Ad}(h:Sm x)(y:Ad):DQ x y=Aa:=G4 (by have:=h.1;omega) (by have:=h.2;omega)
theorem Sm.of(h:P4 p)(x:Ad):Sm (x%p):=⟨AJ _ (by have:=h.pos;omega),by have:=AF x h.pos;have:=h.hi;omega⟩
theorem Tl{body:D->Rho->O}(I:Rho->Prop)(g:Ad->Ak):∀(L:Ac Ad),(∀ t∈L,∀ U,I U->(g t=Aa/\body (.int t) U=.ret (.int t) Ae)\/(g t=Ae/\∃ U',body (.int t) U=.next U'/\I U'))->∀ U,I U->(∃ t∈L,g t=Aa/\Cq body (L.map D.int) U=.ret (.int t) Ae)\/((∀ t∈L,g t=Ae)/\∃ U',Cq body (L.map D.int) U=.next U'/\I U')
 |[],_,U,i=>.inr ⟨(λ_ h=>nomatch h),U,rfl,i⟩
 |m::L,h,U,i=>by
  rcases h m (Ax ..) U i with ⟨e1,e2⟩|⟨e1,U',e2,i'⟩
  .refine .inl ⟨m,Ax ..,e1,?_⟩;show (body (.int m) U).turn _=_;rw[e2];rfl
  .rcases Tl I g L (λm' h'=>h m' (At _ h')) U' i' with ⟨t,ht,a,b⟩|⟨a,r,b,c⟩
   .refine .inl ⟨t,At _ ht,a,?_⟩;show (body (.int m) U).turn _=_;rw[e2];exact b
   .refine .inr ⟨λt ht=>?_,r,?_,c⟩
    .rcases Av.mp ht with rfl|ht
     .exact e1
     .exact a t ht
    .show (body (.int m) U).turn _=_;rw[e2];exact b
noncomputable def KW:Ss:=(.cons (.ife (.cmp .Eq (.call 1 (.cons (.var 0) (.cons (.bin .Mult (.var 1) (.var 2)) .nil))) (.int 1)) (.cons (.ret (.var 2)) .nil) .nil) .nil)
noncomputable def Nm:Df:=⟨3,Ae,(.cons (.fors 2 (.rng2 (.int 1) (.var 0)) KW) (.cons (.rais 2 (.cons (.str (Az "a number with the rest 0 is not turned over")) .nil)) .nil))⟩
noncomputable def GV(p:Ad):Ac Ad:=(AT (p-1).toNat).map fun(k:Ag)=>1+(k:Ad)
theorem Lf:t∈GV p↔1<=t/\t<p:=by
 unfold GV;rw[Bb];constructor
 .rintro⟨k,hk,rfl⟩;have:=A3.mp hk;omega
 .rintro⟨h1,h2⟩;exact⟨(t-1).toNat,A3.mpr (by omega),by omega⟩
theorem UM(h:P4 p):CI 1 p=.ok ((GV p).map D.int):=by
 rcases h with rfl|rfl|rfl|rfl<;>rfl
theorem qO:∀ p:Fin 12,(p.val=3\/p.val=5\/p.val=7\/p.val=11)->∀ r:Fin 12,r.val<p.val->r.val≠0->∃ t:Fin 12,1<=t.val/\t.val<p.val/\r.val*t.val%p.val=1:=by decide+kernel
theorem GU{n:Ad}(h:P4 p)(hn:n%p≠0):∃ t,1<=t/\t<p/\n*t%p=1:=by
 have p0:0<p/\p<12:=by rcases h with rfl|rfl|rfl|rfl<;>decide
 obtain⟨q,rfl⟩:∃ q:Ag,p=q:=⟨p.toNat,by omega⟩
 have h0:=AJ n (b:=(q:Ad)) (by omega)
 have h1:=AF n p0.1;obtain⟨r,hr⟩:∃ r:Ag,n%(q:Ad)=r:=⟨(n%(q:Ad)).toNat,by omega⟩
 obtain⟨t,t1,t2,t3⟩:=qO ⟨q,by omega⟩ (by rcases h with e|e|e|e<;>simp<;>omega) ⟨r,by omega⟩ (by show r<q;omega) (by show r≠0;omega)
 refine⟨(t.val:Ad),by omega,by show (t.val:Ad)<q;exact Int.ofNat_lt.mpr t2,?_⟩
 have e:((r*t.val%q:Ag):Ad)=1:=by rw[show r*t.val%q=1 from t3];rfl
 rw[<-e,Int.natCast_emod,Int.natCast_mul,<-hr];exact(Bm n _ _).trans (by rw[Bm (n%(q:Ad)) (t.val:Ad) (q:Ad),AS n (Bu _)])
def D9(p n t:Ad):Prop:=1<=t/\t<p/\n*t%p=1
theorem T9{n u:Ad}(h1:D9 p n t)(h2:D9 p n u):t=u:=by
 have hp:1<p:=by have:=h1.1;have:=h1.2.1;omega
 have e:t%p=u%p:=by
  have a:t%p=t*(n*u)%p:=by rw[Bm,h2.2.2,DJ,AS _ (Bu p)]
  have b:u%p=(n*t)*u%p:=by rw[Bm (n*t) u p,h1.2.2,CS,AS _ (Bu p)]
  rw[a,b]
  congr 1
  rw[<-Ge,BS t n]
 rw[AG (by have:=h1.1;omega) h1.2.1,AG (by have:=h2.1;omega) h2.2.1]at e
 exact e
theorem BL{c x:Ad}(hp:P4 p)(hc:c%p≠0)(hx:x%p≠0):c*x%p≠0:=λz=>by
 obtain⟨t,_,_,e⟩:=GU hp hc;refine hx ?_;have e1:x%p=(c*t)*x%p:=by rw[Bm (c*t) x p,e,CS,AS _ (Bu p)]
 rw[e1,show c*t*x=t*(c*x) by rw[BS c t,Ge],Bm,z,CP,Bv]
noncomputable def AX(p:Ad):Ac Ad->Aq Ad
 |[]=>Af
 |x::xs=>if x%p=0 then AX p xs else Ab (x%p)
theorem Jo{p:Ad}:∀{xs:Ac Ad},AX p xs=Af↔∀ x∈xs,x%p=0
 |[]=>by simp[AX]
 |x::xs=>by
  unfold AX;by_cases h:x%p=0
  .rw[AO h,Jo (xs:=xs)];simp[h]
  .rw[AW h];simp[h]
theorem IA{p l:Ad}(hp:0<p):∀{xs:Ac Ad},AX p xs=Ab l->l%p≠0/\0<l/\l<p
 |[],h=>by cases h
 |x::xs,h=>by
  unfold AX at h;by_cases hx:x%p=0
  .rw[AO hx]at h;exact IA hp h
  .rw[AW hx]at h;cases h;have h0:=AJ x (b:=p) (by omega)
   have h1:=AF x hp;exact⟨by rw[AS _ (Bu p)];exact hx,by omega,h1⟩
theorem JW{p c:Ad}(hp:P4 p)(hc:c%p≠0){f:Ad->Ad}(hf:∀ x,f x%p=c*x%p):∀ xs:Ac Ad,AX p (xs.map f)=(AX p xs).map λl=>c*l%p
 |[]=>rfl
 |x::xs=>by
  rw[Bq];unfold AX;rw[hf x];by_cases hx:x%p=0
  .rw[AO hx,AO (by rw[Bm,hx,CP,Bv]),JW hp hc hf xs]
  .rw[AW hx,AW (BL hp hc hx),Ef]
   congr 1
   rw[Bm c (x%p),AS _ (Bu p),<-Bm]
noncomputable def ds(xs:Ac Ad):Ac D:=xs.map D.int
noncomputable def Ds(b:Ak)(xs:Ac Ad):D:=if b=Aa then .tup (ds xs) else .lst (ds xs)
theorem Qj(b xs):Ch (Ds b xs)=.ok (ds xs):=by unfold Ds;cases b<;>rfl
theorem Kq{g:D->R Ak}{f:D->R D}{φ:Ad->Ad}:∀(xs:Ac Ad),(∀ x∈xs,g (.int x)=.ok Aa/\f (.int x)=.ok (.int (φ x)))->BK g f (ds xs)=.ok (ds (xs.map φ))
 |[],_=>rfl
 |x::xs,h=>by
  obtain⟨h1,h2⟩:=h x (Ax ..);show (g (.int x)).bind _=_;rw[h1,R.bind_ok,AO rfl,h2,R.bind_ok];show (BK g f (ds xs)).bind _=_;rw[Kq xs λy hy=>h y (At _ hy)]
  rfl
noncomputable def B7:E:=(.bl Aa)
noncomputable def Pz:E:=(.call 1 (.cons (.var 0) (.cons (.var 5) .nil)))
noncomputable def Py:E:=(.call 1 (.cons (.var 0) (.cons (.bin .Mult (.var 4) (.var 6)) .nil)))
noncomputable def HS:Ss:=(.cons (.ife (.cmp .NotEq (.var 3) (.int 0)) (.cons (.asg 4 Ae (.call 9 (.cons (.var 0) (.cons (.var 3) .nil)))) (.cons (.ret (.bi .tuple (.cons (.comp Py 6 (.e (.var 2)) B7) .nil))) .nil)) .nil) .nil)
noncomputable def NE:Df:=⟨7,Ae,(.cons (.asg 2 Ae (.comp Pz 5 (.e (.var 1)) B7)) (.cons (.fors 3 (.e (.var 2)) HS) (.cons (.rais 3 (.cons (.str (Az "all the numbers have the rest 0")) .nil)) .nil)))⟩
noncomputable def fmI(p t:Ad)(xs:Ac Ad):Ac Ad:=xs.map λx=>t*(x%p)%p
section
variable{Z:Gam}{p:Ad}{xs:Ac Ad}{b:Ak}
end
theorem Nj{g:D->R Ak}{f:D->R D}{q:Ad->Ak}:∀(xs:Ac Ad),(∀ x∈xs,g (.int x)=.ok (q x)/\f (.int x)=.ok (.int x))->BK g f (ds xs)=.ok (ds (xs.filter q))
 |[],_=>rfl
 |x::xs,h=>by
  obtain⟨h1,h2⟩:=h x (Ax ..);have ih:=Nj xs λy hy=>h y (At _ hy)
  show (g (.int x)).bind _=_;rw[h1,R.bind_ok];cases hq:q x with
  |true=>
   rw[AO rfl,h2,R.bind_ok,Ey,hq,AO rfl];show (BK g f (ds xs)).bind _=_;rw[ih];rfl
  |false=>
   rw[AW (by decide),Ey,hq,AW (by decide)]
   exact ih
theorem S7{p:Ad}(hp:0<p):∀(xs:Ac Ad),((xs.map λx=>x%p).filter λr=>decide (0<r)).head?=AX p xs
 |[]=>rfl
 |x::xs=>by
  have h0:=AJ x (b:=p) (by omega)
  unfold AX;rw[Bq,Ey];by_cases h:x%p=0
  .rw[AO h,AW (by simp[h]),S7 hp xs]
  .rw[AW h,AO (by simp;omega)]
   rfl
theorem fL{p l t:Ad}(it:D9 p l t):((GV p).filter λk=>decide (k*l%p=1)).head?=Ab t:=by
 have hm:t∈(GV p).filter λk=>decide (k*l%p=1):=Cr.mpr ⟨Lf.mpr ⟨it.1,it.2.1⟩,by simp[BS t l,it.2.2]⟩
 cases e:(GV p).filter λk=>decide (k*l%p=1) with
 |nil=>rw[e]at hm;cases hm
 |cons u us=>
  have hu:u∈(GV p).filter λk=>decide (k*l%p=1):=by rw[e];exact Ax ..
  obtain⟨h1,h2⟩:=Cr.mp hu;obtain⟨a,b⟩:=Lf.mp h1;have h3:u*l%p=1:=by simpa using h2
  rw[T9 it ⟨a,b,by rw[BS];exact h3⟩]
  rfl
theorem P6{l:Ad}(h:xs.head?=Ab l):DA (ds xs) 0=.ok (.int l):=by
 cases xs with
 |nil=>cases h
 |cons x xs=>cases h;exact QE (by omega) rfl
theorem Wo:∀ xs:Ac Ad,eqDs (ds xs) (ds xs)=Aa
 |[]=>rfl
 |x::xs=>by
  show (eqD (.int x) (.int x)&&eqDs (ds xs) (ds xs))=Aa;rw[Wo xs];simp
theorem UJ:∀ xs:Ac Ad,FD (xs.map λ_=>D.bl Aa)=.ok Aa
 |[]=>rfl
 |x::xs=>by
  rw[Bq,Qk,UJ xs];rfl
theorem VD{g:D->R Ak}{f:D->R D}:∀(xs:Ac Ad),(∀ x∈xs,g (.int x)=.ok Aa/\f (.int x)=.ok (.bl Aa))->BK g f (ds xs)=.ok (xs.map λ_=>D.bl Aa)
 |[],_=>rfl
 |x::xs,h=>by
  obtain⟨h1,h2⟩:=h x (Ax ..);show (g (.int x)).bind _=_;rw[h1,R.bind_ok,AO rfl,h2,R.bind_ok];show (BK g f (ds xs)).bind _=_;rw[VD xs λy hy=>h y (At _ hy)]
  rfl
noncomputable abbrev own(xs:Ac Ad):Sl:=Ab (.lst (ds xs),Aa)
section
variable{Z:Gam}{ns:Ac Ad}{a1 a2 a4 a6 a7 a8 a9 b0 b1 b2 b3 b4:Sl}{p:Ad}
end
theorem jM{p c l t:Ad}(hp:P4 p)(hc:c%p≠0)(hl:l%p≠0)(it:D9 p l t){f:Ad->Ad}(hf:∀ x,f x%p=c*x%p)(xs:Ac Ad):∃ u,D9 p (c*l%p) u/\fmI p u (xs.map f)=fmI p t xs:=by
 have h1:(c*l%p)%p≠0:=by rw[AS _ (Bu p)];exact BL hp hc hl
 obtain⟨u,u1,u2,u3⟩:=GU hp h1;refine⟨u,⟨u1,u2,u3⟩,?_⟩;unfold fmI;rw[DL];refine DZ λx _=>?_
 show u*(f x%p)%p=t*(x%p)%p;have u4:c*l*u%p=1:=by rw[<-u3,Bm (c*l%p) u p,AS _ (Bu p),<-Bm]
 have e1:u*(f x%p)%p=u*(c*x)%p:=by rw[hf,Bm u (c*x%p) p,AS _ (Bu p),<-Bm]
 have e2:t*(x%p)%p=t*x%p:=by rw[Bm t (x%p) p,AS _ (Bu p),<-Bm]
 have e3:u*(c*x)%p=(l*t)*(u*(c*x))%p:=by rw[Bm (l*t) _ p,it.2.2,CS,AS _ (Bu p)]
 have e4:t*x%p=(c*l*u)*(t*x)%p:=by rw[Bm (c*l*u) _ p,u4,CS,AS _ (Bu p)]
 rw[e1,e2,e3,e4]
 congr 1
 grind
section
variable{Z:Gam}{ns:Ac Ad}{a1 a4 a6 a7 a8 a9 b2 b3 b4:Sl}{p m:Ad}{xs:Ac Ad}
end
def Cg(p x y:Ad):Prop:=x%p=y%p
section
variable{p a b c d:Ad}
theorem Cg.rfl:Cg p a a:=Eq.refl _
theorem Cg.of(h:a=b):Cg p a b:=by unfold Cg;rw[h]
theorem Cg.trans{a b c:Ad}(h:Cg p a b)(g:Cg p b c):Cg p a c:=IZ h g
theorem Cg.symm(h:Cg p a b):Cg p b a:=M5 h
theorem Cg.add(h:Cg p a b)(g:Cg p c d):Cg p (a+c) (b+d):=by unfold Cg at *;rw[Xk,h,g,<-Xk]
theorem Cg.sub(h:Cg p a b)(g:Cg p c d):Cg p (a-c) (b-d):=by unfold Cg at *;rw[Xr,h,g,<-Xr]
theorem Cg.mul(h:Cg p a b)(g:Cg p c d):Cg p (a*c) (b*d):=by unfold Cg at *;rw[Bm,h,g,<-Bm]
theorem Cg.md(h:a=b%p):Cg p a b:=by unfold Cg;rw[h,AS _ (Bu p)]
end
theorem Jq{p a0 a1 a2 b0 b1 b2 c0 c1 c2 x0 x1 x2 y0 y1 y2 z0 z1 z2:Ad}(h0:Cg p a0 x0)(h1:Cg p a1 x1)(h2:Cg p a2 x2)(h3:Cg p b0 y0)(h4:Cg p b1 y1)(h5:Cg p b2 y2)(h6:Cg p c0 z0)(h7:Cg p c1 z1)(h8:Cg p c2 z2):Cg p (a0*(b1*c2-b2*c1)-a1*(b0*c2-b2*c0)+a2*(b0*c1-b1*c0)) (x0*(y1*z2-y2*z1)-x1*(y0*z2-y2*z0)+x2*(y0*z1-y1*z0)):=
 ((h0.mul ((h4.mul h8).sub (h5.mul h7))).sub (h1.mul ((h3.mul h8).sub (h5.mul h6)))).add (h2.mul ((h3.mul h7).sub (h4.mul h6)))
theorem P4.m1(h:P4 p):(-1:Ad)%p≠0:=by rcases h with rfl|rfl|rfl|rfl<;>decide
theorem P4.o1(h:P4 p):(1:Ad)%p≠0:=by rcases h with rfl|rfl|rfl|rfl<;>decide
abbrev R3:=Ad×Ad×Ad
variable{a y' x y r g f0 f1 f2 f3:R3}{pts:Ac R3}
noncomputable def Ea(a:R3):D:=.lst [.int a.1,.int a.2.1,.int a.2.2]
noncomputable def Al(a b c:R3):Ad:=det a.1 a.2.1 a.2.2 b.1 b.2.1 b.2.2 c.1 c.2.1 c.2.2
def In3(p:Ad)(a:R3):Prop:=(0<=a.1/\a.1<p)/\(0<=a.2.1/\a.2.1<p)/\(0<=a.2.2/\a.2.2<p)
structure GoodR (p:Ad) (a b c:R3):Prop where
 p4:P4 p
 ia:In3 p a
 ib:In3 p b
 ic:In3 p c
 nz:Al a b c%p≠0
theorem GoodR.of{a b c a' b' c':R3}(h:GoodR p a b c)(hk:k%p≠0)(e:Cg p (Al a' b' c') (k*Al a b c))(hin:In3 p a'/\In3 p b'/\In3 p c'):GoodR p a' b' c':=⟨h.p4,hin.1,hin.2.1,hin.2.2,by rw[show Al a' b' c'%p=_ from e];exact BL h.p4 hk h.nz⟩
noncomputable def OZ(t:Ad)(a:R3):R3:=(a.1*t,a.2.1*t,a.2.2*t)
noncomputable def G8(t:Ad)(a b:R3):R3:=(a.1+t*b.1,a.2.1+t*b.2.1,a.2.2+t*b.2.2)
noncomputable def mdR(p:Ad)(a:R3):R3:=(a.1%p,a.2.1%p,a.2.2%p)
noncomputable def scR(p t:Ad)(a:R3):R3:=mdR p (OZ t a)
noncomputable def adR(p t:Ad)(a b:R3):R3:=mdR p (G8 t a b)
theorem MT(h:0<p)(a:R3):In3 p (mdR p a):=⟨⟨AJ _ (by omega),AF _ h⟩,⟨AJ _ (by omega),AF _ h⟩,⟨AJ _ (by omega),AF _ h⟩⟩
theorem gv(h:0<p)(t:Ad)(a:R3):In3 p (scR p t a):=MT h _
theorem LG(h:0<p)(t:Ad)(a b:R3):In3 p (adR p t a b):=MT h _
theorem cA(p t:Ad)(a b c:R3):Cg p (Al (scR p t a) b c) (t*Al a b c):=by
 refine Cg.trans (b:=Al (OZ t a) b c) ?_ (Cg.of (by unfold Al det OZ;grind))
 unfold Al det;exact Jq (Cg.md (by rfl)) (Cg.md (by rfl)) (Cg.md (by rfl)) Cg.rfl Cg.rfl Cg.rfl Cg.rfl Cg.rfl Cg.rfl
theorem aK(p t:Ad)(a b c:R3):Cg p (Al (adR p t a b) b c) (1*Al a b c):=by
 refine Cg.trans (b:=Al (G8 t a b) b c) ?_ (Cg.of (by unfold Al det G8;grind))
 unfold Al det;exact Jq (Cg.md (by rfl)) (Cg.md (by rfl)) (Cg.md (by rfl)) Cg.rfl Cg.rfl Cg.rfl Cg.rfl Cg.rfl Cg.rfl
theorem aJ(p t:Ad)(a b c:R3):Cg p (Al (adR p t a c) b c) (1*Al a b c):=by
 refine Cg.trans (b:=Al (G8 t a c) b c) ?_ (Cg.of (by unfold Al det G8;grind))
 unfold Al det;exact Jq (Cg.md (by rfl)) (Cg.md (by rfl)) (Cg.md (by rfl)) Cg.rfl Cg.rfl Cg.rfl Cg.rfl Cg.rfl Cg.rfl
theorem aI(p t:Ad)(a b c:R3):Cg p (Al a (adR p t b a) c) (1*Al a b c):=by
 refine Cg.trans (b:=Al a (G8 t b a) c) ?_ (Cg.of (by unfold Al det G8;grind))
 unfold Al det;exact Jq Cg.rfl Cg.rfl Cg.rfl (Cg.md (by rfl)) (Cg.md (by rfl)) (Cg.md (by rfl)) Cg.rfl Cg.rfl Cg.rfl
theorem aH(p t:Ad)(a b c:R3):Cg p (Al a (adR p t b c) c) (1*Al a b c):=by
 refine Cg.trans (b:=Al a (G8 t b c) c) ?_ (Cg.of (by unfold Al det G8;grind))
 unfold Al det;exact Jq Cg.rfl Cg.rfl Cg.rfl (Cg.md (by rfl)) (Cg.md (by rfl)) (Cg.md (by rfl)) Cg.rfl Cg.rfl Cg.rfl
theorem aG(p t:Ad)(a b c:R3):Cg p (Al a b (adR p t c a)) (1*Al a b c):=by
 refine Cg.trans (b:=Al a b (G8 t c a)) ?_ (Cg.of (by unfold Al det G8;grind))
 unfold Al det;exact Jq Cg.rfl Cg.rfl Cg.rfl Cg.rfl Cg.rfl Cg.rfl (Cg.md (by rfl)) (Cg.md (by rfl)) (Cg.md (by rfl))
theorem aF(p t:Ad)(a b c:R3):Cg p (Al a b (adR p t c b)) (1*Al a b c):=by
 refine Cg.trans (b:=Al a b (G8 t c b)) ?_ (Cg.of (by unfold Al det G8;grind))
 unfold Al det;exact Jq Cg.rfl Cg.rfl Cg.rfl Cg.rfl Cg.rfl Cg.rfl (Cg.md (by rfl)) (Cg.md (by rfl)) (Cg.md (by rfl))/-! ### draws -/
theorem qV(h0:0<=k)(h1:k<ns.length):DA (ns.map D.int) k=.ok (.int (ns.getD k.toNat 0)):=QE h0 (by
 have:k.toNat<ns.length:=by omega
 simp[this])
noncomputable abbrev ownR(a b c:R3):Sl:=Ab (.lst [Ea a,Ea b,Ea c],Aa)
section
variable{Z:Gam}{ns:Ac Ad}{at_ many s5 s0 s1 s2:Sl}{p t m:Ad}{a b c:R3}
end
section
variable{Z:Gam}{ns:Ac Ad}{many s5 s6 s7 s8 s9 s0 s1 s2:Sl}{p:Ad}{a b c:R3}
end
noncomputable def Fm(a b c:R3):D:=.lst [Ea a,Ea b,Ea c]
noncomputable def Pe:E:=(.bin .Mod (.var 5) (.var 0))
noncomputable def Po:E:=(.cmp .Gt (.var 6) (.int 0))
noncomputable def KY:E:=(.var 6)
noncomputable def Pl:E:=(.cmp .Eq (.bin .Mod (.bin .Mult (.var 7) (.var 3)) (.var 0)) (.int 1))
noncomputable def Pd:E:=(.var 7)
noncomputable def Pc:E:=(.bin .Mod (.bin .Mult (.var 8) (.var 4)) (.var 0))
noncomputable def PB:Df:=⟨9,Ae,(.cons (.asg 2 Ae (.comp Pe 5 (.e (.var 1)) B7)) (.cons (.asg 3 Ae (.idx (.comp KY 6 (.e (.var 2)) Po) (.int 0))) (.cons (.asg 4 Ae (.idx (.comp Pd 7 (.rng2 (.int 1) (.var 0)) Pl) (.int 0))) (.cons (.ret (.bi .tuple (.cons (.comp Pc 8 (.e (.var 2)) B7) .nil))) .nil))))⟩
theorem pS(Z:Gam){b:Ak}{l t:Ad}(hp:P4 p)(e:AX p xs=Ab l)(it:D9 p l t):PB.run Z [.int p,Ds b xs]=.ok (.tup (ds (fmI p t xs))):=by
 have p0:=hp.pos;have ph:=hp.hi;have c1:BK (cG Z [si p,sh (Ds b xs),Af,Af,Af,Af,Af,Af,Af] 5 B7) (cF Z [si p,sh (Ds b xs),Af,Af,Af,Af,Af,Af,Af] 5 Pe) (ds xs)=.ok (ds (xs.map λx=>x%p)):=by
  refine Kq xs λx _=>⟨rfl,?_⟩
  simp[cF,Pe,p0]
 generalize hR:(xs.map λx=>x%p)=rs at c1
 have c2:BK (cG Z [si p,sh (Ds b xs),sh (.lst (ds rs)),Af,Af,Af,Af,Af,Af] 6 Po) (cF Z [si p,sh (Ds b xs),sh (.lst (ds rs)),Af,Af,Af,Af,Af,Af] 6 KY) (ds rs)=.ok (ds (rs.filter λr=>decide (0<r))):=by
  refine Nj rs λx _=>⟨?_,?_⟩
  .simp[cG,Po]
  .simp[cF,KY]
 have hl:=S7 p0 xs;rw[hR,e]at hl;generalize hL:(rs.filter λr=>decide (0<r))=ls at c2 hl
 have g0:=P6 hl;obtain⟨_,l0,l1⟩:=IA p0 e;have c3:BK (cG Z [si p,sh (Ds b xs),sh (.lst (ds rs)),si l,Af,Af,Af,Af,Af] 7 Pl) (cF Z [si p,sh (Ds b xs),sh (.lst (ds rs)),si l,Af,Af,Af,Af,Af] 7 Pd) (ds (GV p))=.ok (ds ((GV p).filter λk=>decide (k*l%p=1))):=by
  refine Nj (GV p) λx hx=>⟨?_,?_⟩
  .obtain⟨x1,x2⟩:=Lf.mp hx;have m:DQ x l=Aa:=G4 (by omega) (by omega)
   simp[cG,Pl,m,p0];rw[C8];simp
  .simp[cF,Pd]
 have g1:=P6 (fL it);have c4:BK (cG Z [si p,sh (Ds b xs),sh (.lst (ds rs)),si l,si t,Af,Af,Af,Af] 8 B7) (cF Z [si p,sh (Ds b xs),sh (.lst (ds rs)),si l,si t,Af,Af,Af,Af] 8 Pc) (ds rs)=.ok (ds (rs.map λr=>t*r%p)):=by
  refine Kq rs λx _=>⟨rfl,?_⟩
  have m:DQ x t=Aa:=NT (by have:=it.1;omega) (by have:=it.2.1;omega)
  simp[cF,Pc,m,p0,BS]
 have ru:CI 1 p=.ok (ds (GV p)):=UM hp;have fe:fmI p t xs=rs.map λr=>t*r%p:=by rw[<-hR];simp[fmI,DL,Hx]
 simp[PB,Df.run,Bo,Qj,c1,c2,g0,ru,c3,g1,c4,fe]
noncomputable def nine(a b c:R3):Ac Ad:=[a.1,a.2.1,a.2.2,b.1,b.2.1,b.2.2,c.1,c.2.1,c.2.2]
noncomputable def trR(a:R3):D:=.tup [.int a.1,.int a.2.1,.int a.2.2]
noncomputable def Co(a b c:R3):D:=.tup [trR a,trR b,trR c]
noncomputable def fmR(p t:Ad)(a:R3):R3:=(t*(a.1%p)%p,t*(a.2.1%p)%p,t*(a.2.2%p)%p)
theorem Vt(p t:Ad)(a b c:R3):fmI p t (nine a b c)=nine (fmR p t a) (fmR p t b) (fmR p t c):=rfl
theorem MB{a b c:R3}(h:Al a b c%p≠0):∃ l,AX p (nine a b c)=Ab l:=by
 cases e:AX p (nine a b c) with
 |some l=>exact⟨l,rfl⟩
 |none=>
  refine absurd ?_ h;have z:=Jo.mp e;have q:∀ x∈nine a b c,Cg p x 0:=λx hx=>by
   have:=z x hx;show x%p=0%p;rw[this];simp
  have:=Jq (p:=p) (q a.1 (by simp[nine])) (q a.2.1 (by simp[nine])) (q a.2.2 (by simp[nine])) (q b.1 (by simp[nine])) (q b.2.1 (by simp[nine])) (q b.2.2 (by simp[nine])) (q c.1 (by simp[nine])) (q c.2.1 (by simp[nine])) (q c.2.2 (by simp[nine]))
  have e2:Al a b c%p=(0*(0*0-0*0)-0*(0*0-0*0)+0*(0*0-0*0))%p:=this;rw[e2];simp
theorem cB(a b c:R3):slD (.tup (ds (nine a b c))) Af (Ab 3)=.ok (trR a)/\slD (.tup (ds (nine a b c))) (Ab 3) (Ab 6)=.ok (trR b)/\slD (.tup (ds (nine a b c))) (Ab 6) Af=.ok (trR c):=⟨rfl,rfl,rfl⟩
theorem kY(a b c:R3):Dj .Add (Ea a) (Ea b)=.ok (.lst [.int a.1,.int a.2.1,.int a.2.2,.int b.1,.int b.2.1,.int b.2.2])/\Dj .Add (.lst [.int a.1,.int a.2.1,.int a.2.2,.int b.1,.int b.2.1,.int b.2.2]) (Ea c)=.ok (.lst (ds (nine a b c))):=⟨rfl,rfl⟩
def Bd(n:Ag)(x:Ad):Prop:=x.natAbs<2 ^ n
theorem Bd.mul{m:Ag}{x y:Ad}(h:Bd m x)(g:Bd n y):Bd (m+n) (x*y):=by
 unfold Bd at *;rw[Int.natAbs_mul,Nat.pow_add];exact Nat.mul_lt_mul'' h g
theorem Bd.sub{x y:Ad}(h:Bd n x)(g:Bd n y):Bd (n+1) (x-y):=by
 unfold Bd at *;rw[X4];omega
theorem F3{m:Ag}{x y:Ad}(h:Bd m x)(g:Bd n y)(hm:m<=2000)(hn:n<=2000):EM x y=Aa:=by
 unfold EM Bd at *;rw[Ap,Bh,Bh];exact⟨AK h (Et (by decide) hm),AK g (Et (by decide) hn)⟩
def B3(a:R3):Prop:=Bd 300 a.1/\Bd 300 a.2.1/\Bd 300 a.2.2
noncomputable def Aj(q:Ak)(a:R3):D:=Ds q [a.1,a.2.1,a.2.2]
theorem Fk(q:Ak)(a:R3):B8 (Aj q a) (.int 0)=.ok (.int a.1)/\B8 (Aj q a) (.int 1)=.ok (.int a.2.1)/\B8 (Aj q a) (.int 2)=.ok (.int a.2.2):=by cases q<;>exact⟨rfl,rfl,rfl⟩
def Ho(Z:Gam):Prop:=∀(p:Ad)(q:Ak)(a b c:R3),0<p->B3 a->B3 b->B3 c->Z.F 61 [.int p,Aj q a,Aj q b,Aj q c]=.ok (.int (Al a b c%p))
theorem pM(h:H9 Z)(p:Ad)(q:Ak)(a b c:R3)(hp:0<p)(ha:B3 a)(hb:B3 b)(hc:B3 c):Qu.run Z [.int p,Aj q a,Aj q b,Aj q c]=.ok (.int (Al a b c%p)):=by
 obtain⟨a0,a1,a2⟩:=Fk q a;obtain⟨b0,b1,b2⟩:=Fk q b;obtain⟨c0,c1,c2⟩:=Fk q c;have k:∀ {x y},Bd 300 x->Bd 300 y->EM x y=Aa:=λhx hy=>F3 hx hy (by decide) (by decide)
 have k2:∀ {x y z u v},Bd 300 x->Bd 300 y->Bd 300 z->Bd 300 u->Bd 300 v->EM x (y*z-u*v)=Aa:=λhx hy hz hu hv=>F3 hx ((hy.mul hz).sub (hu.mul hv)) (by decide) (by decide)
 simp[Qu,Df.run,Bo,a0,a1,a2,b0,b1,b2,c0,c1,c2,k hb.2.1 hc.2.2,k hb.2.2 hc.2.1,k hb.1 hc.2.2,k hb.2.2 hc.1,k hb.1 hc.2.1,k hb.2.1 hc.1,k2 ha.1 hb.2.1 hc.2.2 hb.2.2 hc.2.1,k2 ha.2.1 hb.1 hc.2.2 hb.2.2 hc.1,k2 ha.2.2 hb.1 hc.2.1 hb.2.1 hc.1,h p _ hp];rfl
noncomputable def Qh:Df:=⟨3,Ae,(.cons (.ife (.cmp .Eq (.call 61 (.cons (.var 0) (.cons (.idx (.var 1) (.int 0)) (.cons (.idx (.var 1) (.int 1)) (.cons (.idx (.var 1) (.int 2)) .nil))))) (.int 0)) (.cons (.rais 4 (.cons (.str (Az "the measure of the rows is 0")) .nil)) .nil) .nil) (.cons (.asg 2 Ae (.call 17 (.cons (.var 0) (.cons (.bin .Add (.bin .Add (.bi .list (.cons (.idx (.var 1) (.int 0)) .nil)) (.bi .list (.cons (.idx (.var 1) (.int 1)) .nil))) (.bi .list (.cons (.idx (.var 1) (.int 2)) .nil))) .nil)))) (.cons (.ret (.tup (.cons (.sl (.var 2) .non (.int 3)) (.cons (.sl (.var 2) (.int 3) (.int 6)) (.cons (.sl (.var 2) (.int 6) .non) .nil))))) .nil)))⟩
theorem yX(q:Ak)(a:R3):biD .list [Aj q a]=.ok (Ea a):=by cases q<;>rfl
section
variable{Z:Gam}{ns:Ac Ad}{p t:Ad}{a b c r:R3}{made s6 s7:Sl}
end
theorem K8{p:Ad}:∀{xs ys:Ac Ad},xs.map (λx=>x%p)=ys.map (λx=>x%p)->AX p xs=AX p ys
 |[],[],_=>rfl
 |x::xs,y::ys,h=>by
  rw[Bq,Bq,Ip]at h;unfold AX;rw[h.1,K8 h.2]
 |[],_::_,h=>by simp at h
 |_::_,[],h=>by simp at h
theorem QF{ys:Ac Ad}(h:xs.map (λx=>x%p)=ys.map (λx=>x%p)):fmI p t xs=fmI p t ys:=by
 have e:∀ zs:Ac Ad,fmI p t zs=(zs.map λx=>x%p).map λr=>t*r%p:=λzs=>by simp[fmI,DL,Hx]
 rw[e,e,h]
theorem jK{a b c a' b' c':R3}(h:nine a b c=nine a' b' c'):a=a'/\b=b'/\c=c':=by
 unfold nine at h;simp only[Ip,KJ]at h;obtain⟨h1,h2,h3,h4,h5,h6,h7,h8,h9⟩:=h;exact⟨Bp h1 (Bp h2 h3),Bp h4 (Bp h5 h6),Bp h7 (Bp h8 h9)⟩
theorem F5(hp:0<p)(t:Ad)(a:R3):In3 p (fmR p t a):=⟨⟨AJ _ (by omega),AF _ hp⟩,⟨AJ _ (by omega),AF _ hp⟩,⟨AJ _ (by omega),AF _ hp⟩⟩
section
variable{Z:Gam}{ns:Ac Ad}{p m:Ad}{a b c:R3}{fa fb fc:R3}{q:Ak}{s9 s0 s1 s2:Sl}
end
def Qx(Z:Gam):Prop:=∀ p n:Ad,P4 p->n%p≠0->∃ t,1<=t/\t<p/\n*t%p=1/\Z.F 9 [.int p,.int n]=.ok (.int t)
def NZ(Z:Gam):Prop:=∀(p:Ad)(b:Ak)(xs:Ac Ad)(l t:Ad),P4 p->AX p xs=Ab l->D9 p l t->Z.F 17 [.int p,Ds b xs]=.ok (.tup (ds (fmI p t xs)))
theorem fG(hr:H9 Z)(p n:Ad)(hp:P4 p)(z:n%p≠0):∃ t,1<=t/\t<p/\n*t%p=1/\Nm.run Z [.int p,.int n]=.ok (.int t):=by
 have p0:=hp.pos;have ph:=hp.hi;have body:∀ t∈GV p,∀ U,(∃ s,U=[si p,si n,s])->(decide (n*t%p=1)=Aa/\Bi Z 2 KW (.int t) U=.ret (.int t) Ae)\/(decide (n*t%p=1)=Ae/\∃ U',Bi Z 2 KW (.int t) U=.next U'/\∃ s,U'=[si p,si n,s]):=by
  rintro t ht U ⟨s,rfl⟩;obtain⟨t1,t2⟩:=Lf.mp ht;have m:DQ n t=Aa:=NT (by omega) (by omega)
  by_cases e:n*t%p=1
  .exact .inl ⟨by simp[e],by simp[Bi,KW,hr p (n*t) p0,m,e,DR]⟩
  .exact .inr ⟨by simp[e],_,by simp[Bi,KW,hr p (n*t) p0,m,e];rfl,_,rfl⟩
 have run:∀ o,Cq (Bi Z 2 KW) ((GV p).map D.int) [si p,si n,Af]=o->Nm.run Z [.int p,.int n]=(F8 Z (.cons (.rais 2 (.cons (.str (Az "a number with the rest 0 is not turned over")) .nil)) .nil) o).ans Ae:=by
  rintro o rfl;simp[Nm,Df.run,Bo,UM hp]
 rcases Tl (λU=>∃ s,U=[si p,si n,s]) (λt=>decide (n*t%p=1)) (GV p) body [si p,si n,Af] ⟨_,rfl⟩ with ⟨t,ht,a,b⟩|⟨a,r,b,s,rfl⟩
 .obtain⟨t1,t2⟩:=Lf.mp ht;have a':n*t%p=1:=by simpa using a
  exact⟨t,t1,t2,a',by rw[run _ b];rfl⟩
 .obtain⟨t,t1,t2,e⟩:=GU hp z;have:=a t (Lf.mpr ⟨t1,t2⟩);simp[e]at this
section
variable{Z:Gam}{p:Ad}{xs:Ac Ad}{b:Ak}
theorem UU(hr:H9 Z)(ht:Qx Z)(hp:P4 p)(rs:Ac Ad):∀(ys:Ac Ad),(∀ y∈ys,0<=y/\y<p)->∀ s3,(AX p ys=Af->∃ s3',Cq (Bi Z 3 HS) (ds ys) [si p,sh (Ds b xs),sh (.lst (ds rs)),s3,Af,Af,Af]=.next [si p,sh (Ds b xs),sh (.lst (ds rs)),s3',Af,Af,Af])/\(∀ l t,AX p ys=Ab l->D9 p l t->Cq (Bi Z 3 HS) (ds ys) [si p,sh (Ds b xs),sh (.lst (ds rs)),s3,Af,Af,Af]=.ret (.tup (ds (rs.map λr=>t*r%p))) Ae)
 |[],_,s3=>⟨λ_=>⟨s3,rfl⟩,(λl t h=>nomatch h)⟩
 |y::ys,hy,s3=>by
  obtain⟨y0,y1⟩:=hy y (Ax ..);have ym:y%p=y:=AG y0 y1;have ih:=UU hr ht hp rs ys (λz hz=>hy z (At _ hz)) (si y)
  have step:∀ o,Bi Z 3 HS (.int y) [si p,sh (Ds b xs),sh (.lst (ds rs)),s3,Af,Af,Af]=o->Cq (Bi Z 3 HS) (ds (y::ys)) [si p,sh (Ds b xs),sh (.lst (ds rs)),s3,Af,Af,Af]=o.turn (Cq (Bi Z 3 HS) (ds ys)):=by
   rintro o rfl;rfl
  unfold AX;rw[ym];by_cases hz:y=0
  .have e:Bi Z 3 HS (.int y) [si p,sh (Ds b xs),sh (.lst (ds rs)),s3,Af,Af,Af]=.next [si p,sh (Ds b xs),sh (.lst (ds rs)),si y,Af,Af,Af]:=by
    simp[Bi,HS,hz]
   rw[AO hz,step _ e];exact ih
  .rw[AW hz];refine⟨(λz=>nomatch z),λl t e it=>?_⟩
   cases e;obtain⟨u,u1,u2,u3,u4⟩:=ht p y hp (by rw[ym];exact hz)
   have:t=u:=T9 it ⟨u1,u2,u3⟩;subst this;have p0:=hp.pos;have ph:=hp.hi;have cp:BK (cG Z [si p,sh (Ds b xs),sh (.lst (ds rs)),si y,si t,Af,Af] 6 B7) (cF Z [si p,sh (Ds b xs),sh (.lst (ds rs)),si y,si t,Af,Af] 6 Py) (ds rs)=.ok (ds (rs.map λr=>t*r%p)):=by
    refine Kq rs λr _=>⟨rfl,?_⟩
    have m:DQ t r=Aa:=G4 (by omega) (by omega)
    simp[cF,Py,m,hr p (t*r) p0]
   have e:Bi Z 3 HS (.int y) [si p,sh (Ds b xs),sh (.lst (ds rs)),s3,Af,Af,Af]=.ret (.tup (ds (rs.map λr=>t*r%p))) Ae:=by
    simp[Bi,HS,hz,u4,cp,DR]
   rw[step _ e];rfl
theorem pR(hr:H9 Z)(ht:Qx Z)(hp:P4 p){l t:Ad}(e:AX p xs=Ab l)(it:D9 p l t):NE.run Z [.int p,Ds b xs]=.ok (.tup (ds (fmI p t xs))):=by
 have p0:=hp.pos;have cp:BK (cG Z [si p,sh (Ds b xs),Af,Af,Af,Af,Af] 5 B7) (cF Z [si p,sh (Ds b xs),Af,Af,Af,Af,Af] 5 Pz) (ds xs)=.ok (ds (xs.map λx=>x%p)):=by
  refine Kq xs λx _=>⟨rfl,?_⟩
  simp[cF,Pz,hr p x p0]
 have run:∀ o,Cq (Bi Z 3 HS) (ds (xs.map λx=>x%p)) [si p,sh (Ds b xs),sh (.lst (ds (xs.map λx=>x%p))),Af,Af,Af,Af]=o->NE.run Z [.int p,Ds b xs]=(F8 Z (.cons (.rais 3 (.cons (.str (Az "all the numbers have the rest 0")) .nil)) .nil) o).ans Ae:=by
  rintro o rfl;simp[NE,Df.run,Bo,Qj,cp]
 have le:AX p (xs.map λx=>x%p)=AX p xs:=by
  have:=JW (c:=1) hp (by rcases hp with rfl|rfl|rfl|rfl<;>decide) (f:=λx=>x%p) (λx=>by rw[CS,AS _ (Bu p)]) xs
  rw[this];cases e:AX p xs with
  |none=>rfl
  |some l=>
   obtain⟨_,l0,l1⟩:=IA p0 e;simp[AG (Int.le_of_lt l0) l1]
 obtain⟨a,c⟩:=UU (b:=b) (xs:=xs) hr ht hp (xs.map λx=>x%p) (xs.map λx=>x%p) (λy hy=>by
  obtain⟨x,_,rfl⟩:=Bb.mp hy;exact⟨AJ _ (by omega),AF _ p0⟩) Af
 rw[le]at a c;rw[run _ (c l t e it)];simp[fmI,DL,Hx]
end
noncomputable def Db(t q:Ak)(a b c:R3):D:=if t=Aa then .tup [Aj q a,Aj q b,Aj q c] else .lst [Aj q a,Aj q b,Aj q c]
theorem O1(t q:Ak)(a b c:R3):B8 (Db t q a b c) (.int 0)=.ok (Aj q a)/\B8 (Db t q a b c) (.int 1)=.ok (Aj q b)/\B8 (Db t q a b c) (.int 2)=.ok (Aj q c):=by cases t<;>exact⟨rfl,rfl,rfl⟩
theorem N6(q:Ak)(a:R3):Ch (Aj q a)=.ok [.int a.1,.int a.2.1,.int a.2.2]:=by cases q<;>rfl
theorem Sq(t q:Ak)(a b c:R3):Ch (Db t q a b c)=.ok [Aj q a,Aj q b,Aj q c]:=by cases t<;>rfl
noncomputable def BD(a b c:R3):R3:=(a.1,b.1,c.1)
noncomputable def Bx(a b c:R3):R3:=(a.2.1,b.2.1,c.2.1)
noncomputable def Bz(a b c:R3):R3:=(a.2.2,b.2.2,c.2.2)
noncomputable def Qw:Df:=⟨1,Ae,(.cons (.ret (.tupI (.zip3 (.idx (.var 0) (.int 0)) (.idx (.var 0) (.int 1)) (.idx (.var 0) (.int 2))))) .nil)⟩
def MQ(Z:Gam):Prop:=∀(t q:Ak)(a b c:R3),Z.F 104 [Db t q a b c]=.ok (Db Aa Aa (BD a b c) (Bx a b c) (Bz a b c))
theorem zA(Z:Gam)(t q:Ak)(a b c:R3):Qw.run Z [Db t q a b c]=.ok (Db Aa Aa (BD a b c) (Bx a b c) (Bz a b c)):=by
 obtain⟨r0,r1,r2⟩:=O1 t q a b c;have z:Lx (Aj q a) (Aj q b) (Aj q c)=.ok [Aj Aa (BD a b c),Aj Aa (Bx a b c),Aj Aa (Bz a b c)]:=by
  unfold Lx;rw[N6,N6,N6];rfl
 simp[Qw,Df.run,Bo,r0,r1,r2,z];rfl
noncomputable def Ay(a x:R3):Ad:=a.1*x.1+a.2.1*x.2.1+a.2.2*x.2.2
noncomputable def Nr:E:=(.call 1 (.cons (.var 0) (.cons (.bin .Add (.bin .Add (.bin .Mult (.idx (.var 3) (.int 0)) (.idx (.var 2) (.int 0))) (.bin .Mult (.idx (.var 3) (.int 1)) (.idx (.var 2) (.int 1)))) (.bin .Mult (.idx (.var 3) (.int 2)) (.idx (.var 2) (.int 2)))) .nil)))
noncomputable def Qt:Df:=⟨4,Ae,(.cons (.ret (.bi .tuple (.cons (.comp Nr 3 (.e (.var 1)) B7) .nil))) .nil)⟩
def RA(Z:Gam):Prop:=∀(p:Ad)(t q q':Ak)(a b c x:R3),0<p->B3 a->B3 b->B3 c->B3 x->Z.F 91 [.int p,Db t q a b c,Aj q' x]=.ok (Aj Aa (Ay a x%p,Ay b x%p,Ay c x%p))
theorem vT(h:H9 Z)(p:Ad)(t q q':Ak)(a b c x:R3)(hp:0<p)(ha:B3 a)(hb:B3 b)(hc:B3 c)(hx:B3 x):Qt.run Z [.int p,Db t q a b c,Aj q' x]=.ok (Aj Aa (Ay a x%p,Ay b x%p,Ay c x%p)):=by
 obtain⟨x0,x1,x2⟩:=Fk q' x;have k:∀ {u v},Bd 300 u->Bd 300 v->EM u v=Aa:=λhu hv=>F3 hu hv (by decide) (by decide)
 have key:∀ r:R3,B3 r->cF Z [si p,sh (Db t q a b c),sh (Aj q' x),Af] 3 Nr (Aj q r)=.ok (.int (Ay r x%p)):=λr hr=>by
  obtain⟨y0,y1,y2⟩:=Fk q r;simp[cF,Nr,x0,x1,x2,y0,y1,y2,k hr.1 hx.1,k hr.2.1 hx.2.1,k hr.2.2 hx.2.2,h p _ hp];rfl
 have g:∀ r,cG Z [si p,sh (Db t q a b c),sh (Aj q' x),Af] 3 B7 r=.ok Aa:=λ_=>rfl
 have cp:BK (cG Z [si p,sh (Db t q a b c),sh (Aj q' x),Af] 3 B7) (cF Z [si p,sh (Db t q a b c),sh (Aj q' x),Af] 3 Nr) [Aj q a,Aj q b,Aj q c]=.ok [.int (Ay a x%p),.int (Ay b x%p),.int (Ay c x%p)]:=by
  simp[BK,g,key a ha,key b hb,key c hc]
 simp[Qt,Df.run,Bo,Sq,cp];rfl
noncomputable def crs(a b:R3):R3:=(a.2.1*b.2.2-a.2.2*b.2.1,a.2.2*b.1-a.1*b.2.2,a.1*b.2.1-a.2.1*b.1)
theorem Vz:∀ xs ys:Ac Ad,eqDs (ds xs) (ds ys)=decide (xs=ys)
 |[],[]=>rfl
 |[],_::_=>rfl
 |_::_,[]=>rfl
 |x::xs,y::ys=>by
  show ((x==y)&&eqDs (ds xs) (ds ys))=_;rw[Vz xs ys,C8];simp
theorem Kv(a b:R3):eqD (Aj Aa a) (Aj Aa b)=decide (a=b):=by
 show eqDs (ds [a.1,a.2.1,a.2.2]) (ds [b.1,b.2.1,b.2.2])=_;rw[Vz,C8];simp only[Ip,KJ,Bh];exact⟨λ⟨h1,h2,h3⟩=>by obtain⟨a1,a2,a3⟩:=a;obtain⟨b1,b2,b3⟩:=b;simp at h1 h2 h3;rw[h1,h2,h3],λh=>by rw[h];exact⟨rfl,rfl,rfl⟩⟩
def VY(Z:Gam):Prop:=∀ a b:R3,B3 a->B3 b->a≠b->Z.F 23 [Aj Aa a,Aj Aa b]=.ok (Aj Aa (crs a b))
noncomputable def Pw:Df:=⟨1,Ae,(.cons (.ret (.tup (.cons (.call 23 (.cons (.idx (.var 0) (.int 1)) (.cons (.idx (.var 0) (.int 2)) .nil))) (.cons (.call 23 (.cons (.idx (.var 0) (.int 2)) (.cons (.idx (.var 0) (.int 0)) .nil))) (.cons (.call 23 (.cons (.idx (.var 0) (.int 0)) (.cons (.idx (.var 0) (.int 1)) .nil))) .nil))))) .nil)⟩
def VW(Z:Gam):Prop:=∀ a b c:R3,B3 a->B3 b->B3 c->a≠b->b≠c->c≠a->Z.F 98 [Db Aa Aa a b c]=.ok (Db Aa Aa (crs b c) (crs c a) (crs a b))
theorem pX(h:VY Z)(a b c:R3)(ha:B3 a)(hb:B3 b)(hc:B3 c)(n1:a≠b)(n2:b≠c)(n3:c≠a):Pw.run Z [Db Aa Aa a b c]=.ok (Db Aa Aa (crs b c) (crs c a) (crs a b)):=by
 obtain⟨r0,r1,r2⟩:=O1 Aa Aa a b c;simp[Pw,Df.run,Bo,r0,r1,r2,h b c hb hc n2,h c a hc ha n3,h a b ha hb n1];rfl
def Ob(Z:Gam):Prop:=∀(p:Ad)(t q:Ak)(a b c:R3),P4 p->B3 a->B3 b->B3 c->Al a b c%p≠0->∀ l u,AX p (nine a b c)=Ab l->D9 p l u->Z.F 78 [.int p,Db t q a b c]=.ok (Co (fmR p u a) (fmR p u b) (fmR p u c))
theorem wY(hm:Ho Z)(hf:NZ Z)(p:Ad)(t q:Ak)(a b c:R3)(hp:P4 p)(ha:B3 a)(hb:B3 b)(hc:B3 c)(z:Al a b c%p≠0)(l u:Ad)(e:AX p (nine a b c)=Ab l)(it:D9 p l u):Qh.run Z [.int p,Db t q a b c]=.ok (Co (fmR p u a) (fmR p u b) (fmR p u c)):=by
 obtain⟨r0,r1,r2⟩:=O1 t q a b c;have m:=hm p q a b c hp.pos ha hb hc;have f:=hf p Ae (nine a b c) l u hp e it;rw[Vt]at f;have f':Z.F 17 [.int p,.lst (ds (nine a b c))]=.ok (.tup (ds (nine (fmR p u a) (fmR p u b) (fmR p u c)))):=f;obtain⟨x1,x2⟩:=kY a b c;obtain⟨y1,y2,y3⟩:=cB (fmR p u a) (fmR p u b) (fmR p u c);simp[Qh,Df.run,Bo,r0,r1,r2,m,z,yX,x1,x2,f',y1,y2,y3,slE];rfl
noncomputable def PX:Df:=⟨2,Ae,(.cons (.ret (.call 78 (.cons (.var 0) (.cons (.call 104 (.cons (.call 98 (.cons (.var 1) .nil)) .nil)) .nil)))) .nil)⟩
noncomputable def bk0(a b c:R3):R3:=BD (crs b c) (crs c a) (crs a b)
noncomputable def bk1(a b c:R3):R3:=Bx (crs b c) (crs c a) (crs a b)
noncomputable def bk2(a b c:R3):R3:=Bz (crs b c) (crs c a) (crs a b)
def Oe(Z:Gam):Prop:=∀(p:Ad)(a b c:R3),P4 p->In3 p a->In3 p b->In3 p c->Al a b c%p≠0->∀ l u,AX p (nine (bk0 a b c) (bk1 a b c) (bk2 a b c))=Ab l->D9 p l u->Z.F 106 [.int p,Co a b c]=.ok (Co (fmR p u (bk0 a b c)) (fmR p u (bk1 a b c)) (fmR p u (bk2 a b c)))
theorem J2{x:Ad}(hp:P4 p)(h0:0<=x)(h1:x<p):Bd 10 x:=by
 unfold Bd;have:=hp.hi;omega
theorem Bd.mono{m:Ag}{x:Ad}(h:Bd m x)(hm:m<=n):Bd n x:=AK h (Et (by decide) hm)
def Bn(n:Ag)(a:R3):Prop:=Bd n a.1/\Bd n a.2.1/\Bd n a.2.2
theorem Bn.b3(h:Bn n a)(hn:n<=300):B3 a:=⟨h.1.mono hn,h.2.1.mono hn,h.2.2.mono hn⟩
theorem Cd(hp:P4 p)(h:In3 p a):Bn 10 a:=⟨J2 hp h.1.1 h.1.2,J2 hp h.2.1.1 h.2.1.2,J2 hp h.2.2.1 h.2.2.2⟩
theorem RQ{a b:R3}(ha:Bn n a)(hb:Bn n b):Bn (n+n+1) (crs a b):=
 ⟨(ha.2.1.mul hb.2.2).sub (ha.2.2.mul hb.2.1),(ha.2.2.mul hb.1).sub (ha.1.mul hb.2.2),(ha.1.mul hb.2.1).sub (ha.2.1.mul hb.1)⟩
theorem RS{a b c:R3}(ha:Bn n a)(hb:Bn n b)(hc:Bn n c):Bn n (BD a b c)/\Bn n (Bx a b c)/\Bn n (Bz a b c):=⟨⟨ha.1,hb.1,hc.1⟩,⟨ha.2.1,hb.2.1,hc.2.1⟩,⟨ha.2.2,hb.2.2,hc.2.2⟩⟩
theorem b7{a b c:R3}(z:Al a b c%p≠0):a≠b/\b≠c/\c≠a:=by
 refine⟨λe=>z ?_,λe=>z ?_,λe=>z ?_⟩
 .subst e;rw[show Al a a c=0 by unfold Al det;grind,Bv]
 .subst e;rw[show Al a b b=0 by unfold Al det;grind,Bv]
 .subst e;rw[show Al c b c=0 by unfold Al det;grind,Bv]
theorem Lq(a b c:R3):Al (bk0 a b c) (bk1 a b c) (bk2 a b c)=Al a b c*Al a b c:=by
 unfold Al det bk0 bk1 bk2 BD Bx Bz crs;grind
theorem zE(h1:VW Z)(h2:MQ Z)(h3:Ob Z)(p:Ad)(a b c:R3)(hp:P4 p)(ha:In3 p a)(hb:In3 p b)(hc:In3 p c)(z:Al a b c%p≠0)(l u:Ad)(e:AX p (nine (bk0 a b c) (bk1 a b c) (bk2 a b c))=Ab l)(it:D9 p l u):PX.run Z [.int p,Co a b c]=.ok (Co (fmR p u (bk0 a b c)) (fmR p u (bk1 a b c)) (fmR p u (bk2 a b c))):=by
 have ba:=Cd hp ha;have bb:=Cd hp hb;have bc:=Cd hp hc;obtain⟨n1,n2,n3⟩:=b7 z;have e1:Z.F 98 [Co a b c]=.ok (Db Aa Aa (crs b c) (crs c a) (crs a b)):=h1 a b c (ba.b3 (by decide)) (bb.b3 (by decide)) (bc.b3 (by decide)) n1 n2 n3
 have e2:=h2 Aa Aa (crs b c) (crs c a) (crs a b);obtain⟨c0,c1,c2⟩:=RS (RQ bb bc) (RQ bc ba) (RQ ba bb);have z2:Al (bk0 a b c) (bk1 a b c) (bk2 a b c)%p≠0:=by rw[Lq];exact BL hp z z
 have e3:Z.F 78 [.int p,Db Aa Aa (BD (crs b c) (crs c a) (crs a b)) (Bx (crs b c) (crs c a) (crs a b)) (Bz (crs b c) (crs c a) (crs a b))]=.ok (Co (fmR p u (bk0 a b c)) (fmR p u (bk1 a b c)) (fmR p u (bk2 a b c))):=h3 p Aa Aa _ _ _ hp (c0.b3 (by decide)) (c1.b3 (by decide)) (c2.b3 (by decide)) z2 l u e it
 simp[PX,Df.run,Bo,e1,e2,e3]
noncomputable def mlR(p:Ad)(x a b c:R3):R3:=(Ay (BD a b c) x%p,Ay (Bx a b c) x%p,Ay (Bz a b c) x%p)
noncomputable def NH:E:=(.call 91 (.cons (.var 0) (.cons (.var 3) (.cons (.var 4) .nil))))
noncomputable def QQ:Df:=⟨5,Ae,(.cons (.asg 3 Ae (.call 104 (.cons (.var 2) .nil))) (.cons (.ret (.call 78 (.cons (.var 0) (.cons (.comp NH 4 (.e (.var 1)) B7) .nil)))) .nil))⟩
def QX(Z:Gam):Prop:=∀(p:Ad)(x y z a b c:R3),P4 p->In3 p x->In3 p y->In3 p z->In3 p a->In3 p b->In3 p c->Al (mlR p x a b c) (mlR p y a b c) (mlR p z a b c)%p≠0->∀ l u,AX p (nine (mlR p x a b c) (mlR p y a b c) (mlR p z a b c))=Ab l->D9 p l u ->
 Z.F 105 [.int p,Co x y z,Co a b c]=.ok (Co (fmR p u (mlR p x a b c)) (fmR p u (mlR p y a b c)) (fmR p u (mlR p z a b c)))
theorem R4(hp:0<p)(x a b c:R3):In3 p (mlR p x a b c):=⟨⟨AJ _ (by omega),AF _ hp⟩,⟨AJ _ (by omega),AF _ hp⟩,⟨AJ _ (by omega),AF _ hp⟩⟩
theorem pZ(h2:MQ Z)(hs:RA Z)(h3:Ob Z)(p:Ad)(x y z a b c:R3)(hp:P4 p)(hx:In3 p x)(hy:In3 p y)(hz:In3 p z)(ha:In3 p a)(hb:In3 p b)(hc:In3 p c)(nz:Al (mlR p x a b c) (mlR p y a b c) (mlR p z a b c)%p≠0)(l u:Ad)(e:AX p (nine (mlR p x a b c) (mlR p y a b c) (mlR p z a b c))=Ab l)(it:D9 p l u):QQ.run Z [.int p,Co x y z,Co a b c]=.ok (Co (fmR p u (mlR p x a b c)) (fmR p u (mlR p y a b c)) (fmR p u (mlR p z a b c))):=by
 have p0:=hp.pos;have e1:Z.F 104 [Co a b c]=.ok (Db Aa Aa (BD a b c) (Bx a b c) (Bz a b c)):=h2 Aa Aa a b c;obtain⟨c0,c1,c2⟩:=RS (Cd hp ha) (Cd hp hb) (Cd hp hc);have es:∀ r:R3,In3 p r->Z.F 91 [.int p,Db Aa Aa (BD a b c) (Bx a b c) (Bz a b c),Aj Aa r]=.ok (Aj Aa (mlR p r a b c)):=λr hr=>hs p Aa Aa Aa _ _ _ r p0 (c0.b3 (by decide)) (c1.b3 (by decide)) (c2.b3 (by decide)) ((Cd hp hr).b3 (by decide))
 have key:∀ r:R3,In3 p r->cF Z [si p,sh (Co x y z),sh (Co a b c),sh (Db Aa Aa (BD a b c) (Bx a b c) (Bz a b c)),Af] 4 NH (Aj Aa r)=.ok (Aj Aa (mlR p r a b c)):=λr hr=>by
  simp[cF,NH,es r hr]
 have g:∀ r,cG Z [si p,sh (Co x y z),sh (Co a b c),sh (Db Aa Aa (BD a b c) (Bx a b c) (Bz a b c)),Af] 4 B7 r=.ok Aa:=λ_=>rfl
 have sq:Ch (Co x y z)=.ok [Aj Aa x,Aj Aa y,Aj Aa z]:=rfl;have cp:BK (cG Z [si p,sh (Co x y z),sh (Co a b c),sh (Db Aa Aa (BD a b c) (Bx a b c) (Bz a b c)),Af] 4 B7) (cF Z [si p,sh (Co x y z),sh (Co a b c),sh (Db Aa Aa (BD a b c) (Bx a b c) (Bz a b c)),Af] 4 NH) [Aj Aa x,Aj Aa y,Aj Aa z]=.ok [Aj Aa (mlR p x a b c),Aj Aa (mlR p y a b c),Aj Aa (mlR p z a b c)]:=by
  simp[BK,g,key x hx,key y hy,key z hz]
 have e3:Z.F 78 [.int p,.lst [Aj Aa (mlR p x a b c),Aj Aa (mlR p y a b c),Aj Aa (mlR p z a b c)]]=.ok (Co (fmR p u (mlR p x a b c)) (fmR p u (mlR p y a b c)) (fmR p u (mlR p z a b c))):=
  h3 p Ae Aa _ _ _ hp ((Cd hp (R4 p0 x a b c)).b3 (by decide)) ((Cd hp (R4 p0 y a b c)).b3 (by decide)) ((Cd hp (R4 p0 z a b c)).b3 (by decide)) nz l u e it
 simp[QQ,Df.run,Bo,e1,sq,cp,e3]
noncomputable def PQ:E:=(.bin .Mult (.var 0) (.var 2))
noncomputable def QJ:Df:=⟨3,Ae,(.cons (.ret (.comp PQ 2 (.e (.var 1)) B7)) .nil)⟩
def kZ(Z:Gam):Prop:=∀(k:Ad)(a:R3),0<=k->k<100->Z.F 110 [.int k,Aj Aa a]=.ok (Aj Ae (k*a.1,k*a.2.1,k*a.2.2))
theorem gW(Z:Gam)(k:Ad)(a:R3)(h0:0<=k)(h1:k<100):QJ.run Z [.int k,Aj Aa a]=.ok (Aj Ae (k*a.1,k*a.2.1,k*a.2.2)):=by
 have m:∀ x,DQ k x=Aa:=λx=>G4 (by omega) (by omega)
 have key:∀ x:Ad,cF Z [si k,sh (Aj Aa a),Af] 2 PQ (.int x)=.ok (.int (k*x)):=λx=>by
  simp[cF,PQ,m]
 have g:∀ x,cG Z [si k,sh (Aj Aa a),Af] 2 B7 x=.ok Aa:=λ_=>rfl
 simp[QJ,Df.run,Bo,N6,BK,g,key];rfl
noncomputable def EE(a b c d:R3):D:=.lst [Aj Aa a,Aj Aa b,Aj Aa c,Aj Aa d]
noncomputable def AQ(k:Ad)(a:R3):R3:=(k*a.1,k*a.2.1,k*a.2.2)
theorem qN(a b c d:R3):B8 (EE a b c d) (.int 0)=.ok (Aj Aa a)/\B8 (EE a b c d) (.int 1)=.ok (Aj Aa b)/\B8 (EE a b c d) (.int 2)=.ok (Aj Aa c)/\B8 (EE a b c d) (.int 3)=.ok (Aj Aa d):=⟨rfl,rfl,rfl,rfl⟩
noncomputable def PC:Df:=⟨3,Ae,(.cons (.asg 2 Ae (.tup (.cons (.call 110 (.cons (.call 61 (.cons (.var 0) (.cons (.idx (.var 1) (.int 3)) (.cons (.idx (.var 1) (.int 1)) (.cons (.idx (.var 1) (.int 2)) .nil))))) (.cons (.idx (.var 1) (.int 0)) .nil))) (.cons (.call 110 (.cons (.call 61 (.cons (.var 0) (.cons (.idx (.var 1) (.int 0)) (.cons (.idx (.var 1) (.int 3)) (.cons (.idx (.var 1) (.int 2)) .nil))))) (.cons (.idx (.var 1) (.int 1)) .nil))) (.cons (.call 110 (.cons (.call 61 (.cons (.var 0) (.cons (.idx (.var 1) (.int 0)) (.cons (.idx (.var 1) (.int 1)) (.cons (.idx (.var 1) (.int 3)) .nil))))) (.cons (.idx (.var 1) (.int 2)) .nil))) .nil))))) (.cons (.ret (.call 78 (.cons (.var 0) (.cons (.call 104 (.cons (.var 2) .nil)) .nil)))) .nil))⟩
noncomputable def fk0(p:Ad)(a b c d:R3):Ad:=Al d b c%p
noncomputable def fk1(p:Ad)(a b c d:R3):Ad:=Al a d c%p
noncomputable def fk2(p:Ad)(a b c d:R3):Ad:=Al a b d%p
noncomputable def fs0(p:Ad)(a b c d:R3):R3:=AQ (fk0 p a b c d) a
noncomputable def fs1(p:Ad)(a b c d:R3):R3:=AQ (fk1 p a b c d) b
noncomputable def fs2(p:Ad)(a b c d:R3):R3:=AQ (fk2 p a b c d) c
noncomputable def fr0(p:Ad)(a b c d:R3):R3:=BD (fs0 p a b c d) (fs1 p a b c d) (fs2 p a b c d)
noncomputable def fr1(p:Ad)(a b c d:R3):R3:=Bx (fs0 p a b c d) (fs1 p a b c d) (fs2 p a b c d)
noncomputable def fr2(p:Ad)(a b c d:R3):R3:=Bz (fs0 p a b c d) (fs1 p a b c d) (fs2 p a b c d)
def O4(Z:Gam):Prop:=∀(p:Ad)(a b c d:R3),P4 p->In3 p a->In3 p b->In3 p c->In3 p d->Al (fr0 p a b c d) (fr1 p a b c d) (fr2 p a b c d)%p≠0->∀ l u,AX p (nine (fr0 p a b c d) (fr1 p a b c d) (fr2 p a b c d))=Ab l->D9 p l u ->
 Z.F 111 [.int p,EE a b c d]=.ok (Co (fmR p u (fr0 p a b c d)) (fmR p u (fr1 p a b c d)) (fmR p u (fr2 p a b c d)))
theorem Se{m:Ag}(hk:Bd n k)(ha:Bn m a):Bn (n+m) (AQ k a):=⟨hk.mul ha.1,hk.mul ha.2.1,hk.mul ha.2.2⟩
theorem dA(hm:Ho Z)(hs:kZ Z)(h2:MQ Z)(h3:Ob Z)(p:Ad)(a b c d:R3)(hp:P4 p)(ha:In3 p a)(hb:In3 p b)(hc:In3 p c)(hd:In3 p d)(z:Al (fr0 p a b c d) (fr1 p a b c d) (fr2 p a b c d)%p≠0)(l u:Ad)(e:AX p (nine (fr0 p a b c d) (fr1 p a b c d) (fr2 p a b c d))=Ab l)(it:D9 p l u):PC.run Z [.int p,EE a b c d]=.ok (Co (fmR p u (fr0 p a b c d)) (fmR p u (fr1 p a b c d)) (fmR p u (fr2 p a b c d))):=by
 have p0:=hp.pos;have ph:=hp.hi;have ba:=(Cd hp ha).b3 (by decide)
 have bb:=(Cd hp hb).b3 (by decide)
 have bc:=(Cd hp hc).b3 (by decide)
 have bd:=(Cd hp hd).b3 (by decide)
 obtain⟨x0,x1,x2,x3⟩:=qN a b c d;have m0:=hm p Aa d b c p0 bd bb bc;have m1:=hm p Aa a d c p0 ba bd bc;have m2:=hm p Aa a b d p0 ba bb bd;have k0:0<=Al d b c%p/\Al d b c%p<p:=⟨AJ _ (by omega),AF _ p0⟩
 have k1:0<=Al a d c%p/\Al a d c%p<p:=⟨AJ _ (by omega),AF _ p0⟩
 have k2:0<=Al a b d%p/\Al a b d%p<p:=⟨AJ _ (by omega),AF _ p0⟩
 have s0:Z.F 110 [.int (Al d b c%p),Aj Aa a]=.ok (Aj Ae (AQ (Al d b c%p) a)):=hs (Al d b c%p) a k0.1 (by omega)
 have s1:Z.F 110 [.int (Al a d c%p),Aj Aa b]=.ok (Aj Ae (AQ (Al a d c%p) b)):=hs (Al a d c%p) b k1.1 (by omega)
 have s2:Z.F 110 [.int (Al a b d%p),Aj Aa c]=.ok (Aj Ae (AQ (Al a b d%p) c)):=hs (Al a b d%p) c k2.1 (by omega)
 have e2:Z.F 104 [.tup [Aj Ae (AQ (Al d b c%p) a),Aj Ae (AQ (Al a d c%p) b),Aj Ae (AQ (Al a b d%p) c)]]=.ok (Db Aa Aa (fr0 p a b c d) (fr1 p a b c d) (fr2 p a b c d)):=h2 Aa Ae _ _ _;obtain⟨c0,c1,c2⟩:=RS (Se (J2 hp k0.1 k0.2) (Cd hp ha)) (Se (J2 hp k1.1 k1.2) (Cd hp hb)) (Se (J2 hp k2.1 k2.2) (Cd hp hc));have e3:=h3 p Aa Aa (fr0 p a b c d) (fr1 p a b c d) (fr2 p a b c d) hp (c0.b3 (by decide)) (c1.b3 (by decide)) (c2.b3 (by decide)) z l u e it
 simp[PC,Df.run,Bo,x0,x1,x2,x3,m0,m1,m2,s0,s1,s2,e2,e3]
noncomputable def JU:Ss:=(.cons (.ife (.cmp .Eq (.call 61 (.cons (.var 0) (.cons (.var 3) (.cons (.idx (.var 1) (.var 4)) (.cons (.idx (.var 1) (.var 5)) .nil))))) (.int 0)) (.cons (.ret (.tup (.cons (.var 3) (.cons (.idx (.var 1) (.var 4)) (.cons (.idx (.var 1) (.var 5)) .nil))))) .nil) .nil) .nil)
noncomputable def Kf:Ss:=(.cons (.fors 5 (.rng2 (.bin .Add (.var 4) (.int 1)) (.bi .len (.cons (.var 1) .nil))) JU) .nil)
noncomputable def HR:Ss:=(.cons (.fors 4 (.rng2 (.bin .Add (.var 2) (.int 1)) (.bi .len (.cons (.var 1) .nil))) Kf) .nil)
noncomputable def K0:Df:=⟨6,Ae,(.cons (.forT [2,3] (.enm (.var 1)) HR) (.cons (.ret .non) .nil))⟩
theorem jV(p:Ad)(a b c d:D){m0 m1 m2 m3:Ad}(h0:Z.F 61 [.int p,a,b,c]=.ok (.int m0))(h1:Z.F 61 [.int p,a,b,d]=.ok (.int m1))(h2:Z.F 61 [.int p,a,c,d]=.ok (.int m2))(h3:Z.F 61 [.int p,b,c,d]=.ok (.int m3))(n0:m0≠0)(n1:m1≠0)(n2:m2≠0)(n3:m3≠0):K0.run Z [.int p,.lst [a,b,c,d]]=.ok .non:=by
 have x0:DA [a,b,c,d] 0=.ok a:=rfl;have x1:DA [a,b,c,d] 1=.ok b:=rfl;have x2:DA [a,b,c,d] 2=.ok c:=rfl;have x3:DA [a,b,c,d] 3=.ok d:=rfl;have r14:CI 1 4=.ok [.int 1,.int 2,.int 3]:=rfl;have r24:CI 2 4=.ok [.int 2,.int 3]:=rfl;have r34:CI 3 4=.ok [.int 3]:=rfl;have r44:CI 4 4=.ok []:=rfl;simp[K0,Df.run,Bo,EQ,Cq,Bi,Ev,JU,Kf,HR,F4,x0,x1,x2,x3,r14,r24,r34,r44,h0,h1,h2,h3,n0,n1,n2,n3]
def Hw(p:Ad)(a b c d:R3):Prop:=Al a b c%p≠0/\Al a b d%p≠0/\Al a c d%p≠0/\Al b c d%p≠0
def Sa(Z:Gam):Prop:=∀(p:Ad)(a b c d:R3),P4 p->In3 p a->In3 p b->In3 p c->In3 p d->Hw p a b c d->Z.F 109 [.int p,EE a b c d]=.ok .non
def lA(Z:Gam):Prop:=∀(p:Ad)(a b c d:R3),P4 p->In3 p a->In3 p b->In3 p c->In3 p d->Hw p a b c d->Z.F 65 [.int p,EE a b c d]=.ok .non
theorem pT(hm:Ho Z)(p:Ad)(a b c d:R3)(hp:P4 p)(ha:In3 p a)(hb:In3 p b)(hc:In3 p c)(hd:In3 p d)(h:Hw p a b c d):K0.run Z [.int p,EE a b c d]=.ok .non:=by
 have p0:=hp.pos;have ba:=(Cd hp ha).b3 (by decide)
 have bb:=(Cd hp hb).b3 (by decide)
 have bc:=(Cd hp hc).b3 (by decide)
 have bd:=(Cd hp hd).b3 (by decide)
 exact jV p _ _ _ _ (hm p Aa a b c p0 ba bb bc) (hm p Aa a b d p0 ba bb bd) (hm p Aa a c d p0 ba bc bd) (hm p Aa b c d p0 bb bc bd) h.1 h.2.1 h.2.2.1 h.2.2.2
noncomputable def K1:Df:=⟨3,Ae,(.cons (.ife (.or (.cons (.cmp .NotEq (.bi .len (.cons (.var 1) .nil)) (.int 4)) (.cons (.cmp .NotEq (.bi .len (.cons (.var 2) .nil)) (.int 4)) .nil))) (.cons (.rais 13 (.cons (.str (Az "a frame has four points")) .nil)) .nil) .nil) (.cons (.expr (.call 109 (.cons (.var 0) (.cons (.var 1) .nil)))) (.cons (.expr (.call 109 (.cons (.var 0) (.cons (.var 2) .nil)))) (.cons (.ret (.call 105 (.cons (.var 0) (.cons (.call 111 (.cons (.var 0) (.cons (.var 2) .nil))) (.cons (.call 106 (.cons (.var 0) (.cons (.call 111 (.cons (.var 0) (.cons (.var 1) .nil))) .nil))) .nil))))) .nil))))⟩
theorem vY{a b c d a' b' c' d':R3}{M N B R:D}(e1:Z.F 109 [.int p,EE a b c d]=.ok .non)(e2:Z.F 109 [.int p,EE a' b' c' d']=.ok .non)(e3:Z.F 111 [.int p,EE a' b' c' d']=.ok N)(e4:Z.F 111 [.int p,EE a b c d]=.ok M)(e5:Z.F 106 [.int p,M]=.ok B)(e6:Z.F 105 [.int p,N,B]=.ok R):K1.run Z [.int p,EE a b c d,EE a' b' c' d']=.ok R:=by
 have l1:biD .len [EE a b c d]=.ok (.int 4):=rfl;have l2:biD .len [EE a' b' c' d']=.ok (.int 4):=rfl;simp[K1,Df.run,Bo,l1,l2,e1,e2,e3,e4,e5,e6]
def CgR(p:Ad)(x y:R3):Prop:=Cg p x.1 y.1/\Cg p x.2.1 y.2.1/\Cg p x.2.2 y.2.2
section
variable{p:Ad}{a b c a' b' c' x y z x':R3}{k l m k':Ad}
theorem CgR.rfl:CgR p a a:=⟨Cg.rfl,Cg.rfl,Cg.rfl⟩
theorem CgR.of(h:a=b):CgR p a b:=by rw[h];exact CgR.rfl
theorem CgR.trans(h:CgR p a b)(g:CgR p b c):CgR p a c:=⟨h.1.trans g.1,h.2.1.trans g.2.1,h.2.2.trans g.2.2⟩
theorem CgR.symm(h:CgR p a b):CgR p b a:=⟨h.1.symm,h.2.1.symm,h.2.2.symm⟩
theorem CgR.sc(hk:Cg p k k')(h:CgR p a b):CgR p (AQ k a) (AQ k' b):=⟨hk.mul h.1,hk.mul h.2.1,hk.mul h.2.2⟩
theorem CgR.md(h:a=mdR p b):CgR p a b:=by rw[h];exact⟨Cg.md _root_.rfl,Cg.md _root_.rfl,Cg.md _root_.rfl⟩
theorem Ks(ha:CgR p a a')(hb:CgR p b b')(hc:CgR p c c'):Cg p (Al a b c) (Al a' b' c'):=by
 unfold Al det;exact Jq ha.1 ha.2.1 ha.2.2 hb.1 hb.2.1 hb.2.2 hc.1 hc.2.1 hc.2.2
theorem FB(ha:CgR p a a')(hb:CgR p b b'):Cg p (Ay a b) (Ay a' b'):=((ha.1.mul hb.1).add (ha.2.1.mul hb.2.1)).add (ha.2.2.mul hb.2.2)
theorem Oa(ha:CgR p a a')(hb:CgR p b b')(hc:CgR p c c'):CgR p (BD a b c) (BD a' b' c')/\CgR p (Bx a b c) (Bx a' b' c')/\CgR p (Bz a b c) (Bz a' b' c'):=⟨⟨ha.1,hb.1,hc.1⟩,⟨ha.2.1,hb.2.1,hc.2.1⟩,⟨ha.2.2,hb.2.2,hc.2.2⟩⟩
theorem N9(ha:CgR p a a')(hb:CgR p b b'):CgR p (crs a b) (crs a' b'):=
 ⟨(ha.2.1.mul hb.2.2).sub (ha.2.2.mul hb.2.1),(ha.2.2.mul hb.1).sub (ha.1.mul hb.2.2),(ha.1.mul hb.2.1).sub (ha.2.1.mul hb.1)⟩
theorem aN(ha:CgR p a a')(hb:CgR p b b')(hc:CgR p c c'):CgR p (bk0 a b c) (bk0 a' b' c')/\CgR p (bk1 a b c) (bk1 a' b' c')/\CgR p (bk2 a b c) (bk2 a' b' c'):=Oa (N9 hb hc) (N9 hc ha) (N9 ha hb)
theorem Fa(p t:Ad)(a:R3):CgR p (fmR p t a) (AQ t a):=by
 have key:∀ x:Ad,Cg p (t*(x%p)%p) (t*x):=λx=>(Cg.md _root_.rfl).trans (Cg.rfl.mul (Cg.md _root_.rfl))
 exact⟨key _,key _,key _⟩
noncomputable def rm(a x y z:R3):R3:=(Ay (BD x y z) a,Ay (Bx x y z) a,Ay (Bz x y z) a)
theorem ZV(p:Ad)(a x y z:R3):CgR p (mlR p a x y z) (rm a x y z):=⟨Cg.md _root_.rfl,Cg.md _root_.rfl,Cg.md _root_.rfl⟩
theorem mf{z':R3}(ha:CgR p a a')(hx:CgR p x x')(hy:CgR p y y')(hz:CgR p z z'):CgR p (rm a x y z) (rm a' x' y' z'):=by
 obtain⟨c0,c1,c2⟩:=Oa hx hy hz;exact⟨FB c0 ha,FB c1 ha,FB c2 ha⟩
noncomputable def ap(a b c x:R3):R3:=(Ay a x,Ay b x,Ay c x)
theorem Rn(a b c x y z:R3):Al (ap a b c x) (ap a b c y) (ap a b c z)=Al a b c*Al x y z:=by
 unfold Al det ap Ay;grind
theorem Kw(k l m:Ad)(x y z:R3):Al (AQ k x) (AQ l y) (AQ m z)=k*l*m*Al x y z:=by
 unfold Al det AQ;grind
theorem Ib(k l:Ad)(x:R3):AQ k (AQ l x)=AQ (k*l) x:=by
 unfold AQ;simp only[Ge]
theorem Xa(a b c x:R3)(k:Ad):ap a b c (AQ k x)=AQ k (ap a b c x):=by
 unfold ap AQ Ay;refine Bp ?_ (Bp ?_ ?_)<;>(simp only;grind)
theorem m9(k:Ad)(a x y z:R3):rm (AQ k a) x y z=AQ k (rm a x y z):=by
 unfold rm AQ Ay BD Bx Bz;refine Bp ?_ (Bp ?_ ?_)<;>(simp only;grind)
theorem wT(k:Ad)(a x y z:R3):rm a (AQ k x) (AQ k y) (AQ k z)=AQ k (rm a x y z):=by
 unfold rm AQ Ay BD Bx Bz;refine Bp ?_ (Bp ?_ ?_)<;>(simp only;grind)
theorem aM(k:Ad)(x y z:R3):bk0 (AQ k x) (AQ k y) (AQ k z)=AQ (k*k) (bk0 x y z)/\bk1 (AQ k x) (AQ k y) (AQ k z)=AQ (k*k) (bk1 x y z)/\bk2 (AQ k x) (AQ k y) (AQ k z)=AQ (k*k) (bk2 x y z):=by
 unfold bk0 bk1 bk2 AQ BD Bx Bz crs;refine⟨?_,?_,?_⟩<;>refine Bp ?_ (Bp ?_ ?_)<;>(simp only;grind)
theorem mh(a x y z:R3):rm (rm a x y z) (bk0 x y z) (bk1 x y z) (bk2 x y z)=AQ (Al x y z) a:=by
 unfold rm AQ Ay bk0 bk1 bk2 BD Bx Bz crs Al det;refine Bp ?_ (Bp ?_ ?_)<;>(simp only;grind)
theorem VA(x y z:R3):Al (BD x y z) (Bx x y z) (Bz x y z)=Al x y z:=by
 unfold Al det BD Bx Bz;grind
end
theorem HW(a b:R3):Ay a b=Ay b a:=by unfold Ay;grind
theorem G6{x y:Ad}(h:Cg p x y)(hy:y%p≠0):x%p≠0:=λz=>hy ((show x%p=y%p from h).symm.trans z)
theorem nz3{x y z:Ad}(hp:P4 p)(hx:x%p≠0)(hy:y%p≠0)(hz:z%p≠0):x*y*z%p≠0:=BL hp (BL hp hx hy) hz
section
variable{p:Ad}{a b c f0 f1 f2 f3 g0 g1 g2 g3:R3}{d0 d1 d2 d3:Ad}
theorem MH(hx:CgR p g0 (AQ d0 (ap a b c f0)))(hy:CgR p g1 (AQ d1 (ap a b c f1)))(hz:CgR p g2 (AQ d2 (ap a b c f2))):Cg p (Al g0 g1 g2) (d0*d1*d2*(Al a b c*Al f0 f1 f2)):=
 (Ks hx hy hz).trans (Cg.of (by rw[Kw,Rn]))
theorem Rm{z w x' z' w':R3}{k0 k1 k2 k3 K:Ad}(hx:CgR p x' (AQ k0 (ap a b c x)))(hy:CgR p y' (AQ k1 (ap a b c y)))(hz:CgR p z' (AQ k2 (ap a b c z)))(hw:CgR p w' (AQ k3 (ap a b c w)))(hK:K=k0*k1*k2*k3*Al a b c):CgR p (AQ (Al x' y' z'%p) w') (AQ K (ap a b c (AQ (Al x y z%p) w))):=by
 have e1:Cg p (Al x' y' z'%p) (k0*k1*k2*(Al a b c*(Al x y z%p))):=((Cg.md rfl).trans (MH hx hy hz)).trans (Cg.rfl.mul (Cg.rfl.mul (Cg.md rfl).symm));refine(CgR.sc e1 hw).trans (CgR.of ?_);rw[Ib,Xa,Ib,hK]
 congr 1
 grind
theorem cy(h0:CgR p g0 (AQ d0 (ap a b c f0)))(h1:CgR p g1 (AQ d1 (ap a b c f1)))(h2:CgR p g2 (AQ d2 (ap a b c f2)))(h3:CgR p g3 (AQ d3 (ap a b c f3))):CgR p (fr0 p g0 g1 g2 g3) (AQ (d0*d1*d2*d3*Al a b c) (rm a (fr0 p f0 f1 f2 f3) (fr1 p f0 f1 f2 f3) (fr2 p f0 f1 f2 f3)))/\CgR p (fr1 p g0 g1 g2 g3) (AQ (d0*d1*d2*d3*Al a b c) (rm b (fr0 p f0 f1 f2 f3) (fr1 p f0 f1 f2 f3) (fr2 p f0 f1 f2 f3)))/\CgR p (fr2 p g0 g1 g2 g3) (AQ (d0*d1*d2*d3*Al a b c) (rm c (fr0 p f0 f1 f2 f3) (fr1 p f0 f1 f2 f3) (fr2 p f0 f1 f2 f3))):=by
 have s0:CgR p (fs0 p g0 g1 g2 g3) (AQ (d0*d1*d2*d3*Al a b c) (ap a b c (fs0 p f0 f1 f2 f3))):=Rm h3 h1 h2 h0 (by grind)
 have s1:CgR p (fs1 p g0 g1 g2 g3) (AQ (d0*d1*d2*d3*Al a b c) (ap a b c (fs1 p f0 f1 f2 f3))):=Rm h0 h3 h2 h1 (by grind)
 have s2:CgR p (fs2 p g0 g1 g2 g3) (AQ (d0*d1*d2*d3*Al a b c) (ap a b c (fs2 p f0 f1 f2 f3))):=Rm h0 h1 h3 h2 (by grind)
 obtain⟨c0,c1,c2⟩:=Oa s0 s1 s2;have key:∀ r:R3,rm r (fr0 p f0 f1 f2 f3) (fr1 p f0 f1 f2 f3) (fr2 p f0 f1 f2 f3)=(Ay r (fs0 p f0 f1 f2 f3),Ay r (fs1 p f0 f1 f2 f3),Ay r (fs2 p f0 f1 f2 f3)):=λr=>by
  rw[HW r,HW r,HW r];rfl
 rw[key a,key b,key c];exact⟨c0,c1,c2⟩
theorem d5(p:Ad)(f0 f1 f2 f3:R3):Al (fr0 p f0 f1 f2 f3) (fr1 p f0 f1 f2 f3) (fr2 p f0 f1 f2 f3)=fk0 p f0 f1 f2 f3*fk1 p f0 f1 f2 f3*fk2 p f0 f1 f2 f3*Al f0 f1 f2:=by
 unfold fr0 fr1 fr2;rw[VA];unfold fs0 fs1 fs2;rw[Kw]
theorem LC{x:Ad}(h:x%p≠0):x%p%p≠0:=by rw[AS _ (Bu p)];exact h
theorem RU(hp:P4 p)(h:Hw p f0 f1 f2 f3):Al (fr0 p f0 f1 f2 f3) (fr1 p f0 f1 f2 f3) (fr2 p f0 f1 f2 f3)%p≠0:=by
 rw[d5];obtain⟨h1,h2,h3,h4⟩:=h;have k0:Al f3 f1 f2%p≠0:=by rw[show Al f3 f1 f2=Al f1 f2 f3 by unfold Al det;grind];exact h4
 have k1:Al f0 f3 f2%p≠0:=by rw[show Al f0 f3 f2=-1*Al f0 f2 f3 by unfold Al det;grind];exact BL hp hp.m1 h3
 exact BL hp (nz3 hp (LC k0) (LC k1) (LC h2)) h1
theorem qY(hp:P4 p)(hD:Al a b c%p≠0)(n0:d0%p≠0)(n1:d1%p≠0)(n2:d2%p≠0)(n3:d3%p≠0)(h0:CgR p g0 (AQ d0 (ap a b c f0)))(h1:CgR p g1 (AQ d1 (ap a b c f1)))(h2:CgR p g2 (AQ d2 (ap a b c f2)))(h3:CgR p g3 (AQ d3 (ap a b c f3)))(h:Hw p f0 f1 f2 f3):Hw p g0 g1 g2 g3:=
 ⟨G6 (MH h0 h1 h2) (BL hp (nz3 hp n0 n1 n2) (BL hp hD h.1)),G6 (MH h0 h1 h3) (BL hp (nz3 hp n0 n1 n3) (BL hp hD h.2.1)),G6 (MH h0 h2 h3) (BL hp (nz3 hp n0 n2 n3) (BL hp hD h.2.2.1)),G6 (MH h1 h2 h3) (BL hp (nz3 hp n1 n2 n3) (BL hp hD h.2.2.2))⟩
end
theorem qZ{a b c x y z:R3}(hp:P4 p)(hk:k%p≠0)(ha:In3 p a)(hb:In3 p b)(hc:In3 p c)(l1:AX p (nine a b c)=Ab 1)(hx:CgR p x (AQ k a))(hy:CgR p y (AQ k b))(hz:CgR p z (AQ k c)):∃ l u,AX p (nine x y z)=Ab l/\D9 p l u/\fmR p u x=a/\fmR p u y=b/\fmR p u z=c:=by
 have p1:1<p:=by have:=hp.lo;omega
 have rs:(nine x y z).map (λx=>x%p)=((nine a b c).map λx=>k*x).map (λx=>x%p):=by
  simp only[nine,Bq,GC];rw[show x.1%p=k*a.1%p from hx.1,show x.2.1%p=k*a.2.1%p from hx.2.1,show x.2.2%p=k*a.2.2%p from hx.2.2,show y.1%p=k*b.1%p from hy.1,show y.2.1%p=k*b.2.1%p from hy.2.1,show y.2.2%p=k*b.2.2%p from hy.2.2,show z.1%p=k*c.1%p from hz.1,show z.2.1%p=k*c.2.1%p from hz.2.1,show z.2.2%p=k*c.2.2%p from hz.2.2]
 have it:D9 p 1 1:=⟨by decide,p1,by rw[CS,AG (by decide) p1]⟩
 have l0:(1:Ad)%p≠0:=hp.o1;obtain⟨u,iu,eu⟩:=jM hp hk l0 it (f:=λx=>k*x) (λ_=>rfl) (nine a b c)
 have el:=JW hp hk (f:=λx=>k*x) (λ_=>rfl) (nine a b c)
 rw[l1,<-K8 rs]at el;rw[<-QF rs]at eu;have one:∀ v:Ad,0<=v->v<p->1*(v%p)%p=v:=λv h0 h1=>by rw[CS,AS _ (Bu p),AG h0 h1]
 have same:fmI p 1 (nine a b c)=nine a b c:=by
  unfold fmI nine;simp only[Bq,GC];rw[one _ ha.1.1 ha.1.2,one _ ha.2.1.1 ha.2.1.2,one _ ha.2.2.1 ha.2.2.2,one _ hb.1.1 hb.1.2,one _ hb.2.1.1 hb.2.1.2,one _ hb.2.2.1 hb.2.2.2,one _ hc.1.1 hc.1.2,one _ hc.2.1.1 hc.2.1.2,one _ hc.2.2.1 hc.2.2.2]
 rw[same,Vt]at eu;obtain⟨e1,e2,e3⟩:=jK eu;exact⟨_,u,el,iu,e1,e2,e3⟩
theorem pL(hk:Sa Z)(hf:O4 Z)(hb:Oe Z)(ha:QX Z){a b c f0 f1 f2 f3 g0 g1 g2 g3:R3}{d0 d1 d2 d3:Ad}(hp:P4 p)(ia:In3 p a)(ib:In3 p b)(ic:In3 p c)(hD:Al a b c%p≠0)(l1:AX p (nine a b c)=Ab 1)(i0:In3 p f0)(i1:In3 p f1)(i2:In3 p f2)(i3:In3 p f3)(hg:Hw p f0 f1 f2 f3)(j0:In3 p g0)(j1:In3 p g1)(j2:In3 p g2)(j3:In3 p g3)(n0:d0%p≠0)(n1:d1%p≠0)(n2:d2%p≠0)(n3:d3%p≠0)(h0:CgR p g0 (AQ d0 (ap a b c f0)))(h1:CgR p g1 (AQ d1 (ap a b c f1)))(h2:CgR p g2 (AQ d2 (ap a b c f2)))(h3:CgR p g3 (AQ d3 (ap a b c f3))):K1.run Z [.int p,EE f0 f1 f2 f3,EE g0 g1 g2 g3]=.ok (Co a b c):=by
 have p0:=hp.pos;have hg':=qY hp hD n0 n1 n2 n3 h0 h1 h2 h3 hg;have e1:=hk p f0 f1 f2 f3 hp i0 i1 i2 i3 hg;have e2:=hk p g0 g1 g2 g3 hp j0 j1 j2 j3 hg';have zM:=RU hp hg;have zN:=RU hp hg';obtain⟨r0,r1,r2⟩:=cy h0 h1 h2 h3
 -- the frames' tables
 obtain⟨lM,eM⟩:=MB zM;obtain⟨v,v1,v2,v3⟩:=GU hp (IA p0 eM).1;have e4:=hf p f0 f1 f2 f3 hp i0 i1 i2 i3 zM lM v eM ⟨v1,v2,v3⟩;obtain⟨lN,eN⟩:=MB zN;obtain⟨u,u1,u2,u3⟩:=GU hp (IA p0 eN).1;have e3:=hf p g0 g1 g2 g3 hp j0 j1 j2 j3 zN lN u eN ⟨u1,u2,u3⟩;have vz:v%p≠0:=by rw[AG (by omega) v2];omega
 have uz:u%p≠0:=by rw[AG (by omega) u2];omega
 generalize fr0 p f0 f1 f2 f3=x at *;generalize fr1 p f0 f1 f2 f3=y at *;generalize fr2 p f0 f1 f2 f3=z at *;generalize fr0 p g0 g1 g2 g3=x' at *;generalize fr1 p g0 g1 g2 g3=y' at *;generalize fr2 p g0 g1 g2 g3=z' at *;have mx:=Fa p v x;have my:=Fa p v y;have mz:=Fa p v z;have kx:In3 p (fmR p v x):=F5 p0 v x;have ky:In3 p (fmR p v y):=F5 p0 v y;have kz:In3 p (fmR p v z):=F5 p0 v z;have zM':Al (fmR p v x) (fmR p v y) (fmR p v z)%p≠0:=G6 ((Ks mx my mz).trans (Cg.of (Kw v v v x y z))) (BL hp (nz3 hp vz vz vz) zM);obtain⟨b0,b1,b2⟩:=aN mx my mz;obtain⟨s0,s1,s2⟩:=aM v x y z;rw[s0]at b0;rw[s1]at b1;rw[s2]at b2;have zB:Al (bk0 (fmR p v x) (fmR p v y) (fmR p v z)) (bk1 (fmR p v x) (fmR p v y) (fmR p v z)) (bk2 (fmR p v x) (fmR p v y) (fmR p v z))%p≠0:=by rw[Lq];exact BL hp zM' zM'
 obtain⟨lB,eB⟩:=MB zB;obtain⟨w,w1,w2,w3⟩:=GU hp (IA p0 eB).1;have wz:w%p≠0:=by rw[AG (by omega) w2];omega
 have e5:=hb p _ _ _ hp kx ky kz zM' lB w eB ⟨w1,w2,w3⟩;generalize bk0 (fmR p v x) (fmR p v y) (fmR p v z)=B0 at *;generalize bk1 (fmR p v x) (fmR p v y) (fmR p v z)=B1 at *;generalize bk2 (fmR p v x) (fmR p v y) (fmR p v z)=B2 at *;have c0:CgR p (fmR p w B0) (AQ (w*(v*v)) (bk0 x y z)):=(Fa p w B0).trans ((CgR.sc Cg.rfl b0).trans (CgR.of (Ib _ _ _)));have c1:CgR p (fmR p w B1) (AQ (w*(v*v)) (bk1 x y z)):=(Fa p w B1).trans ((CgR.sc Cg.rfl b1).trans (CgR.of (Ib _ _ _)));have c2:CgR p (fmR p w B2) (AQ (w*(v*v)) (bk2 x y z)):=(Fa p w B2).trans ((CgR.sc Cg.rfl b2).trans (CgR.of (Ib _ _ _)))
 -- the product
 have row:∀{r t:R3},CgR p t (AQ (d0*d1*d2*d3*Al a b c) (rm r x y z))->CgR p (mlR p (fmR p u t) (fmR p w B0) (fmR p w B1) (fmR p w B2)) (AQ (w*(v*v)*(u*(d0*d1*d2*d3*Al a b c))*Al x y z) r):=λ{r t} ht=>by
  have q:CgR p (fmR p u t) (AQ (u*(d0*d1*d2*d3*Al a b c)) (rm r x y z)):=(Fa p u t).trans ((CgR.sc Cg.rfl ht).trans (CgR.of (Ib _ _ _)));refine(ZV p _ _ _ _).trans ((mf q c0 c1 c2).trans (CgR.of ?_));rw[wT,m9,mh,Ib,Ib]
 have q0:=row r0;have q1:=row r1;have q2:=row r2;have kz':w*(v*v)*(u*(d0*d1*d2*d3*Al a b c))*Al x y z%p≠0:=BL hp (BL hp (BL hp wz (BL hp vz vz)) (BL hp uz (BL hp (BL hp (nz3 hp n0 n1 n2) n3) hD))) zM;obtain⟨l,t,el,it,f0',f1',f2'⟩:=qZ hp kz' ia ib ic l1 q0 q1 q2;have zR:Al (mlR p (fmR p u x') (fmR p w B0) (fmR p w B1) (fmR p w B2)) (mlR p (fmR p u y') (fmR p w B0) (fmR p w B1) (fmR p w B2)) (mlR p (fmR p u z') (fmR p w B0) (fmR p w B1) (fmR p w B2))%p≠0:=G6 ((Ks q0 q1 q2).trans (Cg.of (Kw _ _ _ a b c))) (BL hp (nz3 hp kz' kz' kz') hD);have e6:=ha p _ _ _ _ _ _ hp (F5 p0 u x') (F5 p0 u y') (F5 p0 u z') (F5 p0 w B0) (F5 p0 w B1) (F5 p0 w B2) zR l t el it;rw[f0',f1',f2']at e6;exact vY e1 e2 e3 e4 e5 e6
section
variable{Z:Gam}{ns:Ac Ad}
end
section
variable{Z:Gam}{ns:Ac Ad}{many s5 s6 s7 s8 s9 s0 s1 s2:Sl}{p:Ad}{a b c:R3}
end
noncomputable def Ps:E:=(.call 1 (.cons (.var 0) (.cons (.var 3) .nil)))
noncomputable def Qi:Df:=⟨4,Ae,(.cons (.asg 2 Ae (.comp Ps 3 (.e (.var 1)) B7)) (.cons (.ife (.no (.bi .any (.cons (.var 2) .nil))) (.cons (.rais 5 (.cons (.str (Az "all six numbers have the rest 0")) .nil)) .nil) .nil) (.cons (.ret (.call 17 (.cons (.var 0) (.cons (.var 2) .nil)))) .nil)))⟩
noncomputable def Nn:Df:=⟨1,Ae,(.cons (.ret (.call 122 (.cons (.var 0) (.cons (.tup (.cons (.int 0) (.cons (.int 1) (.cons (.int 0) (.cons (.int 0) (.cons (.un .USub (.int 1)) (.cons (.int 0) .nil))))))) .nil)))) .nil)⟩
theorem UI:∀ xs:Ac Ad,F6 (ds xs)=.ok (xs.any λx=>x != 0)
 |[]=>rfl
 |x::xs=>by
  show (EN (.int x)).bind (λb=>(F6 (ds xs)).bind λc=>.ok (b||c))=_
  rw[UI xs];rfl
theorem U_1{p:Ad}(hp:0<p):∀ xs:Ac Ad,((xs.map λx=>x%p).any λx=>x != 0)=(AX p xs).isSome
 |[]=>rfl
 |x::xs=>by
  unfold AX;rw[Bq,Jy];by_cases h:x%p=0
  .rw[AO h,h,U_1 hp xs];rfl
  .rw[AW h];simp[h]
theorem WV(xs:Ac Ad):(xs.map λx=>x%p).map (λx=>x%p)=xs.map λx=>x%p:=by
 rw[DL];refine DZ λx _=>?_
 show x%p%p=x%p;rw[AS _ (Bu p)]
def InL(p:Ad)(xs:Ac Ad):Prop:=∀ x∈xs,0<=x/\x<p
theorem InL.set(h:InL p xs)(k:Ag)(h0:0<=v)(h1:v<p):InL p (xs.set k v):=λx hx=>by
 rcases List.mem_or_eq_of_mem_set hx with z|rfl
 .exact h x z
 .exact⟨h0,h1⟩
section
variable{Z:Gam}{ns:Ac Ad}{p at_:Ad}
end
section
variable{Z:Gam}{ns:Ac Ad}{p t:Ad}
end
structure C6 where
 c0:Ad
 c1:Ad
 c2:Ad
 c3:Ad
 c4:Ad
 c5:Ad
variable{C:C6}
noncomputable def C6.l(C:C6):Ac Ad:=[C.c0,C.c1,C.c2,C.c3,C.c4,C.c5]
noncomputable def BW(C:C6):D:=.tup (ds C.l)
noncomputable def vI(C:C6)(x:R3):Ad:=C.c0*x.1*x.1+C.c1*x.2.1*x.2.1+C.c2*x.2.2*x.2.2+(C.c3*x.1*x.2.1+C.c4*x.1*x.2.2+C.c5*x.2.1*x.2.2)
noncomputable def tw0(C:C6):R3:=(2*C.c0,C.c3,C.c4)
noncomputable def tw1(C:C6):R3:=(C.c3,2*C.c1,C.c5)
noncomputable def tw2(C:C6):R3:=(C.c4,C.c5,2*C.c2)
noncomputable def bI(C:C6)(x y:R3):Ad:=Ay (ap (tw0 C) (tw1 C) (tw2 C) x) y
noncomputable def scC(k:Ad)(C:C6):C6:=⟨k*C.c0,k*C.c1,k*C.c2,k*C.c3,k*C.c4,k*C.c5⟩
def CgC(p:Ad)(C D:C6):Prop:=Cg p C.c0 D.c0/\Cg p C.c1 D.c1/\Cg p C.c2 D.c2/\Cg p C.c3 D.c3/\Cg p C.c4 D.c4/\Cg p C.c5 D.c5
noncomputable def pb(C:C6)(a b c:R3):C6:=⟨vI C (BD a b c),vI C (Bx a b c),vI C (Bz a b c),bI C (BD a b c) (Bx a b c),bI C (BD a b c) (Bz a b c),bI C (Bx a b c) (Bz a b c)⟩
section
variable{p:Ad}{C D E:C6}{a b c a' b' c' x y x' y':R3}{k k':Ad}
theorem C6.ext'(h0:C.c0=D.c0)(h1:C.c1=D.c1)(h2:C.c2=D.c2)(h3:C.c3=D.c3)(h4:C.c4=D.c4)(h5:C.c5=D.c5):C=D:=by
 cases C;cases D;simp_all
theorem CgC.rfl:CgC p C C:=⟨Cg.rfl,Cg.rfl,Cg.rfl,Cg.rfl,Cg.rfl,Cg.rfl⟩
theorem CgC.of(h:C=D):CgC p C D:=by rw[h];exact CgC.rfl
theorem CgC.symm(h:CgC p C D):CgC p D C:=⟨h.1.symm,h.2.1.symm,h.2.2.1.symm,h.2.2.2.1.symm,h.2.2.2.2.1.symm,h.2.2.2.2.2.symm⟩
theorem CgC.trans(h:CgC p C D)(g:CgC p D E):CgC p C E:=⟨h.1.trans g.1,h.2.1.trans g.2.1,h.2.2.1.trans g.2.2.1,h.2.2.2.1.trans g.2.2.2.1,h.2.2.2.2.1.trans g.2.2.2.2.1,h.2.2.2.2.2.trans g.2.2.2.2.2⟩
theorem CgC.sc(hk:Cg p k k')(h:CgC p C D):CgC p (scC k C) (scC k' D):=⟨hk.mul h.1,hk.mul h.2.1,hk.mul h.2.2.1,hk.mul h.2.2.2.1,hk.mul h.2.2.2.2.1,hk.mul h.2.2.2.2.2⟩
theorem Jr(h:CgC p C D)(hx:CgR p x x'):Cg p (vI C x) (vI D x'):=
 (((((h.1.mul hx.1).mul hx.1).add ((h.2.1.mul hx.2.1).mul hx.2.1)).add ((h.2.2.1.mul hx.2.2).mul hx.2.2))).add ((((h.2.2.2.1.mul hx.1).mul hx.2.1).add ((h.2.2.2.2.1.mul hx.1).mul hx.2.2)).add ((h.2.2.2.2.2.mul hx.2.1).mul hx.2.2))
theorem WK(h:CgC p C D):CgR p (tw0 C) (tw0 D)/\CgR p (tw1 C) (tw1 D)/\CgR p (tw2 C) (tw2 D):=
 ⟨⟨Cg.rfl.mul h.1,h.2.2.2.1,h.2.2.2.2.1⟩,⟨h.2.2.2.1,Cg.rfl.mul h.2.1,h.2.2.2.2.2⟩,⟨h.2.2.2.2.1,h.2.2.2.2.2,Cg.rfl.mul h.2.2.1⟩⟩
theorem di(ha:CgR p a a')(hb:CgR p b b')(hc:CgR p c c')(hx:CgR p x x'):CgR p (ap a b c x) (ap a' b' c' x'):=⟨FB ha hx,FB hb hx,FB hc hx⟩
theorem R9(h:CgC p C D)(hx:CgR p x x')(hy:CgR p y y'):Cg p (bI C x y) (bI D x' y'):=
 let ⟨t0,t1,t2⟩:=WK h
 FB (di t0 t1 t2 hx) hy
theorem OA(h:CgC p C D)(ha:CgR p a a')(hb:CgR p b b')(hc:CgR p c c'):CgC p (pb C a b c) (pb D a' b' c'):=
 let ⟨s0,s1,s2⟩:=Oa ha hb hc
 ⟨Jr h s0,Jr h s1,Jr h s2,R9 h s0 s1,R9 h s0 s2,R9 h s1 s2⟩
theorem Of(k l:Ad)(C:C6):scC k (scC l C)=scC (k*l) C:=by
 unfold scC;simp only[Ge]
theorem MD(C:C6):scC 1 C=C:=by unfold scC;simp only[CS]
theorem WQ(k:Ad)(C:C6)(a b c:R3):pb (scC k C) a b c=scC k (pb C a b c):=by
 unfold pb scC vI bI ap tw0 tw1 tw2 Ay;refine C6.ext' ?_ ?_ ?_ ?_ ?_ ?_<;>(simp only;grind)
theorem yI(k:Ad)(C:C6)(a b c:R3):pb C (AQ k a) (AQ k b) (AQ k c)=scC (k*k) (pb C a b c):=by
 unfold pb scC vI bI ap tw0 tw1 tw2 Ay BD Bx Bz AQ;refine C6.ext' ?_ ?_ ?_ ?_ ?_ ?_<;>(simp only;grind)
theorem Ww(C:C6)(x y z:R3)(k l m:Ad):vI C (k*x.1+l*y.1+m*z.1,k*x.2.1+l*y.2.1+m*z.2.1,k*x.2.2+l*y.2.2+m*z.2.2)=k*k*vI C x+l*l*vI C y+m*m*vI C z+(k*l*bI C x y+k*m*bI C x z+l*m*bI C y z):=by
 unfold vI bI ap tw0 tw1 tw2 Ay;simp only;grind
theorem Wu(C:C6)(x y z w:R3)(k l m:Ad):bI C (k*x.1+l*y.1+m*z.1,k*x.2.1+l*y.2.1+m*z.2.1,k*x.2.2+l*y.2.2+m*z.2.2) w=k*bI C x w+l*bI C y w+m*bI C z w:=by
 unfold bI ap tw0 tw1 tw2 Ay;simp only;grind
theorem Ku(C:C6)(x y:R3):bI C x y=bI C y x:=by
 unfold bI ap tw0 tw1 tw2 Ay;simp only;grind
theorem Ll(C:C6)(x:R3):bI C x x=2*vI C x:=by
 unfold vI bI ap tw0 tw1 tw2 Ay;simp only;grind
theorem ZX(v0 v1 v2 b0 b1 b2:Ad)(u:R3):vI ⟨v0,v1,v2,b0,b1,b2⟩ u=u.1*u.1*v0+u.2.1*u.2.1*v1+u.2.2*u.2.2*v2+(u.1*u.2.1*b0+u.1*u.2.2*b1+u.2.1*u.2.2*b2):=by
 unfold vI;simp only;grind
theorem ZY(v0 v1 v2 b0 b1 b2:Ad)(u w:R3):bI ⟨v0,v1,v2,b0,b1,b2⟩ u w=u.1*(w.1*(2*v0)+w.2.1*b0+w.2.2*b1)+u.2.1*(w.1*b0+w.2.1*(2*v1)+w.2.2*b2)+u.2.2*(w.1*b1+w.2.1*b2+w.2.2*(2*v2)):=by
 unfold bI ap tw0 tw1 tw2 Ay;simp only;grind
theorem cI(C:C6)(s0 s1 s2 u:R3):vI C (u.1*s0.1+u.2.1*s1.1+u.2.2*s2.1,u.1*s0.2.1+u.2.1*s1.2.1+u.2.2*s2.2.1,u.1*s0.2.2+u.2.1*s1.2.2+u.2.2*s2.2.2)=vI ⟨vI C s0,vI C s1,vI C s2,bI C s0 s1,bI C s0 s2,bI C s1 s2⟩ u:=by
 exact(Ww C s0 s1 s2 u.1 u.2.1 u.2.2).trans (ZX _ _ _ _ _ _ u).symm
theorem cJ(C:C6)(s0 s1 s2 u w:R3):bI C (u.1*s0.1+u.2.1*s1.1+u.2.2*s2.1,u.1*s0.2.1+u.2.1*s1.2.1+u.2.2*s2.2.1,u.1*s0.2.2+u.2.1*s1.2.2+u.2.2*s2.2.2) (w.1*s0.1+w.2.1*s1.1+w.2.2*s2.1,w.1*s0.2.1+w.2.1*s1.2.1+w.2.2*s2.2.1,w.1*s0.2.2+w.2.1*s1.2.2+w.2.2*s2.2.2)=bI ⟨vI C s0,vI C s1,vI C s2,bI C s0 s1,bI C s0 s2,bI C s1 s2⟩ u w:=by
 have e:∀ s:R3,bI C s (w.1*s0.1+w.2.1*s1.1+w.2.2*s2.1,w.1*s0.2.1+w.2.1*s1.2.1+w.2.2*s2.2.1,w.1*s0.2.2+w.2.1*s1.2.2+w.2.2*s2.2.2)=w.1*bI C s0 s+w.2.1*bI C s1 s+w.2.2*bI C s2 s:=λs=>(Ku C _ _).trans (Wu C s0 s1 s2 s w.1 w.2.1 w.2.2)
 refine IZ ?_ (ZY _ _ _ _ _ _ u w).symm;rw[Wu,e,e,e,Ll C s0,Ll C s1,Ll C s2,Ku C s1 s0,Ku C s2 s0,Ku C s2 s1]
theorem k7(C:C6)(a b c x y z:R3):pb (pb C a b c) x y z=pb C (rm a x y z) (rm b x y z) (rm c x y z):=by
 have v:=λu=>(cI C (BD a b c) (Bx a b c) (Bz a b c) u).symm
 have w:=λu u'=>(cJ C (BD a b c) (Bx a b c) (Bz a b c) u u').symm
 exact C6.ext' (v (BD x y z)) (v (Bx x y z)) (v (Bz x y z)) (w (BD x y z) (Bx x y z)) (w (BD x y z) (Bz x y z)) (w (Bx x y z) (Bz x y z))
theorem k8(C:C6)(k:Ad):pb C (k,0,0) (0,k,0) (0,0,k)=scC (k*k) C:=by
 unfold pb scC vI bI ap tw0 tw1 tw2 Ay BD Bx Bz;refine C6.ext' ?_ ?_ ?_ ?_ ?_ ?_<;>(simp only;grind)
theorem wU(a b c:R3):rm a (bk0 a b c) (bk1 a b c) (bk2 a b c)=(Al a b c,0,0)/\rm b (bk0 a b c) (bk1 a b c) (bk2 a b c)=(0,Al a b c,0)/\rm c (bk0 a b c) (bk1 a b c) (bk2 a b c)=(0,0,Al a b c):=by
 unfold rm Ay bk0 bk1 bk2 BD Bx Bz crs Al det;refine⟨?_,?_,?_⟩<;>refine Bp ?_ (Bp ?_ ?_)<;>(simp only;grind)
theorem Wr(C:C6)(a b c:R3):Al (tw0 (pb C a b c)) (tw1 (pb C a b c)) (tw2 (pb C a b c))=Al a b c*Al a b c*Al (tw0 C) (tw1 C) (tw2 C):=by
 have row:∀ s:R3,(bI C s (BD a b c),bI C s (Bx a b c),bI C s (Bz a b c))=ap (BD a b c) (Bx a b c) (Bz a b c) (ap (tw0 C) (tw1 C) (tw2 C) s):=λs=>by
  unfold bI;rw[HW,HW _ (Bx a b c),HW _ (Bz a b c)];rfl
 have e0:tw0 (pb C a b c)=(bI C (BD a b c) (BD a b c),bI C (BD a b c) (Bx a b c),bI C (BD a b c) (Bz a b c)):=by rw[Ll];rfl
 have e1:tw1 (pb C a b c)=(bI C (Bx a b c) (BD a b c),bI C (Bx a b c) (Bx a b c),bI C (Bx a b c) (Bz a b c)):=by rw[Ll,Ku C (Bx a b c) (BD a b c)];rfl
 have e2:tw2 (pb C a b c)=(bI C (Bz a b c) (BD a b c),bI C (Bz a b c) (Bx a b c),bI C (Bz a b c) (Bz a b c)):=by rw[Ll,Ku C (Bz a b c) (BD a b c),Ku C (Bz a b c) (Bx a b c)];rfl
 rw[e0,e1,e2,row,row,row,Rn,Rn,VA];grind
theorem qJ(k:Ad)(C:C6):Al (tw0 (scC k C)) (tw1 (scC k C)) (tw2 (scC k C))=k*k*k*Al (tw0 C) (tw1 C) (tw2 C):=by
 rw[<-Kw];unfold tw0 tw1 tw2 scC AQ;simp only[<-Ge,BS 2 k]
def PrC(p:Ad)(C D:C6):Prop:=∃ d,d%p≠0/\CgC p C (scC d D)
theorem PrC.rfl(hp:P4 p):PrC p C C:=⟨1,hp.o1,CgC.of (MD C).symm⟩
theorem PrC.trans(hp:P4 p)(i:PrC p C D)(j:PrC p D E):PrC p C E:=by
 obtain⟨d,dz,e⟩:=i;obtain⟨d',dz',e'⟩:=j;exact⟨d*d',BL hp dz dz',e.trans ((CgC.sc Cg.rfl e').trans (CgC.of (Of _ _ _)))⟩
theorem Rt(hp:P4 p)(dz:k%p≠0):∃ u,u%p≠0/\Cg p (u*k) 1:=by
 obtain⟨u,u1,u2,u3⟩:=GU hp dz;refine⟨u,by rw[AG (by omega) u2];omega,?_⟩
 show u*k%p=1%p;rw[BS,u3,AG (by decide) (by have:=hp.lo;omega)]
theorem PrC.symm(hp:P4 p)(i:PrC p C D):PrC p D C:=by
 obtain⟨d,dz,e⟩:=i;obtain⟨u,uz,o⟩:=Rt hp dz;refine⟨u,uz,?_⟩;have q:=CgC.sc (k:=u) (k':=u) Cg.rfl e;rw[Of]at q;exact(q.trans ((CgC.sc o CgC.rfl).trans (CgC.of (MD D)))).symm
theorem PrC.pb(i:PrC p C D):PrC p (OvC.pb C a b c) (OvC.pb D a b c):=by
 obtain⟨d,dz,e⟩:=i;exact⟨d,dz,(OA e CgR.rfl CgR.rfl CgR.rfl).trans (CgC.of (WQ d D a b c))⟩
theorem PrC.tab(hp:P4 p)(kz:k%p≠0)(ha:CgR p a (AQ k a'))(hb:CgR p b (AQ k b'))(hc:CgR p c (AQ k c')):PrC p (OvC.pb C a b c) (OvC.pb C a' b' c'):=
 ⟨k*k,BL hp kz kz,(OA CgC.rfl ha hb hc).trans (CgC.of (yI k C a' b' c'))⟩
def InC(p:Ad)(C:C6):Prop:=∀ x∈C.l,0<=x/\x<p
theorem gE(hp:P4 p)(iC:InC p C)(iD:InC p D)(lC:AX p C.l=Ab 1)(lD:AX p D.l=Ab 1)(h:PrC p C D):C=D:=by
 obtain⟨d,dz,e⟩:=h;have p1:1<p:=by have:=hp.lo;omega
 have rs:C.l.map (λx=>x%p)=(D.l.map λx=>d*x).map (λx=>x%p):=by
  obtain⟨h0,h1,h2,h3,h4,h5⟩:=e;simp only[C6.l,Bq,GC];rw[show C.c0%p=d*D.c0%p from h0,show C.c1%p=d*D.c1%p from h1,show C.c2%p=d*D.c2%p from h2,show C.c3%p=d*D.c3%p from h3,show C.c4%p=d*D.c4%p from h4,show C.c5%p=d*D.c5%p from h5]
 have el:=JW hp dz (f:=λx=>d*x) (λ_=>rfl) D.l
 rw[lD,<-K8 rs,lC,Ef,Cn,DJ]at el;have o:Cg p d 1:=by
  show d%p=1%p;rw[<-el,AG (by decide) p1]
 obtain⟨h0,h1,h2,h3,h4,h5⟩:=e.trans ((CgC.sc o CgC.rfl).trans (CgC.of (MD D)));have same:∀{u v:Ad},u∈C.l->v∈D.l->Cg p u v->u=v:=λhu hv huv=>by
  have:=show _%p=_%p from huv
  rwa [AG (iC _ hu).1 (iC _ hu).2,AG (iD _ hv).1 (iD _ hv).2]at this
 exact C6.ext' (same (by simp[C6.l]) (by simp[C6.l]) h0) (same (by simp[C6.l]) (by simp[C6.l]) h1) (same (by simp[C6.l]) (by simp[C6.l]) h2) (same (by simp[C6.l]) (by simp[C6.l]) h3) (same (by simp[C6.l]) (by simp[C6.l]) h4) (same (by simp[C6.l]) (by simp[C6.l]) h5)
theorem oK(hp:P4 p){l:Ad}(lC:AX p C.l=Ab l)(z:Al a b c%p≠0)(h:CgC p E (OvC.pb C a b c)):∃ l,AX p E.l=Ab l:=by
 cases el:AX p E.l with
 |some l=>exact⟨l,_root_.rfl⟩
 |none=>
  have hz:=Jo.mp el;have e0:CgC p E (scC 0 E):=by
   have k:∀ x∈E.l,Cg p x (0*x):=λx hx=>by show x%p=0*x%p;rw[hz x hx,E2,Bv]
   exact⟨k _ (by simp[C6.l]),k _ (by simp[C6.l]),k _ (by simp[C6.l]),k _ (by simp[C6.l]),k _ (by simp[C6.l]),k _ (by simp[C6.l])⟩
  have q:CgC p (OvC.pb E (bk0 a b c) (bk1 a b c) (bk2 a b c)) (scC (Al a b c*Al a b c) C):=by
   refine(OA h CgR.rfl CgR.rfl CgR.rfl).trans (CgC.of ?_);obtain⟨r0,r1,r2⟩:=wU a b c;rw[k7,r0,r1,r2,k8]
  have q0:CgC p (OvC.pb E (bk0 a b c) (bk1 a b c) (bk2 a b c)) (scC 0 (OvC.pb E (bk0 a b c) (bk1 a b c) (bk2 a b c))):=by
   have:=OA e0 (CgR.rfl (a:=bk0 a b c)) (CgR.rfl (a:=bk1 a b c)) (CgR.rfl (a:=bk2 a b c))
   rwa [WQ]at this
  obtain⟨u,uz,o⟩:=Rt hp (BL hp z z);have t:CgC p C (scC 0 (OvC.pb E (bk0 a b c) (bk1 a b c) (bk2 a b c))):=by
   have w:=CgC.sc (k:=u) (k':=u) Cg.rfl (q.symm.trans q0);rw[Of,Of,CP]at w;exact((CgC.of (MD C).symm).trans (CgC.sc o.symm CgC.rfl)).trans w
  have z0:AX p C.l=Af:=by
   refine Jo.mpr λx hx=>?_
   obtain⟨h0,h1,h2,h3,h4,h5⟩:=t;have k:∀{x y:Ad},Cg p x (0*y)->x%p=0:=λ{x y} h=>by rw[show x%p=_ from h,E2,Bv]
   simp only[C6.l,Av,AR,BQ]at hx;rcases hx with rfl|rfl|rfl|rfl|rfl|rfl
   .exact k h0
   .exact k h1
   .exact k h2
   .exact k h3
   .exact k h4
   .exact k h5
  rw[z0]at lC;cases lC
end
noncomputable def MJ:Df:=⟨5,Ae,(.cons (.asg 3 Ae (.bin .Add (.bin .Add (.bin .Mult (.bin .Mult (.idx (.var 1) (.int 0)) (.idx (.var 2) (.int 0))) (.idx (.var 2) (.int 0))) (.bin .Mult (.bin .Mult (.idx (.var 1) (.int 1)) (.idx (.var 2) (.int 1))) (.idx (.var 2) (.int 1)))) (.bin .Mult (.bin .Mult (.idx (.var 1) (.int 2)) (.idx (.var 2) (.int 2))) (.idx (.var 2) (.int 2))))) (.cons (.asg 4 Ae (.bin .Add (.bin .Add (.bin .Mult (.bin .Mult (.idx (.var 1) (.int 3)) (.idx (.var 2) (.int 0))) (.idx (.var 2) (.int 1))) (.bin .Mult (.bin .Mult (.idx (.var 1) (.int 4)) (.idx (.var 2) (.int 0))) (.idx (.var 2) (.int 2)))) (.bin .Mult (.bin .Mult (.idx (.var 1) (.int 5)) (.idx (.var 2) (.int 1))) (.idx (.var 2) (.int 2))))) (.cons (.ret (.call 1 (.cons (.var 0) (.cons (.bin .Add (.var 3) (.var 4)) .nil)))) .nil)))⟩
noncomputable def Px:Df:=⟨2,Ae,(.cons (.ret (.tup (.cons (.tup (.cons (.call 1 (.cons (.var 0) (.cons (.bin .Mult (.int 2) (.idx (.var 1) (.int 0))) .nil))) (.cons (.idx (.var 1) (.int 3)) (.cons (.idx (.var 1) (.int 4)) .nil)))) (.cons (.tup (.cons (.idx (.var 1) (.int 3)) (.cons (.call 1 (.cons (.var 0) (.cons (.bin .Mult (.int 2) (.idx (.var 1) (.int 1))) .nil))) (.cons (.idx (.var 1) (.int 5)) .nil)))) (.cons (.tup (.cons (.idx (.var 1) (.int 4)) (.cons (.idx (.var 1) (.int 5)) (.cons (.call 1 (.cons (.var 0) (.cons (.bin .Mult (.int 2) (.idx (.var 1) (.int 2))) .nil))) .nil)))) .nil))))) .nil)⟩
noncomputable def QP:Df:=⟨5,Ae,(.cons (.asg 4 Ae (.call 91 (.cons (.var 0) (.cons (.call 131 (.cons (.var 0) (.cons (.var 1) .nil))) (.cons (.var 2) .nil))))) (.cons (.ret (.bin .Add (.bin .Add (.bin .Mult (.idx (.var 4) (.int 0)) (.idx (.var 3) (.int 0))) (.bin .Mult (.idx (.var 4) (.int 1)) (.idx (.var 3) (.int 1)))) (.bin .Mult (.idx (.var 4) (.int 2)) (.idx (.var 3) (.int 2))))) .nil))⟩
noncomputable def NG:E:=(.call 126 (.cons (.var 0) (.cons (.var 1) (.cons (.var 6) .nil))))
noncomputable def NX:Df:=⟨7,Ae,(.cons (.asg 3 Ae (.call 104 (.cons (.call 106 (.cons (.var 0) (.cons (.var 2) .nil))) .nil))) (.cons (.asg 4 Ae (.comp NG 6 (.e (.var 3)) B7)) (.cons (.asg 5 Ae (.lst (.cons (.call 132 (.cons (.var 0) (.cons (.var 1) (.cons (.idx (.var 3) (.int 0)) (.cons (.idx (.var 3) (.int 1)) .nil))))) (.cons (.call 132 (.cons (.var 0) (.cons (.var 1) (.cons (.idx (.var 3) (.int 0)) (.cons (.idx (.var 3) (.int 2)) .nil))))) (.cons (.call 132 (.cons (.var 0) (.cons (.var 1) (.cons (.idx (.var 3) (.int 1)) (.cons (.idx (.var 3) (.int 2)) .nil))))) .nil))))) (.cons (.ret (.call 122 (.cons (.var 0) (.cons (.bin .Add (.var 4) (.var 5)) .nil)))) .nil))))⟩
theorem ix6(C:C6):B8 (BW C) (.int 0)=.ok (.int C.c0)/\B8 (BW C) (.int 1)=.ok (.int C.c1)/\B8 (BW C) (.int 2)=.ok (.int C.c2)/\B8 (BW C) (.int 3)=.ok (.int C.c3)/\B8 (BW C) (.int 4)=.ok (.int C.c4)/\B8 (BW C) (.int 5)=.ok (.int C.c5):=⟨rfl,rfl,rfl,rfl,rfl,rfl⟩
structure BC (C:C6):Prop where
 b0:Bd 10 C.c0
 b1:Bd 10 C.c1
 b2:Bd 10 C.c2
 b3:Bd 10 C.c3
 b4:Bd 10 C.c4
 b5:Bd 10 C.c5
theorem InC.b(hp:P4 p)(h:InC p C):BC C:=by
 have k:∀ x∈C.l,Bd 10 x:=λx hx=>J2 hp (h x hx).1 (h x hx).2
 exact⟨k _ (by simp[C6.l]),k _ (by simp[C6.l]),k _ (by simp[C6.l]),k _ (by simp[C6.l]),k _ (by simp[C6.l]),k _ (by simp[C6.l])⟩
def QV(Z:Gam):Prop:=∀(p:Ad)(C:C6)(x:R3),P4 p->InC p C->In3 p x->Z.F 126 [.int p,BW C,Aj Aa x]=.ok (.int (vI C x%p))
theorem lI(hr:H9 Z)(p:Ad)(C:C6)(x:R3)(hp:P4 p)(iC:InC p C)(ix:In3 p x):MJ.run Z [.int p,BW C,Aj Aa x]=.ok (.int (vI C x%p)):=by
 obtain⟨i0,i1,i2,i3,i4,i5⟩:=ix6 C;obtain⟨x0,x1,x2⟩:=Fk Aa x;have bC:=iC.b hp;have bx:=Cd hp ix;have k:∀ {u v},Bd 10 u->Bd 10 v->EM u v=Aa:=λhu hv=>F3 hu hv (by decide) (by decide)
 have k2:∀ {u v w},Bd 10 u->Bd 10 v->Bd 10 w->EM (u*v) w=Aa:=λhu hv hw=>F3 (hu.mul hv) hw (by decide) (by decide)
 simp[MJ,Df.run,Bo,i0,i1,i2,i3,i4,i5,x0,x1,x2,k bC.b0 bx.1,k bC.b1 bx.2.1,k bC.b2 bx.2.2,k bC.b3 bx.1,k bC.b4 bx.1,k bC.b5 bx.2.1,k2 bC.b0 bx.1 bx.1,k2 bC.b1 bx.2.1 bx.2.1,k2 bC.b2 bx.2.2 bx.2.2,k2 bC.b3 bx.1 bx.2.1,k2 bC.b4 bx.1 bx.2.2,k2 bC.b5 bx.2.1 bx.2.2,hr p _ hp.pos];rfl
noncomputable def t0(p:Ad)(C:C6):R3:=(2*C.c0%p,C.c3,C.c4)
noncomputable def t1(p:Ad)(C:C6):R3:=(C.c3,2*C.c1%p,C.c5)
noncomputable def t2(p:Ad)(C:C6):R3:=(C.c4,C.c5,2*C.c2%p)
theorem aX(hp:P4 p)(h:InC p C):In3 p (t0 p C)/\In3 p (t1 p C)/\In3 p (t2 p C):=by
 have p0:=hp.pos;have k:∀ x∈C.l,0<=x/\x<p:=h;have m:∀ x:Ad,0<=x%p/\x%p<p:=λx=>⟨AJ _ (by omega),AF _ p0⟩
 exact⟨⟨m _,k _ (by simp[C6.l,t0]),k _ (by simp[C6.l,t0])⟩,⟨k _ (by simp[C6.l,t1]),m _,k _ (by simp[C6.l,t1])⟩,⟨k _ (by simp[C6.l,t2]),k _ (by simp[C6.l,t2]),m _⟩⟩
theorem aY(p:Ad)(C:C6):CgR p (t0 p C) (tw0 C)/\CgR p (t1 p C) (tw1 C)/\CgR p (t2 p C) (tw2 C):=⟨⟨Cg.md rfl,Cg.rfl,Cg.rfl⟩,⟨Cg.rfl,Cg.md rfl,Cg.rfl⟩,⟨Cg.rfl,Cg.rfl,Cg.md rfl⟩⟩
def VS(Z:Gam):Prop:=∀(p:Ad)(C:C6),P4 p->Z.F 131 [.int p,BW C]=.ok (Co (t0 p C) (t1 p C) (t2 p C))
theorem lJ(hr:H9 Z)(p:Ad)(C:C6)(hp:P4 p):Px.run Z [.int p,BW C]=.ok (Co (t0 p C) (t1 p C) (t2 p C)):=by
 obtain⟨i0,i1,i2,i3,i4,i5⟩:=ix6 C;have m22:∀ y,DQ 2 y=Aa:=λy=>G4 (by decide) (by decide)
 simp[Px,Df.run,Bo,i0,i1,i2,i3,i4,i5,m22,hr p _ hp.pos];rfl
noncomputable def mxI(p:Ad)(C:C6)(x y:R3):Ad:=Ay (Ay (t0 p C) x%p,Ay (t1 p C) x%p,Ay (t2 p C) x%p) y
theorem RZ(p:Ad)(C:C6)(x y:R3):Cg p (mxI p C x y) (bI C x y):=by
 obtain⟨h0,h1,h2⟩:=aY p C;exact FB ⟨(Cg.md rfl).trans (FB h0 CgR.rfl),(Cg.md rfl).trans (FB h1 CgR.rfl),(Cg.md rfl).trans (FB h2 CgR.rfl)⟩ CgR.rfl
def V6(Z:Gam):Prop:=∀(p:Ad)(C:C6)(x y:R3),P4 p->InC p C->In3 p x->In3 p y->Z.F 132 [.int p,BW C,Aj Aa x,Aj Aa y]=.ok (.int (mxI p C x y))
theorem vZ(ht:VS Z)(hs:RA Z)(p:Ad)(C:C6)(x y:R3)(hp:P4 p)(iC:InC p C)(ix:In3 p x)(iy:In3 p y):QP.run Z [.int p,BW C,Aj Aa x,Aj Aa y]=.ok (.int (mxI p C x y)):=by
 have p0:=hp.pos;obtain⟨h0,h1,h2⟩:=aX hp iC;have e1:=ht p C hp;have e2:Z.F 91 [.int p,Co (t0 p C) (t1 p C) (t2 p C),Aj Aa x]=_:=hs p Aa Aa Aa (t0 p C) (t1 p C) (t2 p C) x p0 ((Cd hp h0).b3 (by decide)) ((Cd hp h1).b3 (by decide)) ((Cd hp h2).b3 (by decide)) ((Cd hp ix).b3 (by decide))
 have iw:In3 p (Ay (t0 p C) x%p,Ay (t1 p C) x%p,Ay (t2 p C) x%p):=⟨⟨AJ _ (by omega),AF _ p0⟩,⟨AJ _ (by omega),AF _ p0⟩,⟨AJ _ (by omega),AF _ p0⟩⟩
 unfold mxI;generalize (Ay (t0 p C) x%p,Ay (t1 p C) x%p,Ay (t2 p C) x%p)=w at *;obtain⟨x0,x1,x2⟩:=Fk Aa w;obtain⟨y0,y1,y2⟩:=Fk Aa y;have bw:=Cd hp iw;have by_:=Cd hp iy;have k:∀ {u v},Bd 10 u->Bd 10 v->EM u v=Aa:=λhu hv=>F3 hu hv (by decide) (by decide)
 simp[QP,Df.run,Bo,e1,e2,x0,x1,x2,y0,y1,y2,k bw.1 by_.1,k bw.2.1 by_.2.1,k bw.2.2 by_.2.2];rfl
def Od(Z:Gam):Prop:=∀(p:Ad)(b:Ak)(xs:Ac Ad)(l t:Ad),P4 p->AX p xs=Ab l->D9 p l t->Z.F 122 [.int p,Ds b xs]=.ok (.tup (ds (fmI p t xs)))
theorem zC(hr:H9 Z)(hf:NZ Z){b:Ak}{l t:Ad}(hp:P4 p)(e:AX p xs=Ab l)(it:D9 p l t):Qi.run Z [.int p,Ds b xs]=.ok (.tup (ds (fmI p t xs))):=by
 have p0:=hp.pos;have cp:BK (cG Z [si p,sh (Ds b xs),Af,Af] 3 B7) (cF Z [si p,sh (Ds b xs),Af,Af] 3 Ps) (ds xs)=.ok (ds (xs.map λx=>x%p)):=by
  refine Kq xs λx _=>⟨rfl,?_⟩
  simp[cF,Ps,hr p x p0]
 have an:=UI (xs.map λx=>x%p)
 rw[U_1 p0,e]at an;have le:AX p (xs.map λx=>x%p)=Ab l:=by rw[K8 (WV xs)];exact e
 have f:=hf p Ae (xs.map λx=>x%p) l t hp le it
 rw[QF (WV xs)]at f;have f':Z.F 17 [.int p,.lst (ds (xs.map λx=>x%p))]=.ok (.tup (ds (fmI p t xs))):=f
 simp[Qi,Df.run,Bo,Qj,cp,an,f']
theorem RV{E:C6}{l:Ad}(hp:P4 p)(el:AX p E.l=Ab l):∃(t:Ad)(D:C6),D9 p l t/\fmI p t E.l=D.l/\InC p D/\AX p D.l=Ab 1/\PrC p D E:=by
 have p0:=hp.pos;obtain⟨lz,_,_⟩:=IA p0 el;obtain⟨t,t1,t2,t3⟩:=GU hp lz;have tz:t%p≠0:=by rw[AG (by omega) t2];omega
 have ff:∀ x,(t*(x%p)%p)%p=t*x%p:=λx=>by rw[AS _ (Bu p),Bm t (x%p) p,AS _ (Bu p),<-Bm]
 have lv:=JW hp tz (f:=λx=>t*(x%p)%p) ff E.l
 rw[el,Ef,BS,t3]at lv;have key:∀ x:Ad,Cg p (t*(x%p)%p) (t*x):=λx=>(Cg.md rfl).trans (Cg.rfl.mul (Cg.md rfl))
 refine⟨t,⟨t*(E.c0%p)%p,t*(E.c1%p)%p,t*(E.c2%p)%p,t*(E.c3%p)%p,t*(E.c4%p)%p,t*(E.c5%p)%p⟩,⟨t1,t2,t3⟩,rfl,λx hx=>?_,lv,t,tz,key _,key _,key _,key _,key _,key _⟩
 obtain⟨y,_,rfl⟩:=Bb.mp (show x∈E.l.map λx=>t*(x%p)%p from hx)
 exact⟨AJ _ (by omega),AF _ p0⟩
theorem pK(hb:Oe Z)(hc:MQ Z)(hv:QV Z)(hm:V6 Z)(hf:Od Z)(p:Ad)(C:C6)(a b c:R3)(iC:InC p C)(lC:AX p C.l=Ab 1)(T:GoodR p a b c):∃ D:C6,InC p D/\AX p D.l=Ab 1/\PrC p D (pb C (bk0 a b c) (bk1 a b c) (bk2 a b c))/\NX.run Z [.int p,BW C,Co a b c]=.ok (BW D):=by
 have hp:=T.p4;have p0:=hp.pos;have zB:Al (bk0 a b c) (bk1 a b c) (bk2 a b c)%p≠0:=by rw[Lq];exact BL hp T.nz T.nz
 obtain⟨l,el⟩:=MB zB;obtain⟨u,u1,u2,u3⟩:=GU hp (IA p0 el).1;have uz:u%p≠0:=by rw[AG (by omega) u2];omega
 have e1:=hb p a b c hp T.ia T.ib T.ic T.nz l u el ⟨u1,u2,u3⟩;have r0:=Fa p u (bk0 a b c);have r1:=Fa p u (bk1 a b c);have r2:=Fa p u (bk2 a b c);have i0:=F5 p0 u (bk0 a b c);have i1:=F5 p0 u (bk1 a b c);have i2:=F5 p0 u (bk2 a b c);have zR:Al (fmR p u (bk0 a b c)) (fmR p u (bk1 a b c)) (fmR p u (bk2 a b c))%p≠0:=G6 ((Ks r0 r1 r2).trans (Cg.of (Kw u u u _ _ _))) (BL hp (nz3 hp uz uz uz) zB);have pr:PrC p (pb C (fmR p u (bk0 a b c)) (fmR p u (bk1 a b c)) (fmR p u (bk2 a b c))) (pb C (bk0 a b c) (bk1 a b c) (bk2 a b c)):=PrC.tab hp uz r0 r1 r2;generalize fmR p u (bk0 a b c)=x at *;generalize fmR p u (bk1 a b c)=y at *;generalize fmR p u (bk2 a b c)=z at *;have e2:Z.F 104 [Co x y z]=.ok (Co (BD x y z) (Bx x y z) (Bz x y z)):=hc Aa Aa x y z;have j0:In3 p (BD x y z):=⟨i0.1,i1.1,i2.1⟩;have j1:In3 p (Bx x y z):=⟨i0.2.1,i1.2.1,i2.2.1⟩;have j2:In3 p (Bz x y z):=⟨i0.2.2,i1.2.2,i2.2.2⟩;have m01:=hm p C _ _ hp iC j0 j1;have m02:=hm p C _ _ hp iC j0 j2;have m12:=hm p C _ _ hp iC j1 j2;have v0:=hv p C _ hp iC j0;have v1:=hv p C _ hp iC j1;have v2:=hv p C _ hp iC j2;have cg:CgC p ⟨vI C (BD x y z)%p,vI C (Bx x y z)%p,vI C (Bz x y z)%p,mxI p C (BD x y z) (Bx x y z),mxI p C (BD x y z) (Bz x y z),mxI p C (Bx x y z) (Bz x y z)⟩ (pb C x y z):=⟨Cg.md rfl,Cg.md rfl,Cg.md rfl,RZ p C _ _,RZ p C _ _,RZ p C _ _⟩;obtain⟨l',el'⟩:=oK hp lC zR cg;obtain⟨t,D,it,eD,iD,lD,pD⟩:=RV hp el';have e3:=hf p Ae _ l' t hp el' it;rw[eD]at e3;refine⟨D,iD,lD,(pD.trans hp ⟨1,hp.o1,cg.trans (CgC.of (MD _).symm)⟩).trans hp pr,?_⟩;generalize hX:(mxI p C (BD x y z) (Bx x y z))=M01 at *;generalize hY:(mxI p C (BD x y z) (Bz x y z))=M02 at *;generalize hZ:(mxI p C (Bx x y z) (Bz x y z))=M12 at *;generalize vI C (BD x y z)%p=V0 at *;generalize vI C (Bx x y z)%p=V1 at *;generalize vI C (Bz x y z)%p=V2 at *;have e3':Z.F 122 [.int p,.lst [.int V0,.int V1,.int V2,.int M01,.int M02,.int M12]]=.ok (BW D):=e3;have key:∀(r:R3)(v:Ad),Z.F 126 [.int p,BW C,Aj Aa r]=.ok (.int v)->cF Z [si p,sh (BW C),sh (Co a b c),sh (Co (BD x y z) (Bx x y z) (Bz x y z)),Af,Af,Af] 6 NG (Aj Aa r)=.ok (.int v):=λr v h=>by
  simp[cF,NG,h]
 have gg:∀ r,cG Z [si p,sh (BW C),sh (Co a b c),sh (Co (BD x y z) (Bx x y z) (Bz x y z)),Af,Af,Af] 6 B7 r=.ok Aa:=λ_=>rfl
 have cp:BK (cG Z [si p,sh (BW C),sh (Co a b c),sh (Co (BD x y z) (Bx x y z) (Bz x y z)),Af,Af,Af] 6 B7) (cF Z [si p,sh (BW C),sh (Co a b c),sh (Co (BD x y z) (Bx x y z) (Bz x y z)),Af,Af,Af] 6 NG) [Aj Aa (BD x y z),Aj Aa (Bx x y z),Aj Aa (Bz x y z)]=.ok [.int V0,.int V1,.int V2]:=by
  simp[BK,gg,key _ _ v0,key _ _ v1,key _ _ v2]
 have sq:Ch (Co (BD x y z) (Bx x y z) (Bz x y z))=.ok [Aj Aa (BD x y z),Aj Aa (Bx x y z),Aj Aa (Bz x y z)]:=rfl;have k0:B8 (Co (BD x y z) (Bx x y z) (Bz x y z)) (.int 0)=.ok (Aj Aa (BD x y z)):=rfl;have k1:B8 (Co (BD x y z) (Bx x y z) (Bz x y z)) (.int 1)=.ok (Aj Aa (Bx x y z)):=rfl;have k2:B8 (Co (BD x y z) (Bx x y z) (Bz x y z)) (.int 2)=.ok (Aj Aa (Bz x y z)):=rfl;have ad:Dj .Add (.lst [.int V0,.int V1,.int V2]) (.lst [.int M01,.int M02,.int M12])=.ok (.lst [.int V0,.int V1,.int V2,.int M01,.int M02,.int M12]):=rfl;simp[NX,Df.run,Bo,e1,e2,cp,sq,k0,k1,k2,m01,m02,m12,ad,e3']
section
variable{Z:Gam}{ns:Ac Ad}{p at_:Ad}{φ:Ad->Ad}
end
noncomputable def e0R:R3:=(1,0,0)
noncomputable def e1R:R3:=(0,1,0)
noncomputable def e2R:R3:=(0,0,1)
noncomputable def e3R:R3:=(1,1,1)
theorem bX(hp:P4 p):In3 p e0R/\In3 p e1R/\In3 p e2R/\In3 p e3R:=by
 have z:0<=(0:Ad)/\(0:Ad)<p:=⟨by decide,hp.pos⟩
 have o:0<=(1:Ad)/\(1:Ad)<p:=⟨by decide,by have:=hp.lo;omega⟩
 exact⟨⟨o,z,z⟩,⟨z,o,z⟩,⟨z,z,o⟩,⟨o,o,o⟩⟩
theorem aE(hp:P4 p):Hw p e0R e1R e2R e3R:=by
 rcases hp with rfl|rfl|rfl|rfl<;>exact⟨by decide,by decide,by decide,by decide⟩
structure Frm (p:Ad) (f0 f1 f2 f3:R3):Prop where
 i0:In3 p f0
 i1:In3 p f1
 i2:In3 p f2
 i3:In3 p f3
 gen:Hw p f0 f1 f2 f3
def Pr(p:Ad)(x y:R3):Prop:=∃ d,d%p≠0/\CgR p x (AQ d y)
section
variable{p:Ad}{a b c x y z f g h:R3}{k:Ad}
theorem MN(x:R3):AQ 1 x=x:=by unfold AQ;simp only[CS]
theorem Pr.rfl(hp:P4 p):Pr p x x:=⟨1,hp.o1,CgR.of (MN x).symm⟩
theorem Pr.trans(hp:P4 p)(i:Pr p x y)(j:Pr p y z):Pr p x z:=by
 obtain⟨d,dz,e⟩:=i;obtain⟨d',dz',e'⟩:=j;exact⟨d*d',BL hp dz dz',e.trans ((CgR.sc Cg.rfl e').trans (CgR.of (Ib _ _ _)))⟩
theorem Pr.symm(hp:P4 p)(i:Pr p x y):Pr p y x:=by
 obtain⟨d,dz,e⟩:=i;obtain⟨u,u1,u2,u3⟩:=GU hp dz;have uz:u%p≠0:=by rw[AG (by omega) u2];omega
 have o:Cg p (u*d) 1:=by
  show u*d%p=1%p;rw[BS,u3,AG (by decide) (by have:=hp.lo;omega)]
 refine⟨u,uz,?_⟩;have q:=CgR.sc (k:=u) (k':=u) Cg.rfl e;rw[Ib]at q;exact(q.trans ((CgR.sc o CgR.rfl).trans (CgR.of (MN y)))).symm
theorem Pr.cg(hp:P4 p)(e:CgR p x y):Pr p x y:=⟨1,hp.o1,e.trans (CgR.of (MN y).symm)⟩
theorem OF{a' b' c' x':R3}(ha:CgR p a a')(hb:CgR p b b')(hc:CgR p c c')(hx:CgR p x x'):CgR p (ap a b c x) (ap a' b' c' x'):=⟨FB ha hx,FB hb hx,FB hc hx⟩
theorem Pr.ap(i:Pr p x y):Pr p (OvC.ap a b c x) (OvC.ap a b c y):=by
 obtain⟨d,dz,e⟩:=i;exact⟨d,dz,(OF CgR.rfl CgR.rfl CgR.rfl e).trans (CgR.of (Xa a b c y d))⟩
theorem dh(k:Ad)(a b c x:R3):ap (AQ k a) (AQ k b) (AQ k c) x=AQ k (ap a b c x):=by
 unfold ap AQ Ay;refine Bp ?_ (Bp ?_ ?_)<;>(simp only;grind)
theorem Pr.tab{a' b' c':R3}(kz:k%p≠0)(ha:CgR p a (AQ k a'))(hb:CgR p b (AQ k b'))(hc:CgR p c (AQ k c')):Pr p (OvC.ap a b c x) (OvC.ap a' b' c' x):=
 ⟨k,kz,(OF ha hb hc CgR.rfl).trans (CgR.of (dh k a' b' c' x))⟩
theorem aQ(a b c x y z v:R3):ap (rm a x y z) (rm b x y z) (rm c x y z) v=ap a b c (ap x y z v):=by
 unfold ap rm Ay BD Bx Bz;refine Bp ?_ (Bp ?_ ?_)<;>(simp only;grind)
theorem OG(a b c v:R3):ap (bk0 a b c) (bk1 a b c) (bk2 a b c) (ap a b c v)=AQ (Al a b c) v:=by
 unfold ap AQ Ay bk0 bk1 bk2 BD Bx Bz crs Al det;refine Bp ?_ (Bp ?_ ?_)<;>(simp only;grind)
theorem b6(a b c x y z:R3):Al (rm a x y z) (rm b x y z) (rm c x y z)=Al a b c*Al x y z:=by
 unfold Al det rm Ay BD Bx Bz;grind
end
noncomputable def tri(g:R3):Ac Ad:=[g.1,g.2.1,g.2.2]
theorem Q2(hp:P4 p)(ix:In3 p x)(iy:In3 p y)(lx:AX p (tri x)=Ab 1)(ly:AX p (tri y)=Ab 1)(h:Pr p x y):x=y:=by
 obtain⟨d,dz,e⟩:=h;have p1:1<p:=by have:=hp.lo;omega
 have rs:(tri x).map (λx=>x%p)=((tri y).map λx=>d*x).map (λx=>x%p):=by
  simp only[tri,Bq,GC];rw[show x.1%p=d*y.1%p from e.1,show x.2.1%p=d*y.2.1%p from e.2.1,show x.2.2%p=d*y.2.2%p from e.2.2]
 have el:=JW hp dz (f:=λx=>d*x) (λ_=>rfl) (tri y)
 rw[ly,<-K8 rs,lx,Ef,Cn,DJ]at el;have o:Cg p d 1:=by
  show d%p=1%p;rw[<-el,AG (by decide) p1]
 have q:=e.trans ((CgR.sc o CgR.rfl).trans (CgR.of (MN y)));have same:∀{u v:Ad},(0<=u/\u<p)->(0<=v/\v<p)->Cg p u v->u=v:=λhu hv huv=>by
  have:=show _%p=_%p from huv
  rwa [AG hu.1 hu.2,AG hv.1 hv.2]at this
 exact Bp (same ix.1 iy.1 q.1) (Bp (same ix.2.1 iy.2.1 q.2.1) (same ix.2.2 iy.2.2 q.2.2))
theorem Ud{a b c:R3}(hp:P4 p)(nz:Al a b c%p≠0):∃ l t,AX p (nine a b c)=Ab l/\D9 p l t/\t%p≠0/\GoodR p (fmR p t a) (fmR p t b) (fmR p t c)/\AX p (nine (fmR p t a) (fmR p t b) (fmR p t c))=Ab 1:=by
 have p0:=hp.pos;obtain⟨l,el⟩:=MB nz;obtain⟨lz,_,_⟩:=IA p0 el;obtain⟨t,t1,t2,t3⟩:=GU hp lz;have tz:t%p≠0:=by rw[AG (by omega) t2];omega
 have ff:∀ x,(t*(x%p)%p)%p=t*x%p:=λx=>by rw[AS _ (Bu p),Bm t (x%p) p,AS _ (Bu p),<-Bm]
 have lv:=JW hp tz (f:=λx=>t*(x%p)%p) ff (nine a b c)
 rw[el]at lv;refine⟨l,t,el,⟨t1,t2,t3⟩,tz,⟨hp,F5 p0 t a,F5 p0 t b,F5 p0 t c,G6 ((Ks (Fa p t a) (Fa p t b) (Fa p t c)).trans (Cg.of (Kw t t t a b c))) (BL hp (nz3 hp tz tz tz) nz)⟩,?_⟩;have e:AX p ((nine a b c).map λx=>t*(x%p)%p)=Ab 1:=by rw[lv,Ef,BS,t3]
 exact e
structure Led (p:Ad) (a b c f0 f1 f2 f3 g0 g1 g2 g3:R3):Prop where
 h0:Pr p g0 (ap a b c f0)
 h1:Pr p g1 (ap a b c f1)
 h2:Pr p g2 (ap a b c f2)
 h3:Pr p g3 (ap a b c f3)
section
variable{p:Ad}{a b c a' b' c' f0 f1 f2 f3 g0 g1 g2 g3 h0 h1 h2 h3:R3}
theorem jm(hp:P4 p)(T:GoodR p a b c)(T':GoodR p a' b' c')(L:Led p a b c e0R e1R e2R e3R f0 f1 f2 f3)(L':Led p a' b' c' e0R e1R e2R e3R g0 g1 g2 g3):∃ x y z,GoodR p x y z/\AX p (nine x y z)=Ab 1/\Led p x y z f0 f1 f2 f3 g0 g1 g2 g3:=by
 have zB:Al (bk0 a b c) (bk1 a b c) (bk2 a b c)%p≠0:=by rw[Lq];exact BL hp T.nz T.nz
 have zR:Al (rm a' (bk0 a b c) (bk1 a b c) (bk2 a b c)) (rm b' (bk0 a b c) (bk1 a b c) (bk2 a b c)) (rm c' (bk0 a b c) (bk1 a b c) (bk2 a b c))%p≠0:=by rw[b6];exact BL hp T'.nz zB
 obtain⟨l,t,_,_,tz,gd,l1⟩:=Ud hp zR;refine⟨_,_,_,gd,l1,?_⟩;have key:∀{e f g:R3},Pr p f (ap a b c e)->Pr p g (ap a' b' c' e)->Pr p g (ap (fmR p t (rm a' (bk0 a b c) (bk1 a b c) (bk2 a b c))) (fmR p t (rm b' (bk0 a b c) (bk1 a b c) (bk2 a b c))) (fmR p t (rm c' (bk0 a b c) (bk1 a b c) (bk2 a b c))) f):=λ{e f g} hf hg=>by
  refine hg.trans hp (Pr.symm hp ?_);refine(Pr.tab tz (Fa p t _) (Fa p t _) (Fa p t _)).trans hp ?_;rw[aQ];refine Pr.ap ((Pr.ap hf).trans hp ?_);rw[OG];exact⟨_,T.nz,CgR.rfl⟩
 exact⟨key L.h0 L'.h0,key L.h1 L'.h1,key L.h2 L'.h2,key L.h3 L'.h3⟩
end
section
variable{Z:Gam}{ns:Ac Ad}{p:Ad}
theorem qQ(hp:P4 p):GoodR p e0R e1R e2R/\AX p (nine e0R e1R e2R)=Ab 1:=by
 obtain⟨i0,i1,i2,i3⟩:=bX hp;refine⟨⟨hp,i0,i1,i2,(aE hp).1⟩,?_⟩;rcases hp with rfl|rfl|rfl|rfl<;>decide
end
noncomputable def L3(a b c:R3):Ac D:=[Ea a,Ea b,Ea c]
def Ij(i j:Ad):Prop:=(i=0/\j=1)\/(i=0/\j=2)\/(i=1/\j=0)\/(i=1/\j=2)\/(i=2/\j=0)\/(i=2/\j=1)
theorem Z_4{i j:Ad}(hi:m%3=i)(hj:(i+1+m/3%2)%3=j):Ij i j:=by
 have i3:i=0\/i=1\/i=2:=by omega
 have e2:m/3%2=0\/m/3%2=1:=by omega
 rcases i3 with z|z|z<;>rcases e2 with e|e<;>rw[z,e]at hj
 .exact .inl ⟨z,hj.symm⟩
 .exact .inr (.inl ⟨z,hj.symm⟩)
 .exact .inr (.inr (.inr (.inl ⟨z,hj.symm⟩)))
 .exact .inr (.inr (.inl ⟨z,hj.symm⟩))
 .exact .inr (.inr (.inr (.inr (.inl ⟨z,hj.symm⟩))))
 .exact .inr (.inr (.inr (.inr (.inr ⟨z,hj.symm⟩))))
def JY(Z:Gam)(mid:Ag)(ns:Ac Ad):Prop:=∀ k:Ad,0<=k->∃ m,0<=m/\Z.F mid [scr ns,.int k]=.ok (.int m)
section
variable{Z:Gam}{ns:Ac Ad}{mid:Ag}{p:Ad}{a b c:R3}{s2 s4 s5 s6 s7 s8:Sl}
end
theorem K4{lo hi:Ad}(h1:-1000<=lo)(h2:lo<=1000)(h3:-1000<=hi)(h4:hi<=1000):CI lo hi=.ok (CK lo (hi-lo).toNat):=by
 unfold CI;rw[AO (by refine⟨⟨by omega,by omega⟩,⟨by omega,by omega⟩,?_⟩;omega)]
theorem Wi(h:1<p):AX p [0,0,1]=Ab 1:=by
 simp[AX,AG (by decide:(0:Ad)<=1) h]
theorem ZZ(h:1<p)(z:Ad):AX p [0,1,z]=Ab 1:=by
 simp[AX,AG (by decide:(0:Ad)<=1) h]
theorem S4(h:1<p)(y z:Ad):AX p [1,y,z]=Ab 1:=by
 simp[AX,AG (by decide:(0:Ad)<=1) h]
noncomputable def prd(a b:R3):C6:=⟨a.1*b.1,a.2.1*b.2.1,a.2.2*b.2.2,a.1*b.2.1+a.2.1*b.1,a.1*b.2.2+a.2.2*b.1,a.2.1*b.2.2+a.2.2*b.2.1⟩
theorem Ul{C E:C6}(hp:P4 p)(h:PrC p C E)(z:Al (tw0 E) (tw1 E) (tw2 E)%p≠0):Al (tw0 C) (tw1 C) (tw2 C)%p≠0:=by
 obtain⟨d,dz,cg⟩:=h;obtain⟨x0,x1,x2⟩:=WK cg;exact G6 ((Ks x0 x1 x2).trans (Cg.of (qJ d E))) (BL hp (nz3 hp dz dz dz) z)
theorem Qo{p l:Ad}(hp:P4 p)(el:AX p (tri r)=Ab l):∃ u,D9 p l u/\In3 p (fmR p u r)/\AX p (tri (fmR p u r))=Ab 1/\Pr p (fmR p u r) r/\fmI p u (tri r)=tri (fmR p u r):=by
 have p0:=hp.pos;obtain⟨lz,_,_⟩:=IA p0 el;obtain⟨t,t1,t2,t3⟩:=GU hp lz;have tz:t%p≠0:=by rw[AG (by omega) t2];omega
 have ff:∀ x,(t*(x%p)%p)%p=t*x%p:=λx=>by rw[AS _ (Bu p),Bm t (x%p) p,AS _ (Bu p),<-Bm]
 have lv:=JW hp tz (f:=λx=>t*(x%p)%p) ff (tri r)
 rw[el,Ef,BS,t3]at lv;exact⟨t,⟨t1,t2,t3⟩,F5 p0 t r,lv,⟨t,tz,Fa p t r⟩,rfl⟩
theorem Qm(h:AX p (tri g)=Af):CgR p g (0,0,0):=by
 have hz:=Jo.mp h;have k:∀ x∈tri g,Cg p x 0:=λx hx=>by show x%p=0%p;rw[hz x hx,Bv]
 exact⟨k _ (by simp[tri]),k _ (by simp[tri]),k _ (by simp[tri])⟩
theorem UL(h:CgR p g (0,0,0)):AX p (tri g)=Af:=by
 refine Jo.mpr λx hx=>?_
 have k:∀{x:Ad},Cg p x 0->x%p=0:=λ{x} h=>by rw[show x%p=_ from h,Bv]
 simp only[tri,Av,AR,BQ]at hx;rcases hx with rfl|rfl|rfl
 .exact k h.1
 .exact k h.2.1
 .exact k h.2.2
theorem ML{p l:Ad}{a b c f g:R3}(hp:P4 p)(z:Al a b c%p≠0)(lf:AX p (tri f)=Ab l)(h:CgR p g (ap a b c f)):∃ l,AX p (tri g)=Ab l:=by
 cases el:AX p (tri g) with
 |some l=>exact⟨l,rfl⟩
 |none=>
  have q0:CgR p (ap a b c f) (0,0,0):=h.symm.trans (Qm el);have q1:CgR p (AQ (Al a b c) f) (0,0,0):=by
   have:=OF (CgR.rfl (a:=bk0 a b c)) (CgR.rfl (a:=bk1 a b c)) (CgR.rfl (a:=bk2 a b c)) q0;rw[OG]at this;refine this.trans (CgR.of ?_);unfold ap Ay;simp
  obtain⟨u,uz,o⟩:=Rt hp z;have q2:CgR p f (0,0,0):=by
   have w:=CgR.sc (k:=u) (k':=u) Cg.rfl q1;rw[Ib]at w;refine((CgR.of (MN f).symm).trans (CgR.sc o.symm CgR.rfl)).trans (w.trans (CgR.of ?_));unfold AQ;simp
  rw[UL q2]at lf;cases lf
theorem N8(x:R3):flD 5 (Aj Aa x)=Aa/\eqD (Aj Aa x) (Aj Aa x)=Aa:=by
 refine⟨rfl,?_⟩;show eqDs (ds [x.1,x.2.1,x.2.2]) (ds [x.1,x.2.1,x.2.2])=Aa;rw[Wo]
section
variable{Z:Gam}{ns:Ac Ad}{p:Ad}{C:C6}{s3 s4 s5 s6 s7 s8:Sl}
end
noncomputable def Mg:Ss:=(.cons (.asg 2 Ae (.bin .FloorDiv (.var 2) (.int 1000033))) .nil)
noncomputable def Mn:Df:=⟨4,Ae,(.cons (.asg 2 Ae (.int 0)) (.cons (.ife (.cmp .Gt (.bi .len (.cons (.var 0) .nil)) (.int 0)) (.cons (.asg 2 Ae (.idx (.var 0) (.bin .Mod (.var 1) (.bi .len (.cons (.var 0) .nil))))) .nil) .nil) (.cons (.ife (.cmp .Eq (.bin .Mod (.bi .len (.cons (.var 0) .nil)) (.int 2)) (.int 0)) (.cons (.fors 3 (.rng (.bi .min (.cons (.int 60) (.cons (.bin .FloorDiv (.var 1) (.bi .max (.cons (.int 1) (.cons (.bi .len (.cons (.var 0) .nil)) .nil)))) .nil)))) Mg) (.cons (.ret (.bin .Mod (.var 2) (.int 1000033))) .nil)) .nil) (.cons (.ret (.bin .Mod (.bin .Mult (.bin .Mod (.bin .Mult (.bin .Add (.bin .Add (.bin .Mod (.var 2) (.int 1000003)) (.bin .Mult (.int 7919) (.var 1))) (.int 11)) (.int 48271)) (.int 1000033)) (.int 69621)) (.int 1000033))) .nil))))⟩
section
variable{Z:Gam}{ns:Ac Ad}
theorem jL(k x:Ad)(n:Ag):∃ y s3,Cq (Bi Z 3 Mg) (CK 0 n) [sh (scr ns),si k,si x,Af]=.next [sh (scr ns),si k,si y,s3]:=by
 obtain⟨U',e,y,s3,rfl⟩:=Mr (body:=Bi Z 3 Mg) (λU=>∃ y s3,U=[sh (scr ns),si k,si y,s3]) (CK 0 n) [sh (scr ns),si k,si x,Af] ⟨x,Af,rfl⟩ (by
  rintro z hz U ⟨y,s3,rfl⟩;obtain⟨j,_,rfl⟩:=UX hz;exact⟨[sh (scr ns),si k,si (y/1000033),si (0+(j:Ad))],by simp[Bi,Mg],_,_,rfl⟩)
 exact⟨y,s3,e⟩
theorem wA(Z:Gam)(ns:Ac Ad)(hl:ns.length<=63)(k:Ad)(k0:0<=k):∃ m,0<=m/\Mn.run Z [scr ns,.int k]=.ok (.int m):=by
 have m1:DQ 7919 k=Aa:=G4 (by decide) (by decide)
 have m2:∀ x,DQ x 48271=Aa:=λx=>NT (by decide) (by decide)
 have m3:∀ x,DQ x 69621=Aa:=λx=>NT (by decide) (by decide)
 generalize hn:(ns.length:Ad)=n;have n0:0<=n:=by omega
 have n1:n<=63:=by omega
 have len:biD .len [scr ns]=.ok (.int n):=by rw[<-hn];show R.ok (D.int ((ns.map D.int).length:Ag))=_;rw[AV]
 have fin:∀ x hi:Ad,0<=hi->hi<=60->∃ y s3,OY Z 3 Mg [sh (scr ns),si k,si x,Af] (CI 0 hi)=.next [sh (scr ns),si k,si y,s3]:=λx hi h0 h1=>by
  rw[fF h0 (by omega)]
  exact jL (Z:=Z) (ns:=ns) k x hi.toNat
 have mx:0<(if 1<n then n else 1)/\(if 1<n then n else 1)<1073741824:=by split<;>omega
 generalize hM:(if 1<n then n else 1)=M at mx
 have hi:∀ q:Ad,0<=q->0<=(if q<60 then q else 60)/\(if q<60 then q else 60)<=60:=λq h=>by split<;>omega
 have q0:0<=k/M:=Xn k0 (by omega)
 obtain⟨u1,u2⟩:=hi _ q0;by_cases hp:0<n
 .have r0:0<=k%n:=AJ _ (by omega)
  have r1:k%n<ns.length:=by rw[hn];exact AF _ hp
  have g:=qV r0 r1;generalize ns.getD (k%n).toNat 0=x at g;by_cases h2:n%2=0
  .obtain⟨y,s3,e⟩:=fin x _ u1 u2;refine⟨y%1000033,AJ _ (by decide),?_⟩
   have gx:B8 (scr ns) (.int (k%n))=.ok (.int x):=g;simp[Mn,Df.run,Bo,len,hp,gx,h2,hM,mx.1,mx.2,e]
  .refine⟨((x%1000003+7919*k+11)*48271%1000033)*69621%1000033,AJ _ (by decide),?_⟩
   have gx:B8 (scr ns) (.int (k%n))=.ok (.int x):=g;simp[Mn,Df.run,Bo,len,hp,gx,h2,m1,m2,m3]
 .have z:n=0:=by omega
  subst z;obtain⟨y,s3,e⟩:=fin 0 _ u1 u2;refine⟨y%1000033,AJ _ (by decide),?_⟩
  have hM':M=1:=by rw[<-hM];rfl
  subst hM';simp at e;simp[Mn,Df.run,Bo,len,e]
end
noncomputable def Rv:Df:=⟨3,Ae,(.cons (.ret (.call 17 (.cons (.var 0) (.cons (.call 23 (.cons (.var 1) (.cons (.var 2) .nil))) .nil)))) .nil)⟩
theorem Mu{a b:R3}(hp:P4 p)(h:CgR p (crs a b) (0,0,0))(la:AX p (tri a)=Ab 1)(lb:AX p (tri b)=Ab 1):Pr p b a:=by
 obtain⟨h0,h1,h2⟩:=h;have p1:1<p:=by have:=hp.lo;omega
 have sw:∀{x y:Ad},Cg p (x-y) 0->Cg p x y:=λ{x y} h=>by
  have:=h.add (Cg.rfl (a:=y))
  rwa [Int.sub_add_cancel,C0]at this
 have e0:Cg p (a.2.1*b.2.2) (a.2.2*b.2.1):=sw h0;have e1:Cg p (a.2.2*b.1) (a.1*b.2.2):=sw h1;have e2:Cg p (a.1*b.2.1) (a.2.1*b.1):=sw h2;have one:∀{x:Ad},x%p=1->Cg p x 1:=λ{x} h=>by show x%p=1%p;rw[h,AG (by decide) p1]
 have fin:∀ k,CgR p b (AQ k a)->Pr p b a:=λk hk=>by
  refine⟨k,λz=>?_,hk⟩
  have:CgR p b (0,0,0):=by
   have kz:Cg p k 0:=by show k%p=0%p;rw[z,Bv]
   refine hk.trans ((CgR.sc kz CgR.rfl).trans (CgR.of ?_));unfold AQ;simp
  rw[UL this]at lb;cases lb
 unfold tri AX at la;by_cases z0:a.1%p=0
 .rw[AO z0]at la;have c0:Cg p a.1 0:=by show a.1%p=0%p;rw[z0,Bv]
  unfold AX at la;by_cases z1:a.2.1%p=0
  .rw[AO z1]at la;have c1:Cg p a.2.1 0:=by show a.2.1%p=0%p;rw[z1,Bv]
   unfold AX at la;by_cases z2:a.2.2%p=0
   .rw[AO z2]at la;cases la
   .rw[AW z2,Cn]at la;have c2:=one la;refine fin b.2.2 ⟨?_,?_,?_⟩
    .have:=(c2.symm.mul (Cg.rfl (a:=b.1))).trans e1;rw[CS]at this;exact this.trans (Cg.of (BS _ _))
    .have:=(c2.symm.mul (Cg.rfl (a:=b.2.1))).trans e0.symm;rw[CS]at this;exact this.trans (Cg.of (BS _ _))
    .have:=(Cg.rfl (a:=b.2.2)).mul c2;rw[DJ]at this;exact this.symm
  .rw[AW z1,Cn]at la;have c1:=one la;refine fin b.2.1 ⟨?_,?_,?_⟩
   .have:=(c1.symm.mul (Cg.rfl (a:=b.1))).trans e2.symm;rw[CS]at this;exact this.trans (Cg.of (BS _ _))
   .have:=(Cg.rfl (a:=b.2.1)).mul c1;rw[DJ]at this;exact this.symm
   .have:=(c1.symm.mul (Cg.rfl (a:=b.2.2))).trans e0;rw[CS]at this;exact this.trans (Cg.of (BS _ _))
 .rw[AW z0,Cn]at la;have c0:=one la;refine fin b.1 ⟨?_,?_,?_⟩
  .have:=(Cg.rfl (a:=b.1)).mul c0;rw[DJ]at this;exact this.symm
  .have:=(c0.symm.mul (Cg.rfl (a:=b.2.1))).trans e2;rw[CS]at this;exact this.trans (Cg.of (BS _ _))
  .have:=(c0.symm.mul (Cg.rfl (a:=b.2.2))).trans e1.symm;rw[CS]at this;exact this.trans (Cg.of (BS _ _))
def Oc(Z:Gam):Prop:=∀(p:Ad)(a b:R3),P4 p->In3 p a->In3 p b->AX p (tri a)=Ab 1->AX p (tri b)=Ab 1->a≠b->∃ y,In3 p y/\AX p (tri y)=Ab 1/\Pr p y (crs a b)/\Z.F 57 [.int p,Aj Aa a,Aj Aa b]=.ok (Aj Aa y)
theorem yZ(hc:VY Z)(hf:NZ Z)(p:Ad)(a b:R3)(hp:P4 p)(ia:In3 p a)(ib:In3 p b)(la:AX p (tri a)=Ab 1)(lb:AX p (tri b)=Ab 1)(ne:a≠b):∃ y,In3 p y/\AX p (tri y)=Ab 1/\Pr p y (crs a b)/\Rv.run Z [.int p,Aj Aa a,Aj Aa b]=.ok (Aj Aa y):=by
 have e1:=hc a b ((Cd hp ia).b3 (by decide)) ((Cd hp ib).b3 (by decide)) ne
 cases el:AX p (tri (crs a b)) with
 |none=>exact absurd (Q2 hp ib ia lb la (Mu hp (Qm el) la lb)).symm ne
 |some l=>
  obtain⟨u,iu,j,l1,pr,ef⟩:=Qo hp el;have e2:=hf p Aa _ l u hp el iu;rw[ef]at e2;have e2':Z.F 17 [.int p,Aj Aa (crs a b)]=.ok (Aj Aa (fmR p u (crs a b))):=e2;refine⟨_,j,l1,pr,?_⟩;generalize Aj Aa (fmR p u (crs a b))=Y_ at *;simp[Rv,Df.run,Bo,e1,e2']
theorem qH(a b:R3):Ay (crs a b) a=0/\Ay (crs a b) b=0:=by
 unfold Ay crs;constructor<;>grind
theorem F2{x:Ad}(hp:P4 p)(kz:k%p≠0):k*x%p=0↔x%p=0:=by
 constructor
 .intro z;exact B4 λn=>BL hp kz n z
 .intro z;rw[Bm,z,CP,Bv]
theorem kg{x':R3}(hp:P4 p)(hx:Pr p x x')(hy:Pr p y y'):(Ay x y%p=0)↔(Ay x' y'%p=0):=by
 obtain⟨d,dz,e⟩:=hx;obtain⟨d',dz',e'⟩:=hy;have q:Cg p (Ay x y) (d*d'*Ay x' y'):=(FB e e').trans (Cg.of (by unfold Ay AQ;simp only;grind))
 rw[show Ay x y%p=_ from q]
 exact F2 hp (BL hp dz dz')
section
variable{Z:Gam}{ns:Ac Ad}{p:Ad}{C:C6}{s3 s4 s5 s6 s7 s8:Sl}
end
def NF(p:Ad)(x:R3):Prop:=In3 p x/\AX p (tri x)=Ab 1
noncomputable def ptI(p n:Ad):R3:=if n=0 then (0,0,1) else if n<=p then (0,1,n-1) else (1,(n-p-1)/p,(n-p-1)%p)
noncomputable def CM(p:Ad):Ac R3:=(AT (p*p+p+1).toNat).map fun(n:Ag)=>ptI p n
theorem jv{n:Ad}(hp:P4 p)(h0:0<=n)(h1:n<p*p+p+1):NF p (ptI p n):=by
 have p1:1<p:=by have:=hp.lo;omega
 have p0:=hp.pos;unfold ptI;by_cases z:n=0
 .rw[AO z];exact⟨⟨⟨by decide,p0⟩,⟨by decide,p0⟩,⟨by decide,p1⟩⟩,Wi p1⟩
 .rw[AW z];by_cases z1:n<=p
  .rw[AO z1];exact⟨⟨⟨Hb 0,p0⟩,⟨(by decide:(0:Ad)<=1),p1⟩,⟨by show 0<=n-1;omega,by show n-1<p;omega⟩⟩,ZZ p1 _⟩
  .rw[AW z1];have d0:0<=(n-p-1)/p:=Xn (by omega) (by omega)
   have d1:(n-p-1)/p<p:=by rw[Int.ediv_lt_iff_lt_mul p0];omega
   exact⟨⟨⟨(by decide:(0:Ad)<=1),p1⟩,⟨d0,d1⟩,⟨AJ _ (by omega),AF _ p0⟩⟩,S4 p1 _ _⟩
theorem jh(hp:P4 p)(h:NF p x):∃ n:Ad,0<=n/\n<p*p+p+1/\x=ptI p n:=by
 obtain⟨⟨i0,i1,i2⟩,l⟩:=h;have p1:1<p:=by have:=hp.lo;omega
 have p0:=hp.pos;have pp:=Ka p0 p0;obtain⟨x0,x1,x2⟩:=x;simp only at i0 i1 i2;unfold tri AX at l;simp only at l;rw[AG i0.1 i0.2]at l;by_cases z0:x0=0
 .rw[AO z0]at l;unfold AX at l;rw[AG i1.1 i1.2]at l;by_cases z1:x1=0
  .rw[AO z1]at l;unfold AX at l;rw[AG i2.1 i2.2]at l;by_cases z2:x2=0
   .rw[AO z2]at l;cases l
   .rw[AW z2,Cn]at l;exact⟨0,Hb 0,by omega,by rw[z0,z1,l];rfl⟩
  .rw[AW z1,Cn]at l;refine⟨x2+1,by omega,by omega,?_⟩
   unfold ptI;rw[AW (by omega),AO (by omega),z0,l,Int.add_sub_cancel]
 .rw[AW z0,Cn]at l;have m1:p*x1<=p*(p-1):=Int.mul_le_mul_of_nonneg_left (by omega) (by omega)
  have m0:0<=p*x1:=G1 (by omega) i1.1
  rw[Int.mul_sub,DJ]at m1;refine⟨p+1+p*x1+x2,by omega,by omega,?_⟩
  unfold ptI;have e:p+1+p*x1+x2-p-1=x2+p*x1:=by omega
  rw[AW (by omega),AW (by omega),e,Int.add_mul_ediv_left _ _ (by omega),Int.ediv_eq_zero_of_lt i2.1 i2.2,Int.add_mul_emod_self_left,AG i2.1 i2.2,C0,l]
theorem Gp(hp:P4 p):x∈CM p↔NF p x:=by
 have p0:=hp.pos;have pp:=Ka p0 p0;constructor
 .intro h;obtain⟨n,hn,rfl⟩:=Bb.mp h;have:=A3.mp hn;exact jv hp (by omega) (by omega)
 .intro h;obtain⟨n,n0,n1,rfl⟩:=jh hp h;refine Bb.mpr ⟨n.toNat,A3.mpr (by omega),?_⟩
  rw[Xs n0]
theorem T6(hp:P4 p):(CM p).Nodup:=by
 rcases hp with rfl|rfl|rfl|rfl<;>decide+kernel
theorem NU{α:Type}[DecidableEq α]:∀{l1 l2:Ac α},l1.Nodup->(∀ x∈l1,x∈l2)->l1.length<=l2.length
 |[],_,_,_=>Fs _
 |x::l1,l2,nd,h=>by
  obtain⟨n1,n2⟩:=BM.mp nd;have hx:=h x Ax;have:=NU (l1:=l1) (l2:=l2.erase x) n2 λy hy=>by
   have hy2:=h y (At _ hy);have ne:y≠x:=λe=>n1 (e ▸ hy)
   exact(XQ ne).mpr hy2
  rw[Cu hx]at this;have l0:0<l2.length:=XH hx;rw[BE];omega
theorem TZ{α β:Type}{f:α->β}:∀{l:Ac α},l.Nodup->(∀ x∈l,∀ y∈l,f x=f y->x=y)->(l.map f).Nodup
 |[],_,_=>G2
 |x::l,nd,h=>by
  obtain⟨n1,n2⟩:=BM.mp nd;rw[Bq,BM];refine⟨λm=>?_,TZ n2 λy hy z hz=>h y (At _ hy) z (At _ hz)⟩
  obtain⟨y,hy,e⟩:=Bb.mp m;have:=h y (At _ hy) x Ax e;exact n1 (this ▸ hy)
noncomputable def nrm(p:Ad)(r:R3):R3:=open Classical in if h:∃ y,NF p y/\Pr p y r then HJ h else r
theorem Lb{p l:Ad}(hp:P4 p)(el:AX p (tri r)=Ab l):NF p (nrm p r)/\Pr p (nrm p r) r:=by
 have h:∃ y,NF p y/\Pr p y r:=by
  obtain⟨u,iu,j,l1,pr,_⟩:=Qo hp el;exact⟨_,⟨j,l1⟩,pr⟩
 unfold nrm;rw[dif_pos h];exact DE h
theorem UZ{a b c x:R3}(hp:P4 p)(z:Al a b c%p≠0)(hx:NF p x):NF p (nrm p (ap a b c x))/\Pr p (nrm p (ap a b c x)) (ap a b c x):=by
 obtain⟨l,el⟩:=ML hp z hx.2 CgR.rfl;exact Lb hp el
theorem Ky(hp:P4 p)(hx:NF p x)(hy:NF p y)(h:Pr p x y):x=y:=Q2 hp hx.1 hy.1 hx.2 hy.2 h
theorem T8{a b c x:R3}(hp:P4 p)(z:Al a b c%p≠0)(hx:NF p x):nrm p (ap (bk0 a b c) (bk1 a b c) (bk2 a b c) (nrm p (ap a b c x)))=x:=by
 obtain⟨h1,h2⟩:=UZ hp z hx;have zB:Al (bk0 a b c) (bk1 a b c) (bk2 a b c)%p≠0:=by rw[Lq];exact BL hp z z
 obtain⟨h3,h4⟩:=UZ hp zB h1;refine Ky hp h3 hx (h4.trans hp ((Pr.ap h2).trans hp ?_));rw[OG];exact⟨_,z,CgR.rfl⟩
noncomputable def q4(w:Ag)(k:Ad)(y:R3):Ad:=match w with
  |0=>y.1*y.2.2-y.2.1*y.2.1
  |1=>y.1*y.1
  |2=>y.1*y.2.1
  |_=>y.1*y.1-k*(y.2.1*y.2.1)
theorem Wx(u v x:R3):vI (prd u v) x=Ay u x*Ay v x:=by
 unfold vI prd Ay;simp only;grind
theorem Rb(k:Ad)(A:C6)(x:R3):vI (scC k A) x=k*vI A x:=by
 unfold vI scC;simp only;grind
noncomputable def OP(p:Ad)(C:C6):Ac R3:=(CM p).filter λx=>decide (vI C x%p=0)
noncomputable def Au(pts:Ac R3):D:=.lst (pts.map (Aj Aa))
theorem Qp{g:D->R Ak}{f:D->R D}{q:R3->Ak}:∀(xs:Ac R3),(∀ x∈xs,g (Aj Aa x)=.ok (q x)/\f (Aj Aa x)=.ok (Aj Aa x))->BK g f (xs.map (Aj Aa))=.ok ((xs.filter q).map (Aj Aa))
 |[],_=>rfl
 |x::xs,h=>by
  obtain⟨h1,h2⟩:=h x (Ax ..);have ih:=Qp xs λy hy=>h y (At _ hy)
  show (g (Aj Aa x)).bind _=_;rw[h1,R.bind_ok,Ey];cases hq:q x with
  |true=>
   rw[AO rfl,AO rfl,h2,R.bind_ok,show BK g f (Ke (Aj Aa) xs)=_ from ih]
   rfl
  |false=>
   rw[AW (by decide),AW (by decide)]
   exact ih
noncomputable def dS:Ss:=(.cons (.app 1 (.tup (.cons (.int 0) (.cons (.int 1) (.cons (.var 2) .nil))))) .nil)
noncomputable def dU:E:=(.tup (.cons (.int 1) (.cons (.var 3) (.cons (.var 4) .nil))))
noncomputable def dR:Ss:=(.cons (.ext 1 (.comp dU 4 (.rng (.var 0)) B7)) .nil)
noncomputable def TD:Df:=⟨5,Aa,(.cons (.asg 1 Aa (.lst (.cons (.tup (.cons (.int 0) (.cons (.int 0) (.cons (.int 1) .nil)))) .nil))) (.cons (.fors 2 (.rng (.var 0)) dS) (.cons (.fors 3 (.rng (.var 0)) dR) (.cons (.ret (.var 1)) .nil))))⟩
def Z_9(Z:Gam):Prop:=∀ p:Ad,P4 p->Z.F 69 [.int p]=.ok (Au (CM p))
theorem mj(Z:Gam)(p:Ad)(hp:P4 p):TD.run Z [.int p]=.ok (Au (CM p)):=by
 rcases hp with rfl|rfl|rfl|rfl<;>kernel_rfl!
noncomputable def PK:E:=(.cmp .Eq (.call 126 (.cons (.var 0) (.cons (.var 1) (.cons (.var 2) .nil)))) (.int 0))
noncomputable def PL:E:=(.var 2)
noncomputable def Nk:Df:=⟨3,Aa,(.cons (.ret (.comp PL 2 (.e (.call 69 (.cons (.var 0) .nil))) PK)) .nil)⟩
theorem pF(ht:Z_9 Z)(hv:QV Z)(p:Ad)(C:C6)(hp:P4 p)(iC:InC p C):Nk.run Z [.int p,BW C]=.ok (Au (OP p C)):=by
 have e1:=ht p hp;have cp:BK (cG Z [si p,sh (BW C),Af] 2 PK) (cF Z [si p,sh (BW C),Af] 2 PL) ((CM p).map (Aj Aa))=.ok ((OP p C).map (Aj Aa)):=by
  refine Qp (CM p) λx hx=>⟨?_,?_⟩
  .have e:=hv p C x hp iC ((Gp hp).mp hx).1;generalize vI C x%p=v at *;simp[cG,PK,e];rw[C8];simp
  .simp[cF,PL]
 have sq:Ch (Au (CM p))=.ok ((CM p).map (Aj Aa)):=rfl;generalize CM p=A at *;generalize Au A=AA at *;simp[Nk,Df.run,Bo,e1,sq,cp];rfl
theorem qK(a b c:R3):Ay (crs a b) c=Al a b c:=by
 unfold Ay crs Al det;grind
section
variable{Z:Gam}{p i j k d N:Ad}{PP x y u:D}{RL:Ac D}{s t s' t' v:Sl}
end
section
variable{Z:Gam}{p:Ad}{pts:Ac R3}
end
theorem b9(k l:Ad)(a b:R3):crs (AQ k a) (AQ l b)=AQ (k*l) (crs a b):=by
 unfold crs AQ;simp only;refine Bp ?_ (Bp ?_ ?_)<;>(simp only;grind)
theorem Pr.crs{a b a' b':R3}(hp:P4 p)(h:Pr p a a')(g:Pr p b b'):Pr p (OvC.crs a b) (OvC.crs a' b'):=by
 obtain⟨d,dz,e⟩:=h;obtain⟨d',dz',e'⟩:=g;exact⟨d*d',BL hp dz dz',(N9 e e').trans (CgR.of (b9 ..))⟩
noncomputable def Ru:Df:=⟨3,Ae,(.cons (.ret (.cmp .Eq (.call 1 (.cons (.var 0) (.cons (.bin .Add (.bin .Add (.bin .Mult (.idx (.var 1) (.int 0)) (.idx (.var 2) (.int 0))) (.bin .Mult (.idx (.var 1) (.int 1)) (.idx (.var 2) (.int 1)))) (.bin .Mult (.idx (.var 1) (.int 2)) (.idx (.var 2) (.int 2)))) .nil))) (.int 0))) .nil)⟩
def V8(Z:Gam):Prop:=∀(p:Ad)(x y:R3),P4 p->In3 p x->In3 p y->Z.F 24 [.int p,Aj Aa x,Aj Aa y]=.ok (.bl (decide (Ay x y%p=0)))
theorem yY(hr:H9 Z)(p:Ad)(x y:R3)(hp:P4 p)(ix:In3 p x)(iy:In3 p y):Ru.run Z [.int p,Aj Aa x,Aj Aa y]=.ok (.bl (decide (Ay x y%p=0))):=by
 have p0:=hp.pos;have bx:=Cd hp ix;have by_:=Cd hp iy;have k:∀ {u v},Bd 10 u->Bd 10 v->EM u v=Aa:=λhu hv=>F3 hu hv (by decide) (by decide)
 have k0:=k bx.1 by_.1;have k1:=k bx.2.1 by_.2.1;have k2:=k bx.2.2 by_.2.2;obtain⟨x0,x1,x2⟩:=Fk Aa x;obtain⟨y0,y1,y2⟩:=Fk Aa y;have e:=hr p (Ay x y) p0;unfold Ay at *;generalize x.1=a0 at *;generalize x.2.1=a1 at *;generalize x.2.2=a2 at *;generalize y.1=b0 at *;generalize y.2.1=b1 at *;generalize y.2.2=b2 at *;generalize Aj Aa x=xx at *;generalize Aj Aa y=yy at *;generalize hs:(a0*b0+a1*b1+a2*b2)%p=s at *;simp[Ru,Df.run,Bo,x0,x1,x2,y0,y1,y2,k0,k1,k2,e];rw[C8];simp
noncomputable def O9:Df:=⟨3,Ae,(.cons (.ret (.call 24 (.cons (.var 0) (.cons (.var 1) (.cons (.var 2) .nil))))) .nil)⟩
def RB(Z:Gam):Prop:=∀(p:Ad)(x y:R3),P4 p->In3 p x->In3 p y->Z.F 56 [.int p,Aj Aa x,Aj Aa y]=.ok (.bl (decide (Ay x y%p=0)))
theorem vX(h:V8 Z)(p:Ad)(x y:R3)(hp:P4 p)(ix:In3 p x)(iy:In3 p y):O9.run Z [.int p,Aj Aa x,Aj Aa y]=.ok (.bl (decide (Ay x y%p=0))):=by
 have e:=h p x y hp ix iy;generalize Aj Aa x=xx at *;generalize Aj Aa y=yy at *;simp[O9,Df.run,Bo,e]
theorem NW(a b:R3):Al a b a=0/\Al a b b=0:=by
 unfold Al det;constructor<;>grind
noncomputable abbrev Whl(p:Ad)(C:C6):Prop:=Al (tw0 C) (tw1 C) (tw2 C)%p≠0
noncomputable def b4(u v:R3):Ad:=u.1*v.2.2+u.2.2*v.1-2*(u.2.1*v.2.1)
section
variable{p:Ad}{a b c:R3}{C:C6}
end
noncomputable def sides:D:=.tup [.str (Az "inner"),.str (Az "on"),.str (Az "outer")]
noncomputable def Nc:Df:=⟨2,Ae,(.cons (.asg 1 Ae (.bin .Mod (.var 1) (.bin .Add (.bin .Add (.bin .Mult (.var 0) (.var 0)) (.var 0)) (.int 1)))) (.cons (.ife (.cmp .Eq (.var 1) (.int 0)) (.cons (.ret (.tup (.cons (.int 0) (.cons (.int 0) (.cons (.int 1) .nil))))) .nil) .nil) (.cons (.ife (.cmp .LtE (.var 1) (.var 0)) (.cons (.ret (.tup (.cons (.int 0) (.cons (.int 1) (.cons (.bin .Sub (.var 1) (.int 1)) .nil))))) .nil) .nil) (.cons (.ret (.tup (.cons (.int 1) (.cons (.bin .FloorDiv (.bin .Sub (.bin .Sub (.var 1) (.var 0)) (.int 1)) (.var 0)) (.cons (.bin .Mod (.bin .Sub (.bin .Sub (.var 1) (.var 0)) (.int 1)) (.var 0)) .nil))))) .nil))))⟩
theorem pN{n:Ad}(hp:P4 p):0<p*p+p+1/\0<=n%(p*p+p+1)/\n%(p*p+p+1)<p*p+p+1:=by
 have p0:=hp.pos;have N0:0<p*p+p+1:=by have:=Ka p0 p0;omega
 exact⟨N0,AJ n (Xq N0),AF n N0⟩
theorem vV(Z:Gam)(p n:Ad)(hp:P4 p):Nc.run Z [.int p,.int n]=.ok (Aj Aa (ptI p (n%(p*p+p+1)))):=by
 have pp:DQ p p=Aa:=G4 (by have:=hp.lo;omega) (by have:=hp.hi;omega)
 have p0:=hp.pos;have ph:=hp.hi;obtain⟨N0,h0,h1⟩:=pN (n:=n) hp;have pb:p<1073741824:=by omega
 generalize hr:n%(p*p+p+1)=r at *;unfold ptI;by_cases z0:r=0
 .rw[AO z0];simp[Nc,Df.run,Bo,pp,N0,hr,z0];rfl
 .rw[AW z0];by_cases z1:r<=p
  .rw[AO z1];simp[Nc,Df.run,Bo,pp,N0,hr,z0,z1];rfl
  .rw[AW z1];simp[Nc,Df.run,Bo,pp,N0,hr,z0,z1,p0,pb];rfl
theorem WJ(C:C6)(a b c x:R3):vI (pb C a b c) x=vI C (ap a b c x):=by
 have e:ap a b c x=(x.1*(BD a b c).1+x.2.1*(Bx a b c).1+x.2.2*(Bz a b c).1,x.1*(BD a b c).2.1+x.2.1*(Bx a b c).2.1+x.2.2*(Bz a b c).2.1,x.1*(BD a b c).2.2+x.2.1*(Bx a b c).2.2+x.2.2*(Bz a b c).2.2):=by
  unfold ap Ay BD Bx Bz;simp only;refine Bp ?_ (Bp ?_ ?_)<;>(simp only;grind)
 rw[e,Ww];have e2:∀(u0 u1 u2 u3 u4 u5:Ad),vI ⟨u0,u1,u2,u3,u4,u5⟩ x=x.1*x.1*u0+x.2.1*x.2.1*u1+x.2.2*x.2.2*u2+(x.1*x.2.1*u3+x.1*x.2.2*u4+x.2.1*x.2.2*u5):=λu0 u1 u2 u3 u4 u5=>by
  unfold vI;simp only;grind
 exact e2 ..
theorem uX(C:C6)(k:Ad)(x:R3):vI C (AQ k x)=k*k*vI C x:=by
 unfold vI AQ;simp only;grind
theorem WI(hp:P4 p)(h:Pr p x y):vI C x%p=0↔vI C y%p=0:=by
 obtain⟨d,dz,e⟩:=h;have q:=(Jr (D:=C) ⟨Cg.rfl,Cg.rfl,Cg.rfl,Cg.rfl,Cg.rfl,Cg.rfl⟩ e).trans (Cg.of (uX C d y));rw[show vI C x%p=_ from q]
 exact F2 hp (BL hp dz dz)
section
variable{p:Ad}{a b c:R3}{C:C6}
end
theorem UY(l:Ac R3):biD .len [Au l]=.ok (.int (l.length:Ad)):=by
 show R.ok (D.int ((l.map (Aj Aa)).length:Ag))=_;rw[AV]
section
variable{p:Ad}{C R:C6}{A B P U_ x:R3}
end
section
variable{p:Ad}{C E:C6}{a b c A B P U_ A' B' P' U_' x y:R3}
theorem uW(hp:P4 p)(z:Al a b c%p≠0)(w:Whl p E):Whl p (pb E a b c):=by
 show Al _ _ _%p≠0;rw[Wr];exact BL hp (BL hp z z) w
end
noncomputable def Pu:Df:=⟨1,Ae,(.cons (.ret (.idx (.lst (.cons (.int 3) (.cons (.int 5) (.cons (.int 7) (.cons (.int 5) (.cons (.int 7) (.cons (.int 11) .nil))))))) (.bin .Mod (.call 228 (.cons (.var 0) (.cons (.int 0) .nil))) (.int 6)))) .nil)⟩
theorem pG(h:JY Z 228 ns):∃ p,P4 p/\Pu.run Z [scr ns]=.ok (.int p):=by
 obtain⟨m,m0,e⟩:=h 0 (by decide)
 have q:m%6=0\/m%6=1\/m%6=2\/m%6=3\/m%6=4\/m%6=5:=by omega
 have g:∃ p,P4 p/\DA [.int 3,.int 5,.int 7,.int 5,.int 7,.int 11] (m%6)=.ok (.int p):=by
  rcases q with z|z|z|z|z|z<;>rw[z]
  .exact⟨3,.inl rfl,rfl⟩
  .exact⟨5,.inr (.inl rfl),rfl⟩
  .exact⟨7,.inr (.inr (.inl rfl)),rfl⟩
  .exact⟨5,.inr (.inl rfl),rfl⟩
  .exact⟨7,.inr (.inr (.inl rfl)),rfl⟩
  .exact⟨11,.inr (.inr (.inr rfl)),rfl⟩
 obtain⟨p,hp,g⟩:=g;refine⟨p,hp,?_⟩;simp[Pu,Df.run,Bo,e,g]
def VU(Z:Gam):Prop:=∀(p:Ad)(b:Ak)(xs:Ac Ad)(l t:Ad),P4 p->AX p xs=Ab l->D9 p l t->Z.F 288 [.int p,Ds b xs]=.ok (.tup (ds (fmI p t xs)))
noncomputable def Pv:Df:=⟨6,Ae,(.cons (.asg 3 Ae (.bin .Sub (.bin .Mult (.idx (.var 1) (.int 1)) (.idx (.var 2) (.int 2))) (.bin .Mult (.idx (.var 1) (.int 2)) (.idx (.var 2) (.int 1))))) (.cons (.asg 4 Ae (.bin .Sub (.bin .Mult (.idx (.var 1) (.int 2)) (.idx (.var 2) (.int 0))) (.bin .Mult (.idx (.var 1) (.int 0)) (.idx (.var 2) (.int 2))))) (.cons (.asg 5 Ae (.bin .Sub (.bin .Mult (.idx (.var 1) (.int 0)) (.idx (.var 2) (.int 1))) (.bin .Mult (.idx (.var 1) (.int 1)) (.idx (.var 2) (.int 0))))) (.cons (.ret (.tup (.cons (.bin .Mod (.var 3) (.var 0)) (.cons (.bin .Mod (.var 4) (.var 0)) (.cons (.bin .Mod (.var 5) (.var 0)) .nil))))) .nil))))⟩
def HV(Z:Gam):Prop:=∀(p:Ad)(q q':Ak)(a x:R3),0<p->B3 a->B3 x->Z.F 232 [.int p,Aj q a,Aj q' x]=.ok (Aj Aa (mdR p (crs a x)))
theorem jW(Z:Gam)(p:Ad)(q q':Ak)(a x:R3)(p0:0<p)(ha:B3 a)(hx:B3 x):Pv.run Z [.int p,Aj q a,Aj q' x]=.ok (Aj Aa (mdR p (crs a x))):=by
 obtain⟨x0,x1,x2⟩:=Fk q a;obtain⟨y0,y1,y2⟩:=Fk q' x;have k:∀ {u v},Bd 300 u->Bd 300 v->EM u v=Aa:=λhu hv=>F3 hu hv (by decide) (by decide)
 simp[Pv,Df.run,Bo,x0,x1,x2,y0,y1,y2,k ha.1 hx.1,k ha.1 hx.2.1,k ha.1 hx.2.2,k ha.2.1 hx.1,k ha.2.1 hx.2.1,k ha.2.1 hx.2.2,k ha.2.2 hx.1,k ha.2.2 hx.2.1,k ha.2.2 hx.2.2,p0];rfl
noncomputable def Qv:Df:=⟨3,Ae,(.cons (.ret (.bin .Mod (.bin .Add (.bin .Add (.bin .Mult (.idx (.var 1) (.int 0)) (.idx (.var 2) (.int 0))) (.bin .Mult (.idx (.var 1) (.int 1)) (.idx (.var 2) (.int 1)))) (.bin .Mult (.idx (.var 1) (.int 2)) (.idx (.var 2) (.int 2)))) (.var 0))) .nil)⟩
def Hr(Z:Gam):Prop:=∀(p:Ad)(q q':Ak)(a x:R3),0<p->B3 a->B3 x->Z.F 233 [.int p,Aj q a,Aj q' x]=.ok (.int (Ay a x%p))
theorem gU(Z:Gam)(p:Ad)(q q':Ak)(a x:R3)(p0:0<p)(ha:B3 a)(hx:B3 x):Qv.run Z [.int p,Aj q a,Aj q' x]=.ok (.int (Ay a x%p)):=by
 obtain⟨x0,x1,x2⟩:=Fk q a;obtain⟨y0,y1,y2⟩:=Fk q' x;have k:∀ {u v},Bd 300 u->Bd 300 v->EM u v=Aa:=λhu hv=>F3 hu hv (by decide) (by decide)
 simp[Qv,Df.run,Bo,x0,x1,x2,y0,y1,y2,k ha.1 hx.1,k ha.2.1 hx.2.1,k ha.2.2 hx.2.2,p0];rfl
noncomputable def Nd:E:=(.call 233 (.cons (.var 0) (.cons (.var 3) (.cons (.var 2) .nil))))
noncomputable def PY:Df:=⟨4,Ae,(.cons (.ret (.call 288 (.cons (.var 0) (.cons (.comp Nd 3 (.e (.var 1)) B7) .nil)))) .nil)⟩
def UK(Z:Gam):Prop:=∀(p:Ad)(t q q':Ak)(a b c x:R3),GoodR p a b c->B3 x->(∃ l,AX p (tri x)=Ab l)->Z.F 289 [.int p,Db t q a b c,Aj q' x]=.ok (Aj Aa (nrm p (ap a b c x)))
theorem jT(hs:Hr Z)(hf:VU Z)(p:Ad)(t q q':Ak)(a b c x:R3)(G:GoodR p a b c)(hx:B3 x)(lx:∃ l,AX p (tri x)=Ab l):PY.run Z [.int p,Db t q a b c,Aj q' x]=.ok (Aj Aa (nrm p (ap a b c x))):=by
 have hp:=G.p4;have p0:=hp.pos;obtain⟨l0,lx⟩:=lx;obtain⟨l,el⟩:=ML hp G.nz lx CgR.rfl;obtain⟨u,iu,j,l1,pr,ef⟩:=Qo hp el;obtain⟨n1,n2⟩:=Lb hp el;have e0:fmR p u (ap a b c x)=nrm p (ap a b c x):=Ky hp ⟨j,l1⟩ n1 (pr.trans hp (n2.symm hp));have md:(tri (mdR p (ap a b c x))).map (λx=>x%p)=(tri (ap a b c x)).map (λx=>x%p):=by
  show [_%p%p,_%p%p,_%p%p]=[_%p,_%p,_%p];simp only[AS _ (Bu p)]
 have e:=hf p Ae (tri (mdR p (ap a b c x))) l u hp (by rw[K8 md];exact el) iu
 rw[QF md,ef,e0]at e;have e':Z.F 288 [.int p,.lst [.int (Ay a x%p),.int (Ay b x%p),.int (Ay c x%p)]]=.ok (Aj Aa (nrm p (ap a b c x))):=e;have b3:∀ {r},In3 p r->B3 r:=λh=>(Cd hp h).b3 (by decide)
 have k:∀ r,In3 p r->cF Z [si p,sh (Db t q a b c),sh (Aj q' x),Af] 3 Nd (Aj q r)=.ok (.int (Ay r x%p)):=λr hr=>by
  have e1:=hs p q q' r x p0 (b3 hr) hx;generalize Aj q r=rr at *;generalize Aj q' x=xx at *;simp[cF,Nd,e1]
 have g:∀ d,cG Z [si p,sh (Db t q a b c),sh (Aj q' x),Af] 3 B7 d=.ok Aa:=λ_=>rfl
 have cp:BK (cG Z [si p,sh (Db t q a b c),sh (Aj q' x),Af] 3 B7) (cF Z [si p,sh (Db t q a b c),sh (Aj q' x),Af] 3 Nd) [Aj q a,Aj q b,Aj q c]=.ok [.int (Ay a x%p),.int (Ay b x%p),.int (Ay c x%p)]:=by
  simp[BK,g,k a G.ia,k b G.ib,k c G.ic]
 have sq:=Sq t q a b c;generalize Aj Aa (nrm p (ap a b c x))=Y_ at *;generalize Aj q' x=xx at *;generalize Db t q a b c=TT at *;generalize [Aj q a,Aj q b,Aj q c]=LL at *;simp[PY,Df.run,Bo,sq,cp,e']
noncomputable def L8:Ss:=(.cons (.app 2 (.call 289 (.cons (.var 0) (.cons (.var 1) (.cons (.tup (.cons (.int 1) (.cons (.var 3) (.cons (.bin .Mult (.var 3) (.var 3)) .nil)))) .nil))))) .nil)
noncomputable def No:Df:=⟨4,Ae,(.cons (.asg 2 Aa (.lst (.cons (.call 289 (.cons (.var 0) (.cons (.var 1) (.cons (.tup (.cons (.int 0) (.cons (.int 0) (.cons (.int 1) .nil)))) .nil)))) .nil))) (.cons (.fors 3 (.rng (.var 0)) L8) (.cons (.ret (.var 2)) .nil)))⟩
noncomputable def Gq(p:Ad):Ac R3:=(0,0,1)::(AT p.toNat).map fun(t:Ag)=>((1:Ad),(t:Ad),(t:Ad)*(t:Ad))
theorem NR(hp:P4 p)(hx:x∈Gq p):B3 x/\∃ l,AX p (tri x)=Ab l:=by
 have p1:1<p:=by have:=hp.lo;omega
 have ph:=hp.hi;rcases Av.mp hx with rfl|hx
 .exact⟨(Cd hp (a:=(0,0,1)) ⟨⟨Hb 0,hp.pos⟩,⟨Hb 0,hp.pos⟩,⟨(by decide:(0:Ad)<=1),p1⟩⟩).b3 (by decide),1,Wi p1⟩
 .obtain⟨t,ht,rfl⟩:=Bb.mp hx;have ht:=A3.mp ht;have t0:(t:Ad)<11:=by omega
  have tt:(t:Ad)*(t:Ad)<=11*11:=Xp (by omega) (by omega) (by omega) (by decide)
  have t2:0<=(t:Ad)*(t:Ad):=G1 (by omega) (by omega)
  have pw:(2:Ag) ^ 10<=2 ^ 300:=Et (by decide) (by decide)
  refine⟨⟨?_,?_,?_⟩,1,S4 p1 _ _⟩
  .exact AK (by decide:(1:Ad).natAbs<2 ^ 10) pw
  .exact AK (by show ((t:Ad)).natAbs<2 ^ 10;omega) pw
  .exact AK (by show ((t:Ad)*(t:Ad)).natAbs<2 ^ 10;omega) pw
theorem oO{RR:D}{acc:Ac D}(mm:DQ m m=Aa)(en:Z.F 289 [.int p,RR,.tup [.int 1,.int m,.int (m*m)]]=.ok Y_)(sz:Do (acc.length+1)=Aa):Bi Z 3 L8 (.int m) [si p,sh RR,Ab (.lst acc,Aa),s3]=.next [si p,sh RR,Ab (.lst (acc++[Y_]),Aa),si m]:=by
 simp[Bi,L8,mm,en,Dc,sz]
def dn(Z:Gam):Prop:=∀(p:Ad)(a b c:R3),GoodR p a b c->Z.F 290 [.int p,Fm a b c]=.ok (Au ((Gq p).map λx=>nrm p (ap a b c x)))
theorem vW(hl:UK Z)(p:Ad)(a b c:R3)(G:GoodR p a b c):No.run Z [.int p,Fm a b c]=.ok (Au ((Gq p).map λx=>nrm p (ap a b c x))):=by
 have hp:=G.p4;have ph:=hp.hi;have pl:=hp.lo;have L:∀ x∈Gq p,Z.F 289 [.int p,Fm a b c,Aj Aa x]=.ok (Aj Aa (nrm p (ap a b c x))):=λx hx=>hl p Ae Ae Aa a b c x G (NR hp hx).1 (NR hp hx).2
 have e0:Z.F 289 [.int p,Fm a b c,.tup [.int 0,.int 0,.int 1]]=.ok (Aj Aa (nrm p (ap a b c (0,0,1)))):=L (0,0,1) (Ax ..);have rg:CI 0 p=.ok (CK 0 (p-0).toNat):=K4 (by decide) (by decide) (by omega) (by omega)
 rw[E1]at rg;have lp:=Qd (body:=Bi Z 3 L8) (λn U=>∃ s3,U=[si p,sh (Fm a b c),Ab (.lst (((0,0,1)::(AT n).map fun(t:Ag)=>((1:Ad),(t:Ad),(t:Ad)*(t:Ad))).map λx=>Aj Aa (nrm p (ap a b c x))),Aa),s3]) (CK 0 p.toNat) 0 [si p,sh (Fm a b c),Ab (.lst [Aj Aa (nrm p (ap a b c (0,0,1)))],Aa),Af] ⟨Af,rfl⟩ (by
  rintro n x hx U ⟨s3,rfl⟩;obtain⟨hn,rfl⟩:=QD hx;rw[C0,FO];have hm:((1:Ad),(n:Ad),(n:Ad)*(n:Ad))∈Gq p:=At _ (Bb.mpr ⟨n,A3.mpr (by omega),rfl⟩)
  have en:Z.F 289 [.int p,Fm a b c,.tup [.int 1,.int (n:Ad),.int ((n:Ad)*(n:Ad))]]=.ok (Aj Aa (nrm p (ap a b c (1,(n:Ad),(n:Ad)*(n:Ad))))):=L _ hm;have lr:(AT (n+1)).map (fun(t:Ag)=>((1:Ad),(t:Ad),(t:Ad)*(t:Ad)))=(AT n).map (fun(t:Ag)=>((1:Ad),(t:Ad),(t:Ad)*(t:Ad)))++[((1:Ad),(n:Ad),(n:Ad)*(n:Ad))]:=by
   rw[XX,FI];rfl
  rw[lr,<-List.cons_append,FI];have len:((((0:Ad),(0:Ad),(1:Ad))::(AT n).map fun(t:Ag)=>((1:Ad),(t:Ad),(t:Ad)*(t:Ad))).map λx=>Aj Aa (nrm p (ap a b c x))).length=n+1:=by simp
  generalize ((((0:Ad),(0:Ad),(1:Ad))::(AT n).map fun(t:Ag)=>((1:Ad),(t:Ad),(t:Ad)*(t:Ad))).map λx=>Aj Aa (nrm p (ap a b c x)))=acc at *
  have sz:Do (acc.length+1)=Aa:=E4 (by omega)
  have mm:DQ (n:Ad) (n:Ad)=Aa:=G4 (by omega) (by omega)
  refine⟨_,?_,si (n:Ad),rfl⟩;show Bi Z 3 L8 (.int (n:Ad)) [si p,sh (Fm a b c),Ab (.lst acc,Aa),s3]=.next [si p,sh (Fm a b c),Ab (.lst (acc++[Aj Aa (nrm p (ap a b c (1,(n:Ad),(n:Ad)*(n:Ad))))]),Aa),si (n:Ad)];exact oO mm en sz)
 obtain⟨U',e,s3,rfl⟩:=lp;rw[FO,Mp]at e;have fin:D.lst (((0,0,1)::(AT p.toNat).map fun(t:Ag)=>((1:Ad),(t:Ad),(t:Ad)*(t:Ad))).map λx=>Aj Aa (nrm p (ap a b c x)))=Au ((Gq p).map λx=>nrm p (ap a b c x)):=by
  unfold Au Gq;rw[DL];rfl
 rw[<-fin]
 clear fin L
 generalize (((0,0,1)::(AT p.toNat).map fun(t:Ag)=>((1:Ad),(t:Ad),(t:Ad)*(t:Ad))).map λx=>Aj Aa (nrm p (ap a b c x)))=OUT at *
 generalize CK 0 p.toNat=RL at *;generalize Aj Aa (nrm p (ap a b c (0,0,1)))=Y_ at *;generalize Fm a b c=RR at *;simp[No,Df.run,Bo,e0,DR,rg,e]
noncomputable def Pk:E:=(.and (.cons (.isi (.var 3) [.int]) (.cons (.no (.isi (.var 3) [.bool])) (.cons (.cmp2 .LtE .Lt (.int 0) (.var 3) (.var 0)) .nil))))
noncomputable def Pt:Df:=⟨4,Ae,(.cons (.ife (.or (.cons (.no (.isi (.var 1) [.tuple])) (.cons (.cmp .NotEq (.bi .len (.cons (.var 1) .nil)) (.var 2)) .nil))) (.cons (.ret (.bl Ae)) .nil) .nil) (.cons (.ret (.bi .all (.cons (.comp Pk 3 (.e (.var 1)) B7) .nil))) .nil))⟩
def VT(Z:Gam):Prop:=∀(p:Ad)(xs:Ac Ad),(∀ x∈xs,0<=x/\x<p)->Z.F 236 [.int p,.tup (ds xs),.int xs.length]=.ok (.bl Aa)
theorem pB(Z:Gam)(p:Ad)(xs:Ac Ad)(hx:∀ x∈xs,0<=x/\x<p):Pt.run Z [.int p,.tup (ds xs),.int xs.length]=.ok (.bl Aa):=by
 have c1:BK (cG Z [si p,sh (.tup (ds xs)),si xs.length,Af] 3 B7) (cF Z [si p,sh (.tup (ds xs)),si xs.length,Af] 3 Pk) (ds xs)=.ok (xs.map λ_=>D.bl Aa):=by
  refine VD xs λx hm=>⟨rfl,?_⟩
  obtain⟨h0,h1⟩:=hx x hm;simp[cF,Pk,kiD,FE,h0,h1]
 have dl:(ds xs).length=xs.length:=AV ..;simp[Pt,Df.run,Bo,kiD,FE,dl,c1,UJ]
noncomputable def PF:E:=(.cmp .Gt (.var 3) (.int 0))
noncomputable def PH:E:=(.var 3)
noncomputable def PZ:Df:=⟨4,Ae,(.cons (.ife (.or (.cons (.no (.call 236 (.cons (.var 0) (.cons (.var 1) (.cons (.var 2) .nil))))) (.cons (.cmp .Eq (.bi .sum (.cons (.var 1) .nil)) (.int 0)) .nil))) (.cons (.ret (.bl Ae)) .nil) .nil) (.cons (.ret (.cmp .Eq (.idx (.comp PH 3 (.e (.var 1)) PF) (.int 0)) (.int 1))) .nil))⟩
def VV(Z:Gam):Prop:=∀(p:Ad)(xs:Ac Ad),0<p->(∀ x∈xs,0<=x/\x<p)->AX p xs=Ab 1->Z.F 237 [.int p,.tup (ds xs),.int xs.length]=.ok (.bl Aa)
theorem U_0{p:Ad}:∀ xs:Ac Ad,(∀ v∈xs,0<=v/\v<p)->AX p xs=(xs.filter λv=>decide (0<v)).head?
 |[],_=>rfl
 |v::xs,h=>by
  have hv:=h v (Ax ..);have em:=AG hv.1 hv.2;have ih:=U_0 xs λw hw=>h w (At _ hw)
  unfold AX;rw[em,Ey,ih];by_cases z:v=0
  .rw[AO z,z];rfl
  .rw[AW z,AO (by simp;omega)]
   rfl
theorem WA:∀(xs:Ac Ad)(a:Ad),GW a (ds xs)=.ok (a+xs.sum)
 |[],a=>by show R.ok a=_;simp
 |x::xs,a=>by
  show GW (a+x) (ds xs)=_;rw[WA xs (a+x)];simp[Int.add_assoc]
theorem Ve{p:Ad}:∀ xs:Ac Ad,(∀ v∈xs,0<=v/\v<p)->0<=xs.sum/\∀ v∈xs,v<=xs.sum
 |[],_=>⟨by simp,λv h=>nomatch h⟩
 |x::xs,h=>by
  obtain⟨h1,h2⟩:=Ve xs λw hw=>h w (At _ hw)
  have hx:=h x (Ax ..);rw[List.sum_cons];refine⟨by omega,λv hv=>?_⟩
  rcases Av.mp hv with rfl|hv
  .omega
  .have:=h2 v hv;omega
theorem U_6(hr:VT Z)(p:Ad)(xs:Ac Ad)(p0:0<p)(hx:∀ x∈xs,0<=x/\x<p)(l1:AX p xs=Ab 1):PZ.run Z [.int p,.tup (ds xs),.int xs.length]=.ok (.bl Aa):=by
 have e1:=hr p xs hx;have hd:(xs.filter λv=>decide (0<v)).head?=Ab 1:=by rw[<-U_0 xs hx];exact l1
 have m1:(1:Ad)∈xs:=by
  have:(1:Ad)∈xs.filter λv=>decide (0<v):=List.mem_of_mem_head? hd
  exact(Cr.mp this).1
 obtain⟨s0,s1⟩:=Ve xs hx;have sz:¬ xs.sum=0:=by have:=s1 1 m1;omega
 have sm:biD .sum [.tup (ds xs)]=.ok (.int xs.sum):=by
  show (GW 0 (ds xs)).bind (λi=>R.ok (D.int i))=_
  rw[WA,C0];rfl
 have sq:Ch (.tup (ds xs))=.ok (ds xs):=rfl;have c1:∀ n:Ad,BK (cG Z [si p,sh (.tup (ds xs)),si n,Af] 3 PF) (cF Z [si p,sh (.tup (ds xs)),si n,Af] 3 PH) (ds xs)=.ok (ds (xs.filter λv=>decide (0<v))):=λn=>by
  refine Nj xs λv _=>⟨?_,?_⟩
  .simp[cG,PF]
  .simp[cF,PH]
 have g:=P6 hd;generalize (xs.length:Ad)=N at *;generalize xs.sum=SS at *;generalize ds (xs.filter λv=>decide (0<v))=FL at *
 generalize D.tup (ds xs)=TT at *;generalize ds xs=XL at *;simp[PZ,Df.run,Bo,e1,sm,sz,sq,c1,g]
noncomputable def C0p:C6:=⟨0,1,0,0,-1,0⟩
noncomputable def Pj:E:=(.bin .Mod (.bin .Add (.var 9) (.bin .Mult (.var 8) (.var 10))) (.var 0))
noncomputable def HQ:Ss:=(.cons (.asg 5 Ae (.call 228 (.cons (.var 1) (.cons (.bin .Add (.var 2) (.var 4)) .nil)))) (.cons (.asg 6 Ae (.bin .Mod (.var 5) (.int 3))) (.cons (.asg 7 Ae (.bin .Mod (.bin .Add (.bin .Add (.var 6) (.int 1)) (.bin .Mod (.bin .FloorDiv (.var 5) (.int 3)) (.int 2))) (.int 3))) (.cons (.asg 8 Ae (.bin .Mod (.bin .FloorDiv (.var 5) (.int 6)) (.var 0))) (.cons (.put 3 (.var 6) (.compT Pj [9,10] (.zip (.idx (.var 3) (.var 6)) (.idx (.var 3) (.var 7))) B7)) (.cons (.ife (.cmp .Eq (.bin .Mod (.bin .FloorDiv (.var 5) (.int 100)) (.int 3)) (.int 1)) (.cons (.asg 3 Aa (.lst (.cons (.idx (.var 3) (.var 7)) (.cons (.idx (.var 3) (.var 6)) (.cons (.idx (.var 3) (.bin .Sub (.bin .Sub (.int 3) (.var 6)) (.var 7))) .nil))))) .nil) .nil) .nil))))))
noncomputable def Pi:E:=(.bin .Mod (.bin .Mult (.var 8) (.var 11)) (.var 0))
theorem lG{a b c:R3}{i j:Ad}(h:GoodR p a b c)(ij:Ij i j):∃(i':Ag)(x y a' b' c':R3),DA (L3 a b c) i=.ok (Ea x)/\DA (L3 a b c) j=.ok (Ea y)/\plD 3 i=Ab i'/\GoodR p a' b' c'/\(L3 a b c).set i' (Ea (adR p t x y))=L3 a' b' c':=by
 have p0:=h.p4.pos;rcases ij with ⟨rfl,rfl⟩|⟨rfl,rfl⟩|⟨rfl,rfl⟩|⟨rfl,rfl⟩|⟨rfl,rfl⟩|⟨rfl,rfl⟩
 .exact⟨0,a,b,_,_,_,rfl,rfl,rfl,h.of (k:=1) h.p4.o1 (aK p t a b c) ⟨LG p0 _ _ _,h.ib,h.ic⟩,rfl⟩
 .exact⟨0,a,c,_,_,_,rfl,rfl,rfl,h.of (k:=1) h.p4.o1 (aJ p t a b c) ⟨LG p0 _ _ _,h.ib,h.ic⟩,rfl⟩
 .exact⟨1,b,a,_,_,_,rfl,rfl,rfl,h.of (k:=1) h.p4.o1 (aI p t a b c) ⟨h.ia,LG p0 _ _ _,h.ic⟩,rfl⟩
 .exact⟨1,b,c,_,_,_,rfl,rfl,rfl,h.of (k:=1) h.p4.o1 (aH p t a b c) ⟨h.ia,LG p0 _ _ _,h.ic⟩,rfl⟩
 .exact⟨2,c,a,_,_,_,rfl,rfl,rfl,h.of (k:=1) h.p4.o1 (aG p t a b c) ⟨h.ia,h.ib,LG p0 _ _ _⟩,rfl⟩
 .exact⟨2,c,b,_,_,_,rfl,rfl,rfl,h.of (k:=1) h.p4.o1 (aF p t a b c) ⟨h.ia,h.ib,LG p0 _ _ _⟩,rfl⟩
theorem lF{a b c:R3}{i j:Ad}(h:GoodR p a b c)(ij:Ij i j):∃(x y z:R3),DA (L3 a b c) j=.ok (Ea x)/\DA (L3 a b c) i=.ok (Ea y)/\DA (L3 a b c) (3-i-j)=.ok (Ea z)/\GoodR p x y z:=by
 rcases ij with ⟨rfl,rfl⟩|⟨rfl,rfl⟩|⟨rfl,rfl⟩|⟨rfl,rfl⟩|⟨rfl,rfl⟩|⟨rfl,rfl⟩
 .exact⟨b,a,c,rfl,rfl,rfl,h.of (k:=-1) h.p4.m1 (Cg.of (by unfold Al det;grind)) ⟨h.ib,h.ia,h.ic⟩⟩
 .exact⟨c,a,b,rfl,rfl,rfl,h.of (k:=1) h.p4.o1 (Cg.of (by unfold Al det;grind)) ⟨h.ic,h.ia,h.ib⟩⟩
 .exact⟨a,b,c,rfl,rfl,rfl,h⟩
 .exact⟨c,b,a,rfl,rfl,rfl,h.of (k:=-1) h.p4.m1 (Cg.of (by unfold Al det;grind)) ⟨h.ic,h.ib,h.ia⟩⟩
 .exact⟨a,c,b,rfl,rfl,rfl,h.of (k:=-1) h.p4.m1 (Cg.of (by unfold Al det;grind)) ⟨h.ia,h.ic,h.ib⟩⟩
 .exact⟨b,c,a,rfl,rfl,rfl,h.of (k:=1) h.p4.o1 (Cg.of (by unfold Al det;grind)) ⟨h.ib,h.ic,h.ia⟩⟩
section
variable{Z:Gam}{ns:Ac Ad}{p:Ad}{a b c:R3}{s2 s4 s5 s6 s7 s8:Sl}
theorem nC(hm:JY Z 228 ns)(h:GoodR p a b c)(ha:0<=at_)(hk:0<=k):∃ a' b' c' v5 v6 v7 v8,GoodR p a' b' c'/\Bi Z 4 HQ (.int k) [si p,sh (scr ns),si at_,Ab (.lst (L3 a b c),Aa),s4,s5,s6,s7,s8,Af,Af,Af]=.next [si p,sh (scr ns),si at_,Ab (.lst (L3 a' b' c'),Aa),si k,v5,v6,v7,v8,Af,Af,Af]:=by
 have p0:=h.p4.pos;have ph:=h.p4.hi;obtain⟨m,m0,e0⟩:=hm (at_+k) (by omega)
 generalize hi:m%3=i;generalize hj:(i+1+m/3%2)%3=j;have ij:=Z_4 hi hj;have t0:=AJ (m/6) (b:=p) (by omega)
 have t1:=AF (m/6) p0;generalize ht:m/6%p=t at t0 t1;have mt:∀ x,DQ t x=Aa:=λx=>G4 (by omega) (by omega)
 obtain⟨i',x,y,a',b',c',gi,gj,pi,g',es⟩:=lG (t:=t) h ij;obtain⟨x2,y2,z2,f1,f2,f3,g2⟩:=lF g' ij;have pi':plD (L3 a b c).length i=Ab i':=pi;have e1:evSs Z [si p,sh (scr ns),si at_,Ab (.lst (L3 a b c),Aa),si k,s5,s6,s7,s8,Af,Af,Af] (HQ.take 4)=.next [si p,sh (scr ns),si at_,Ab (.lst (L3 a b c),Aa),si k,si m,si i,si j,si t,Af,Af,Af]:=by
  simp[HQ,Ss.take,e0,hi,hj,ht,p0]
 have cp:BK (cGT Z [si p,sh (scr ns),si at_,Ab (.lst (L3 a b c),Aa),si k,si m,si i,si j,si t,Af,Af,Af] [9,10] B7) (cFT Z [si p,sh (scr ns),si at_,Ab (.lst (L3 a b c),Aa),si k,si m,si i,si j,si t,Af,Af,Af] [9,10] Pj) (EF [.int x.1,.int x.2.1,.int x.2.2] [.int y.1,.int y.2.1,.int y.2.2])=.ok [.int ((x.1+t*y.1)%p),.int ((x.2.1+t*y.2.1)%p),.int ((x.2.2+t*y.2.2)%p)]:=by
  generalize x.1=x0;generalize x.2.1=x1;generalize x.2.2=x2;generalize y.1=y0;generalize y.2.1=y1;generalize y.2.2=y2;simp[BK,cGT,cFT,EF,Pj,B7,p0,mt]
 have gi':DA (L3 a b c) i=.ok (.lst [.int x.1,.int x.2.1,.int x.2.2]):=gi;have gj':DA (L3 a b c) j=.ok (.lst [.int y.1,.int y.2.1,.int y.2.2]):=gj;have rd:D.lst [.int ((x.1+t*y.1)%p),.int ((x.2.1+t*y.2.1)%p),.int ((x.2.2+t*y.2.2)%p)]=Ea (adR p t x y):=rfl;have fin:∀ {o},evSs Z [si p,sh (scr ns),si at_,Ab (.lst (L3 a b c),Aa),si k,si m,si i,si j,si t,Af,Af,Af] (HQ.drop 4)=o->Bi Z 4 HQ (.int k) [si p,sh (scr ns),si at_,Ab (.lst (L3 a b c),Aa),s4,s5,s6,s7,s8,Af,Af,Af]=o:=λ{o} h=>by
  show evSs Z [si p,sh (scr ns),si at_,Ab (.lst (L3 a b c),Aa),si k,s5,s6,s7,s8,Af,Af,Af] HQ=o;rw[Uz Z 4,e1];exact h
 have sL:L3 x2 y2 z2=[Ea x2,Ea y2,Ea z2]:=rfl;by_cases q:m/100%3=1
 .refine⟨x2,y2,z2,si m,si i,si j,si t,g2,fin ?_⟩;rw[sL]
  clear e1 fin sL
  generalize L3 a b c=LL at *;generalize L3 a' b' c'=LM at *;generalize Ea x2=rx at *;generalize Ea y2=ry at *;generalize Ea z2=rz at *;generalize scr ns=S at *;simp[HQ,Ss.drop,QM,Dc,gi',gj',pi',cp,rd,es,q,f1,f2,f3,DR]
 .refine⟨a',b',c',si m,si i,si j,si t,g',fin ?_⟩
  clear e1 fin sL
  generalize L3 a b c=LL at *;generalize L3 a' b' c'=LM at *;generalize scr ns=S at *;simp[HQ,Ss.drop,QM,Dc,gi',gj',pi',cp,rd,es,q]
end
def sG(Z:Gam)(ns:Ac Ad):Prop:=∀(p at_:Ad),P4 p->0<=at_->∃ a b c,GoodR p a b c/\Z.F 250 [.int p,scr ns,.int at_]=.ok (Fm a b c)
section
variable{p:Ad}{C:C6}{a b c A B P U_ l m:R3}
theorem swp(h:Ay U_ m%p=0):Ay m U_%p=0:=by rw[HW];exact h
end
noncomputable def Lw(p:Ad):Ac R3:=(Gq p).map (mdR p)
theorem kH(hp:P4 p):(Lw p).Nodup:=by
 rcases hp with rfl|rfl|rfl|rfl<;>decide+kernel
theorem VE(hp:P4 p):∀ x∈Lw p,x∈CM p/\vI C0p x%p=0:=by
 rcases hp with rfl|rfl|rfl|rfl<;>decide+kernel
theorem oN(hp:P4 p):∀ x∈CM p,vI C0p x%p=0->x∈Lw p:=by
 rcases hp with rfl|rfl|rfl|rfl<;>decide+kernel
theorem TW(hp:P4 p)(x:R3):x∈Lw p↔NF p x/\vI C0p x%p=0:=
 ⟨λh=>⟨(Gp hp).mp (VE hp x h).1,(VE hp x h).2⟩,λh=>oN hp x ((Gp hp).mpr h.1) h.2⟩
theorem rJ{p l l':Ad}{s:R3}(hp:P4 p)(er:AX p (tri r)=Ab l)(es:AX p (tri s)=Ab l')(h:CgR p r s):nrm p r=nrm p s:=by
 obtain⟨h1,h2⟩:=Lb hp er;obtain⟨h3,h4⟩:=Lb hp es;exact Ky hp h1 h3 ((h2.trans hp (Pr.cg hp h)).trans hp (h4.symm hp))
theorem kF{a b c:R3}(hp:P4 p)(z:Al a b c%p≠0):((Gq p).map λx=>nrm p (ap a b c x))=(Lw p).map λx=>nrm p (ap a b c x):=by
 unfold Lw;rw[DL];refine DZ λx hx=>?_
 obtain⟨l,el⟩:=(NR hp hx).2;have g:CgR p (mdR p x) x:=CgR.md rfl;have g':CgR p (ap a b c x) (ap a b c (mdR p x)):=OF CgR.rfl CgR.rfl CgR.rfl g.symm;obtain⟨l1,e1⟩:=ML hp z el (CgR.rfl (a:=ap a b c x));obtain⟨l2,e2⟩:=ML hp z el g'.symm;exact rJ hp e1 e2 g'
theorem kX(x:R3)(l:Ac R3):(l.map (Aj Aa)).any (λy=>eqD y (Aj Aa x))=decide (x∈l):=by
 induction l with
 |nil=>simp
 |cons y l ih=>
  rw[Bq,Jy,ih,Kv,C8,C9,Bh,Bh,Bh,Av];exact or_congr ⟨M5,M5⟩ Iff.rfl
theorem NM(x:R3)(l:Ac R3):B9 .In (Aj Aa x) (Au l)=.ok (.bl (decide (x∈l))):=by
 have k1:(l.map (Aj Aa)).all (flD 5)=Aa:=by
  rw[Fd];intro y hy;obtain⟨z,_,rfl⟩:=Bb.mp hy;exact(N8 z).1
 show (if (flD 5 (Aj Aa x)&&(l.map (Aj Aa)).all (flD 5))=Aa then R.ok (D.bl ((l.map (Aj Aa)).any λy=>eqD y (Aj Aa x))) else R.bad)=_
 rw[k1,(N8 x).1,AO (show (Aa&&Aa)=Aa from rfl),kX]
noncomputable def KU:Ss:=(.cons (.asg 5 Ae (.bin .Mod (.call 228 (.cons (.var 0) (.cons (.bin .Add (.var 1) (.var 4)) .nil))) (.bin .Add (.bi .len (.cons (.var 3) .nil)) (.int 1)))) (.cons (.asg 3 Ae (.bin .Add (.bin .Add (.sl (.var 3) .non (.var 5)) (.lst (.cons (.idx (.var 2) (.var 4)) .nil))) (.sl (.var 3) (.var 5) .non))) .nil))
noncomputable def Kg:Df:=⟨6,Ae,(.cons (.asg 3 Ae (.lst .nil)) (.cons (.fors 4 (.rng (.bi .len (.cons (.var 2) .nil))) KU) (.cons (.ret (.var 3)) .nil)))⟩
theorem Qn{d:Ag}{i:Ad}(h0:0<=i):Gx n d (Ab i)=min i.toNat n:=by
 show (if i<0 then _ else _)=_
 rw[AW (by omega)]
theorem Om(M:Ac R3){i:Ad}(h0:0<=i):slD (Au M) Af (Ab i)=.ok (Au (M.take i.toNat)):=by
 show R.ok (D.lst (((M.map (Aj Aa)).drop 0).take (Gx (M.map (Aj Aa)).length (M.map (Aj Aa)).length (Ab i)-0)))=_;rw[Qn h0,XB,Nat.sub_zero,AV];unfold Au;rw[XO]
 congr 2
 by_cases h:i.toNat<=M.length
 .rw[Ir h]
 .rw[X2 (by omega),D6 (by simp),D6 (by simp;omega)]
theorem Q0(M:Ac R3){i:Ad}(h0:0<=i)(h1:i.toNat<=M.length):slD (Au M) (Ab i) Af=.ok (Au (M.drop i.toNat)):=by
 show R.ok (D.lst (((M.map (Aj Aa)).drop (Gx (M.map (Aj Aa)).length 0 (Ab i))).take ((M.map (Aj Aa)).length-Gx (M.map (Aj Aa)).length 0 (Ab i))))=_;rw[Qn h0];unfold Au;rw[XN,AV,Ir h1]
 congr 2
 exact D6 (by simp)
theorem Uv(X Y_:Ac R3)(h:X.length+Y_.length<=1000):Dj .Add (Au X) (Au Y_)=.ok (Au (X++Y_)):=by
 show (if Do ((X.map (Aj Aa)).length+(Y_.map (Aj Aa)).length)=Aa then R.ok (D.lst (X.map (Aj Aa)++Y_.map (Aj Aa))) else R.bad)=_
 have z:Do ((X.map (Aj Aa)).length+(Y_.map (Aj Aa)).length)=Aa:=E4 (by rw[AV,AV];omega)
 rw[AO z,<-FI];rfl
theorem iU{L:Ac R3}(h:L[n]?=Ab x):B8 (Au L) (.int (n:Ad))=.ok (Aj Aa x):=by
 show DA (L.map (Aj Aa)) (n:Ad)=_;exact QE (by omega) (by rw[El,DS,h];rfl)
def sI(Z:Gam)(ns:Ac Ad):Prop:=∀(at_:Ad)(L:Ac R3),0<=at_->L.length<=60->∃ M:Ac R3,M.Perm L/\Z.F 251 [scr ns,.int at_,Au L]=.ok (Au M)
theorem oQ(hm:JY Z 228 ns){L M:Ac R3}(ha:0<=at_)(hx:L[n]?=Ab x)(h5:M.length<=60):∃(M':Ac R3)(v5:Sl),M'.Perm (M++[x])/\Bi Z 4 KU (.int (n:Ad)) [sh (scr ns),si at_,sh (Au L),sh (Au M),s4,s5]=.next [sh (scr ns),si at_,sh (Au L),sh (Au M'),si (n:Ad),v5]:=by
 obtain⟨m,m0,e⟩:=hm (at_+(n:Ad)) (by omega)
 have q0:=AJ m (b:=(M.length:Ad)+1) (by omega)
 have q1:=AF m (b:=(M.length:Ad)+1) (by omega)
 have ln:biD .len [Au M]=.ok (.int (M.length:Ad)):=UY M;have lp:(0:Ad)<(M.length:Ad)+1:=by omega
 generalize hi:m%((M.length:Ad)+1)=i at *;have s1:=Om M q0;have s2:=Q0 M q0 (by omega)
 have g:=iU hx;have a1:=Uv (M.take i.toNat) [x] (by simp;omega)
 have a2:=Uv (M.take i.toNat++[x]) (M.drop i.toNat) (by simp;omega)
 refine⟨(M.take i.toNat++[x])++M.drop i.toNat,si i,?_,?_⟩
 .have p1:((M.take i.toNat++[x])++M.drop i.toNat).Perm (x::(M.take i.toNat++M.drop i.toNat)):=by
   rw[List.append_assoc];exact XV
  rw[E3]at p1;exact p1.trans (List.perm_append_singleton x M).symm
 .have rx:D.lst [Aj Aa x]=Au [x]:=rfl;generalize (M.length:Ad)=N at *;generalize Au L=TL at *;generalize Au M=TM at *;generalize Au (M.take i.toNat)=T1 at *;generalize Au (M.drop i.toNat)=T2 at *;generalize Au (M.take i.toNat++[x])=T3 at *;generalize Au ((M.take i.toNat++[x])++M.drop i.toNat)=T4 at *;rw[<-rx]at a1;generalize Aj Aa x=tx at *;generalize scr ns=S at *;simp[Bi,KU,e,ln,lp,hi,s1,s2,g,a1,a2]
theorem oP{S TL TM:D}(ln:biD .len [TL]=.ok (.int N))(rg:CI 0 N=.ok RL)(e:Cq (Bi Z 4 KU) RL [sh S,si at_,sh TL,sh (.lst []),Af,Af]=.next [sh S,si at_,sh TL,sh TM,s4,s5]):Kg.run Z [S,.int at_,TL]=.ok TM:=by
 have e1:evSs Z [sh S,si at_,sh TL,Af,Af,Af] Kg.body=F8 Z (.cons (.ret (.var 3)) .nil) (Cq (Bi Z 4 KU) RL [sh S,si at_,sh TL,sh (.lst []),Af,Af]):=by
  simp[Kg,ln,rg]
 show O.ans Ae (evSs Z [sh S,si at_,sh TL,Af,Af,Af] Kg.body)=_;rw[e1,e];simp
theorem pH(hm:JY Z 228 ns)(at_:Ad)(L:Ac R3)(ha:0<=at_)(hL:L.length<=60):∃ M:Ac R3,M.Perm L/\Kg.run Z [scr ns,.int at_,Au L]=.ok (Au M):=by
 have lp:=Qd (body:=Bi Z 4 KU) (λn U=>∃(M:Ac R3)(s4 s5:Sl),M.Perm (L.take n)/\U=[sh (scr ns),si at_,sh (Au L),sh (Au M),s4,s5]) (CK 0 L.length) 0 [sh (scr ns),si at_,sh (Au L),sh (Au []),Af,Af] ⟨[],Af,Af,by simp,rfl⟩ (by
  rintro n y hy U ⟨M,s4,s5,pm,rfl⟩;obtain⟨hn,rfl⟩:=QD hy;rw[FO]at pm;rw[C0,FO];have hx:L[n]?=Ab L[n]:=BP hn;obtain⟨M',v5,pm',e⟩:=oQ (s4:=s4) (s5:=s5) hm ha hx (M:=M) (by rw[pm.length_eq];simp;omega)
  refine⟨_,e,M',_,_,?_,rfl⟩;rw[List.take_succ,hx];exact pm'.trans (pm.append_right _))
 obtain⟨U',e,M,s4,s5,pm,rfl⟩:=lp;rw[FO,Mp,List.take_length]at pm;refine⟨M,pm,?_⟩;have ln:biD .len [Au L]=.ok (.int (L.length:Ad)):=UY L;have rg:CI 0 (L.length:Ad)=.ok (CK 0 ((L.length:Ad)-0).toNat):=K4 (by decide) (by decide) (by omega) (by omega)
 rw[E1,El]at rg;have e0:Au []=.lst []:=rfl;rw[e0]at e;generalize (L.length:Ad)=N at *;generalize CK 0 L.length=RL at *;generalize Au L=TL at *;generalize Au M=TM at *;generalize scr ns=S at *;exact oP ln rg e
theorem oM{a b c:R3}(hp:P4 p)(z:Al a b c%p≠0):((Gq p).map λx=>nrm p (ap a b c x)).Nodup:=by
 rw[kF hp z];refine TZ (kH hp) λx hx y hy e=>?_
 have h1:=T8 hp z ((TW hp x).mp hx).1;have h2:=T8 hp z ((TW hp y).mp hy).1;rw[<-h1,<-h2,e]
theorem kG(hp:P4 p):4<=(Gq p).length/\(Gq p).length<=60:=by
 rcases hp with rfl|rfl|rfl|rfl<;>decide+kernel
section
variable{Z:Gam}{ns:Ac Ad}{p:Ad}
end
noncomputable def KZ:Ss:=(.cons (.ife (.call 56 (.cons (.var 0) (.cons (.var 1) (.cons (.var 3) .nil)))) (.cons (.ret (.bl Aa)) .nil) .nil) .nil)
noncomputable def NN:Df:=⟨4,Ae,(.cons (.fors 3 (.e (.var 2)) KZ) (.cons (.ret (.bl Ae)) .nil))⟩
noncomputable def M6:E:=(.call 57 (.cons (.var 0) (.cons (.var 5) (.cons (.var 2) .nil))))
noncomputable def Pq:E:=(.and (.cons (.cmp .NotEq (.var 6) (.var 2)) (.cons (.no (.call 221 (.cons (.var 0) (.cons (.var 6) (.cons (.var 4) .nil))))) .nil)))
noncomputable def PD:Df:=⟨7,Aa,(.cons (.asg 4 Ae (.comp M6 5 (.e (.var 1)) B7)) (.cons (.ret (.comp KY 6 (.e (.var 3)) Pq)) .nil))⟩
noncomputable def K2:Ss:=(.cons (.asg 2 Ae (.call 222 (.cons (.var 0) (.cons (.sl (.var 1) .non (.var 3)) (.cons (.var 4) (.cons (.var 2) .nil)))))) .nil)
noncomputable def Nt:Df:=⟨5,Ae,(.cons (.asg 2 Ae (.call 69 (.cons (.var 0) .nil))) (.cons (.forT [3,4] (.enm (.var 1)) K2) (.cons (.ret (.var 2)) .nil)))⟩
section
variable{Z:Gam}{p:Ad}
noncomputable def Io(p:Ad)(x:R3)(ls:Ac R3):Ak:=ls.any λl=>decide (Ay x l%p=0)
theorem UH(h:RB Z){x:R3}(hp:P4 p)(ix:In3 p x){L:D}:∀(ls:Ac R3)(s3:Sl),(∀ l∈ls,In3 p l)->∃ s3',Cq (Bi Z 3 KZ) (ls.map (Aj Aa)) [si p,sh (Aj Aa x),sh L,s3]=if Io p x ls=Aa then .ret (.bl Aa) Ae else .next [si p,sh (Aj Aa x),sh L,s3']
 |[],s3,_=>⟨s3,rfl⟩
 |l::ls,s3,hl=>by
  have e:=h p x l hp ix (hl l Ax);obtain⟨s3',ih⟩:=UH h hp ix (L:=L) ls (sh (Aj Aa l)) λy hy=>hl y (At _ hy)
  refine⟨s3',?_⟩;show (Bi Z 3 KZ (Aj Aa l) _).turn _=_;by_cases z:Ay x l%p=0
  .have t:Io p x (l::ls)=Aa:=by unfold Io;simp[z]
   rw[CD z]at e;rw[AO t];generalize Aj Aa x=X at *;generalize Aj Aa l=Y_ at *;simp[Bi,KZ,e,DR]
  .have t:Io p x (l::ls)=Io p x ls:=by unfold Io;simp[z]
   rw[B5 z]at e;rw[t,<-ih];generalize Aj Aa x=X at *;generalize Aj Aa l=Y_ at *;have q:Bi Z 3 KZ Y_ [si p,sh X,sh L,s3]=.next [si p,sh X,sh L,sh Y_]:=by simp[Bi,KZ,e]
   rw[q];rfl
def Xb(Z:Gam):Prop:=∀(p:Ad)(x:R3)(ls:Ac R3),P4 p->In3 p x->(∀ l∈ls,In3 p l)->Z.F 221 [.int p,Aj Aa x,Au ls]=.ok (.bl (Io p x ls))
theorem mw(h:RB Z)(x:R3)(ls:Ac R3)(hp:P4 p)(ix:In3 p x)(hl:∀ l∈ls,In3 p l):NN.run Z [.int p,Aj Aa x,Au ls]=.ok (.bl (Io p x ls)):=by
 obtain⟨s3,e⟩:=UH h hp ix (L:=Au ls) ls Af hl;have sq:Ch (Au ls)=.ok (ls.map (Aj Aa)):=rfl;generalize Au ls=L at *;generalize ls.map (Aj Aa)=M at *;generalize Aj Aa x=X at *;cases hb:Io p x ls with
 |true=>rw[hb,AO rfl]at e;simp[NN,Df.run,Bo,sq,e]
 |false=>rw[hb,AW AY]at e;simp[NN,Df.run,Bo,sq,e]
theorem yQ(ny:NF p y)(pr:Pr p y r):NF p (nrm p r)/\Pr p (nrm p r) r:=by
 have ex:∃ y,NF p y/\Pr p y r:=⟨y,ny,pr⟩;unfold nrm;rw[dif_pos ex];exact DE ex
theorem Z_1(hp:P4 p){a b:R3}(na:NF p a)(nb:NF p b)(ne:a≠b)(h:Oc Z):NF p (nrm p (crs a b))/\Pr p (nrm p (crs a b)) (crs a b)/\Z.F 57 [.int p,Aj Aa a,Aj Aa b]=.ok (Aj Aa (nrm p (crs a b))):=by
 obtain⟨y,i,l,pr,e⟩:=h p a b hp na.1 nb.1 na.2 nb.2 ne;obtain⟨n1,n2⟩:=yQ ⟨i,l⟩ pr;have q:=Ky hp ⟨i,l⟩ n1 (pr.trans hp (n2.symm hp));rw[q]at e;exact⟨n1,n2,e⟩
theorem II(hp:P4 p){a b q:R3}(pr:Pr p (nrm p (crs a b)) (crs a b)):Ay q (nrm p (crs a b))%p=0↔Al a b q%p=0:=by
 rw[kg hp (show Pr p q q from ⟨1,hp.o1,CgR.of (by unfold AQ;simp)⟩) pr,show Ay q (crs a b)=Al a b q by unfold Ay crs Al det;grind]
noncomputable def stq(p:Ad)(pts:Ac R3)(f q:R3):Ak:=!decide (q=f) && !(pts.any λa=>decide (Al a f q%p=0))
def QW(Z:Gam):Prop:=∀(p:Ad)(pts:Ac R3)(f:R3)(left:Ac R3),P4 p->(∀ x∈pts,NF p x)->NF p f->f∉pts->(∀ x∈left,NF p x)->Z.F 222 [.int p,Au pts,Aj Aa f,Au left]=.ok (Au (left.filter (stq p pts f)))
theorem lL(hj:Oc Z)(ha:Xb Z)(pts:Ac R3)(f:R3)(left:Ac R3)(hp:P4 p)(np:∀ x∈pts,NF p x)(nf:NF p f)(ni:f∉pts)(nl:∀ x∈left,NF p x):PD.run Z [.int p,Au pts,Aj Aa f,Au left]=.ok (Au (left.filter (stq p pts f))):=by
 have jn:∀ a∈pts,NF p (nrm p (crs a f))/\Pr p (nrm p (crs a f)) (crs a f)/\Z.F 57 [.int p,Aj Aa a,Aj Aa f]=.ok (Aj Aa (nrm p (crs a f))):=λa h=>Z_1 hp (np a h) nf (λz=>ni (z ▸ h)) hj
 have c1:∀ xs:Ac R3,(∀ a∈xs,a∈pts)->BK (cG Z [si p,sh (Au pts),sh (Aj Aa f),sh (Au left),Af,Af,Af] 5 B7) (cF Z [si p,sh (Au pts),sh (Aj Aa f),sh (Au left),Af,Af,Af] 5 M6) (xs.map (Aj Aa))=.ok ((xs.map λa=>nrm p (crs a f)).map (Aj Aa)):=by
  intro xs
  induction xs with
  |nil=>intro _;rfl
  |cons a xs ih=>
   intro h;have e:=(jn a (h a Ax)).2.2;have e1:cF Z [si p,sh (Au pts),sh (Aj Aa f),sh (Au left),Af,Af,Af] 5 M6 (Aj Aa a)=.ok (Aj Aa (nrm p (crs a f))):=by
    generalize Aj Aa (nrm p (crs a f))=Y_ at *;generalize Aj Aa a=X at *;generalize Aj Aa f=F at *;generalize Au pts=T at *;generalize Au left=TL at *;simp[cF,M6,e]
   have ih':=ih λb hb=>h b (At _ hb)
   show (R.ok Aa).bind _=_;rw[R.bind_ok,AO rfl,e1,R.bind_ok,show BK _ _ (Ke _ xs)=_ from ih']
   rfl
 have c1:=c1 pts λ_ h=>h
 have il:∀ l∈(pts.map λa=>nrm p (crs a f)),In3 p l:=λl hl=>by
  obtain⟨a,h,rfl⟩:=Bb.mp hl;exact(jn a h).1.1
 have c2:=Qp (g:=cG Z [si p,sh (Au pts),sh (Aj Aa f),sh (Au left),sh (Au (pts.map λa=>nrm p (crs a f))),Af,Af] 6 Pq) (f:=cF Z [si p,sh (Au pts),sh (Aj Aa f),sh (Au left),sh (Au (pts.map λa=>nrm p (crs a f))),Af,Af] 6 KY) (q:=stq p pts f) left λx hx=>by
  have e:=ha p x _ hp (nl x hx).1 il;have q1:Io p x (pts.map λa=>nrm p (crs a f))=pts.any λa=>decide (Al a f x%p=0):=by
   unfold Io;rw[Xx,C8,Gk,Gk];constructor
   .rintro⟨a,h,z⟩;exact⟨a,h,CD ((II hp (jn a h).2.1).mp (BG z))⟩
   .rintro⟨a,h,z⟩;exact⟨a,h,CD ((II hp (jn a h).2.1).mpr (BG z))⟩
  rw[q1]at e;have q2:=Kv x f;have f1:=(N8 x).1;have f2:=(N8 f).1;unfold stq;generalize (pts.any λa=>decide (Al a f x%p=0))=B at *
  generalize decide (x=f)=B2 at *;generalize Au (pts.map λa=>nrm p (crs a f))=T2 at *
  generalize Aj Aa x=X at *;generalize Aj Aa f=F at *;generalize Au pts=T at *;generalize Au left=TL at *;constructor
  .cases B2<;>cases B<;>simp[cG,Pq,e,q2,f1,f2]
  .simp[cF,KY]
 have s1:Ch (Au pts)=.ok (pts.map (Aj Aa)):=rfl;have s2:Ch (Au left)=.ok (left.map (Aj Aa)):=rfl;have e3:Au (pts.map λa=>nrm p (crs a f))=.lst ((pts.map λa=>nrm p (crs a f)).map (Aj Aa)):=rfl
 have e4:Au (left.filter (stq p pts f))=.lst ((left.filter (stq p pts f)).map (Aj Aa)):=rfl;rw[e3]at c2;rw[e4];generalize (left.filter (stq p pts f)).map (Aj Aa)=RL at *;generalize (pts.map λa=>nrm p (crs a f)).map (Aj Aa)=LL at *
 generalize left.map (Aj Aa)=M2 at *;generalize pts.map (Aj Aa)=M1 at *;generalize Aj Aa f=F at *;generalize Au pts=T at *;generalize Au left=TL at *;simp[PD,Df.run,Bo,s1,s2,c1,c2,DR]
noncomputable def IM(p:Ad):Ac R3->Ac R3->Ac R3->Ac R3
 |_,[],left=>left
 |seen,f::rest,left=>IM p (seen++[f]) rest (left.filter (stq p seen f))
theorem QG{x:R3}:∀{rest seen left:Ac R3},x∈IM p seen rest left->x∈left
 |[],_,_,h=>h
 |_::_,_,_,h=>(Cr.mp (QG h)).1
theorem Uw(h:QW Z)(hp:P4 p){PT:Ac R3}(np:∀ x∈PT,NF p x)(nd:PT.Nodup)(hz:PT.length<=1000):∀(rest seen left:Ac R3)(s3 s4:Sl),PT=seen++rest->(∀ x∈left,NF p x)->∃ s3' s4',Cq (Ev Z [3,4] K2) (EQ seen.length (rest.map (Aj Aa))) [si p,sh (Au PT),sh (Au left),s3,s4]=.next [si p,sh (Au PT),sh (Au (IM p seen rest left)),s3',s4']
 |[],seen,left,s3,s4,_,_=>⟨s3,s4,rfl⟩
 |f::rest,seen,left,s3,s4,e,nl=>by
  have nf:NF p f:=np f (by rw[e];simp)
  have ns:∀ x∈seen,NF p x:=λx hx=>np x (by rw[e];simp[hx])
  have ni:f∉seen:=λz=>by
   rw[e,List.nodup_append]at nd;exact nd.2.2 f z f Ax rfl
  have e1:=h p seen f left hp ns nf ni nl;obtain⟨s3',s4',ih⟩:=Uw h hp np nd hz rest (seen++[f]) (left.filter (stq p seen f)) (si seen.length) (sh (Aj Aa f)) (by rw[e];simp) λx hx=>nl x (Cr.mp hx).1
  refine⟨s3',s4',?_⟩;rw[BU,Ec]at ih;rw[show IM p seen (f::rest) left=IM p (seen++[f]) rest (left.filter (stq p seen f)) from rfl,<-ih]
  have s1:slD (Au PT) Af (Ab (seen.length:Ad))=.ok (Au seen):=by
   rw[Om PT (by omega),El,e,X0]
   rfl
  show (Ev Z [3,4] K2 (.tup [.int seen.length,Aj Aa f]) _).turn _=_;have t:Ev Z [3,4] K2 (.tup [.int seen.length,Aj Aa f]) [si p,sh (Au PT),sh (Au left),s3,s4]=.next [si p,sh (Au PT),sh (Au (left.filter (stq p seen f))),si seen.length,sh (Aj Aa f)]:=by
   generalize Au (left.filter (stq p seen f))=T3 at *;generalize Au left=T2 at *;generalize Au PT=T1 at *;generalize Au seen=T0 at *;generalize Aj Aa f=F at *;simp[Ev,K2,F4,EW,s1,e1,slE]
  rw[t];rfl
noncomputable def Im(p:Ad)(pts:Ac R3):Ac R3:=IM p [] pts (CM p)
def aA(Z:Gam):Prop:=∀(p:Ad)(pts:Ac R3),P4 p->(∀ x∈pts,NF p x)->pts.Nodup->pts.length<=1000->Z.F 223 [.int p,Au pts]=.ok (Au (Im p pts))
theorem ml(h:QW Z)(ht:∀ p,P4 p->Z.F 69 [.int p]=.ok (Au (CM p)))(pts:Ac R3)(hp:P4 p)(np:∀ x∈pts,NF p x)(nd:pts.Nodup)(hz:pts.length<=1000):Nt.run Z [.int p,Au pts]=.ok (Au (Im p pts)):=by
 obtain⟨s3,s4,e⟩:=Uw h hp np nd hz pts [] (CM p) Af Af rfl λx hx=>(Gp hp).mp hx
 have e1:=ht p hp;have sq:Ch (Au pts)=.ok (pts.map (Aj Aa)):=rfl;unfold Im;generalize Au (IM p [] pts (CM p))=T3 at *;generalize Au (CM p)=T2 at *;generalize pts.map (Aj Aa)=M at *;generalize Au pts=T at *;have e':Cq (Ev Z [3,4] K2) (EQ 0 M) [si p,sh T,sh T2,Af,Af]=.next [si p,sh T,sh T3,s3,s4]:=e;simp[Nt,Df.run,Bo,e1,sq,e']
end
noncomputable def PR:Df:=⟨2,Ae,(.cons (.ife (.cmp .Eq (.var 0) (.var 1)) (.cons (.rais 107 (.cons (.var 0) .nil)) .nil) .nil) (.cons (.ret (.tup (.cons (.bin .Sub (.bin .Mult (.idx (.var 0) (.int 1)) (.idx (.var 1) (.int 2))) (.bin .Mult (.idx (.var 0) (.int 2)) (.idx (.var 1) (.int 1)))) (.cons (.bin .Sub (.bin .Mult (.idx (.var 0) (.int 2)) (.idx (.var 1) (.int 0))) (.bin .Mult (.idx (.var 0) (.int 0)) (.idx (.var 1) (.int 2)))) (.cons (.bin .Sub (.bin .Mult (.idx (.var 0) (.int 0)) (.idx (.var 1) (.int 1))) (.bin .Mult (.idx (.var 0) (.int 1)) (.idx (.var 1) (.int 0)))) .nil))))) .nil))⟩
theorem TQ(Z:Gam)(a b:R3)(ha:B3 a)(hb:B3 b)(ne:a≠b):PR.run Z [Aj Aa a,Aj Aa b]=.ok (Aj Aa (crs a b)):=by
 obtain⟨x0,x1,x2⟩:=Fk Aa a;obtain⟨y0,y1,y2⟩:=Fk Aa b;have k:∀ {u v},Bd 300 u->Bd 300 v->EM u v=Aa:=λhu hv=>F3 hu hv (by decide) (by decide)
 have f:∀ r:R3,flD 5 (Aj Aa r)=Aa:=λ_=>rfl
 have e:eqD (Aj Aa a) (Aj Aa b)=Ae:=by rw[Kv];exact B5 ne
 simp[PR,Df.run,Bo,f,e,x0,x1,x2,y0,y1,y2,k ha.2.1 hb.2.2,k ha.2.2 hb.2.1,k ha.2.2 hb.1,k ha.1 hb.2.2,k ha.1 hb.2.1,k ha.2.1 hb.1];rfl
section
variable{Z:Gam}{ns:Ac Ad}
theorem in1(b:Ak):biD .int [.bl b]=.ok (.int (if b=Aa then 1 else 0)):=by cases b<;>rfl
end
theorem Kk{body:D->Rho->O}(I:Rho->Prop)(f:Ag->D)(g:Ag->Aq D):∀(L:Ac Ag),(∀ m∈L,∀ U,I U->(∃ d,g m=Ab d/\body (f m) U=.ret d Ae)\/(g m=Af/\∃ U',body (f m) U=.next U'/\I U'))->∀ U,I U->(∃ d,L.findSome? g=Ab d/\Cq body (L.map f) U=.ret d Ae)\/(L.findSome? g=Af/\∃ U',Cq body (L.map f) U=.next U'/\I U')
 |[],_,U,i=>.inr ⟨rfl,U,rfl,i⟩
 |m::L,h,U,i=>by
  rcases h m (Ax ..) U i with ⟨d,e1,e2⟩|⟨e1,U',e2,i'⟩
  .refine .inl ⟨d,by rw[GZ,e1],?_⟩
   show (body (f m) U).turn _=_;rw[e2];rfl
  .rcases Kk I f g L (λm' h'=>h m' (At _ h')) U' i' with ⟨d,a,b⟩|⟨a,r,b,c⟩
   .refine .inl ⟨d,by rw[GZ,e1];exact a,?_⟩
    show (body (f m) U).turn _=_;rw[e2];exact b
   .refine .inr ⟨by rw[GZ,e1];exact a,r,?_,c⟩
    show (body (f m) U).turn _=_;rw[e2];exact b
noncomputable def atZ(pts:Ac R3)(i:Ag):R3:=pts.getD i (0,0,0)
theorem inZ(hg:∀ t∈pts,In3 p t)(h:i<pts.length):In3 p (atZ pts i):=by
 have e:atZ pts i=pts[i]:=by simp[atZ,h]
 rw[e];exact hg _ (Dd h)
theorem bZ(hp:P4 p)(hg:∀ t∈pts,In3 p t)(h:i<pts.length):B3 (atZ pts i):=(Cd hp (inZ hg h)).b3 (by decide)
theorem qW(h:i<pts.length):DA (pts.map (Aj Aa)) (i:Ad)=.ok (Aj Aa (atZ pts i)):=by
 have h':i<(pts.map (Aj Aa)).length:=by simpa using h
 rw[iV _ i h'];simp[atZ,h]
theorem Gs(h:i<pts.length):B8 (Au pts) (.int (i:Ad))=.ok (Aj Aa (atZ pts i)):=qW h
def Jv(n:Ag):Prop:=n<20000
theorem wS(hn:Jv n)(hj:j<n):CI ((j:Ad)+1) (n:Ad)=.ok ((AT (n-(j+1))).map λm=>D.int ((j+1+m:Ag):Ad)):=by
 have hn':n<20000:=hn;unfold CI;rw[AO (by omega)]
 unfold CK;have e:((n:Ad)-((j:Ad)+1)).toNat=n-(j+1):=by omega
 rw[e]
 congr 1
theorem WZ:∀(xs:Ac D)(s:Ag),EQ (s:Ad) xs=(AT xs.length).map λm=>D.tup [.int ((s+m:Ag):Ad),xs.getD m .non]
 |[],s=>rfl
 |x::xs,s=>by
  have ih:=WZ xs (s+1);rw[EQ,BE,EU,Bq,DL];have e:((s:Ad)+1)=((s+1:Ag):Ad):=by omega
  rw[e,ih]
  congr 1
  apply DZ
  intro m _;show D.tup [.int ((s+1+m:Ag):Ad),xs.getD m .non]=D.tup [.int ((s+(m+1):Ag):Ad),(x::xs).getD (m+1) .non];have e2:s+1+m=s+(m+1):=by omega
  rw[e2];rfl
noncomputable def z3_(p:Ad)(pts:Ac R3)(i j k:Ag):Aq D:=if Al (atZ pts i) (atZ pts j) (atZ pts k)%p=0 then Ab (.tup [Aj Aa (atZ pts i),Aj Aa (atZ pts j),Aj Aa (atZ pts k)]) else Af
noncomputable def z2_(p:Ad)(pts:Ac R3)(i j:Ag):Aq D:=(AT (pts.length-(j+1))).findSome? λm=>z3_ p pts i j (j+1+m)
noncomputable def z1_(p:Ad)(pts:Ac R3)(i:Ag):Aq D:=(AT (pts.length-(i+1))).findSome? λm=>z2_ p pts i (i+1+m)
noncomputable def z0_(p:Ad)(pts:Ac R3):Aq D:=(AT pts.length).findSome? (z1_ p pts)
theorem Lk{t:Ag}{it:I}{body:Ss}{xs:Ac D}(h:F9 Z U it=.ok xs):evSs Z U (.cons (.fors t it body) .nil)=Cq (Bi Z t body) xs U:=by rw[K7,cn,QH,h,QL]
theorem Mx{j a l:Ag}(hn:Jv pts.length)(hj:j<pts.length)(h1:Fn U a=.ok (.int (j:Ad)))(h2:Fn U l=.ok (Au pts)):F9 Z U (.rng2 (.bin .Add (.var a) (.int 1)) (.bi .len (.cons (.var l) .nil)))=.ok ((AT (pts.length-(j+1))).map λm=>D.int ((j+1+m:Ag):Ad)):=by
 have e1:evE Z U (.bin .Add (.var a) (.int 1))=.ok (.int ((j:Ad)+1)):=by
  show ((Fn U a).bind λx=>R.bind (.ok (.int 1)) λy=>Dj .Add x y)=_
  rw[h1];rfl
 have e2:evE Z U (.bi .len (.cons (.var l) .nil))=.ok (.int (pts.length:Ad)):=by
  show (((Fn U l).bind λx=>R.bind (.ok []) λxs=>.ok (x::xs)).bind λxs=>biD .len xs)=_
  rw[h2];show R.ok (D.int (((pts.map (Aj Aa)).length:Ag):Ad))=_;rw[AV]
 have e3:∀ x y:E,(∀ r,top U x r=r)->(∀ r,top U y r=r)->∀ i j:Ad,evE Z U x=.ok (.int i)->evE Z U y=.ok (.int j)->F9 Z U (.rng2 x y)=CI i j:=λx y tx ty i j hx hy=>by
  rw[gB,jA,tx,ty,hx,hy];simp only[R.bind_ok,Nv]
 rw[e3 _ _ (λ_=>rfl) (λ_=>rfl) _ _ e1 e2]
 exact wS hn hj
section
variable{Z:Gam}{p:Ad}{pts:Ac R3}
theorem bT(h:Ho Z)(hp:P4 p)(hg:∀ t∈pts,In3 p t){k:Ag}(hi:i<pts.length)(hj:j<pts.length)(hk:k<pts.length)(U:Rho)(I:∃ s,U=[si p,sh (Au pts),si i,sh (Aj Aa (atZ pts i)),si j,s]):(∃ d,z3_ p pts i j k=Ab d/\Bi Z 5 JU (.int (k:Ad)) U=.ret d Ae)\/(z3_ p pts i j k=Af/\∃ U',Bi Z 5 JU (.int (k:Ad)) U=.next U'/\∃ s,U'=[si p,sh (Au pts),si i,sh (Aj Aa (atZ pts i)),si j,s]):=by
 obtain⟨s,rfl⟩:=I;have e:=h p Aa _ _ _ hp.pos (bZ hp hg hi) (bZ hp hg hj) (bZ hp hg hk);by_cases z:Al (atZ pts i) (atZ pts j) (atZ pts k)%p=0
 .rw[z]at e;exact .inl ⟨_,AO z,by simp[Bi,JU,Gs hj,Gs hk,e,DR]⟩
 .exact .inr ⟨AW z,[si p,sh (Au pts),si i,sh (Aj Aa (atZ pts i)),si j,si k],by simp[Bi,JU,Gs hj,Gs hk,e,z],_,rfl⟩
theorem bU(h:Ho Z)(hp:P4 p)(hg:∀ t∈pts,In3 p t)(hn:Jv pts.length)(hi:i<pts.length)(hj:j<pts.length)(U:Rho)(I:∃ s t,U=[si p,sh (Au pts),si i,sh (Aj Aa (atZ pts i)),s,t]):(∃ d,z2_ p pts i j=Ab d/\Bi Z 4 Kf (.int (j:Ad)) U=.ret d Ae)\/(z2_ p pts i j=Af/\∃ U',Bi Z 4 Kf (.int (j:Ad)) U=.next U'/\∃ s t,U'=[si p,sh (Au pts),si i,sh (Aj Aa (atZ pts i)),s,t]):=by
 obtain⟨s,t,rfl⟩:=I;have e:Bi Z 4 Kf (.int (j:Ad)) [si p,sh (Au pts),si i,sh (Aj Aa (atZ pts i)),s,t]=Cq (Bi Z 5 JU) ((AT (pts.length-(j+1))).map λm=>D.int ((j+1+m:Ag):Ad)) [si p,sh (Au pts),si i,sh (Aj Aa (atZ pts i)),si j,t]:=by
  exact Lk (Mx hn hj rfl rfl)
 rw[e];rcases Kk (body:=Bi Z 5 JU) (λU=>∃ s,U=[si p,sh (Au pts),si i,sh (Aj Aa (atZ pts i)),si j,s]) (λm=>D.int ((j+1+m:Ag):Ad)) (λm=>z3_ p pts i j (j+1+m)) (AT (pts.length-(j+1))) (λm hm U I=>bT h hp hg hi hj (by have:=A3.mp hm;omega) U I) [si p,sh (Au pts),si i,sh (Aj Aa (atZ pts i)),si j,t] ⟨t,rfl⟩ with ⟨d,a,b⟩|⟨a,r,b,u,c⟩
 .exact .inl ⟨d,a,b⟩
 .exact .inr ⟨a,r,b,_,u,c⟩
theorem bV(h:Ho Z)(hp:P4 p)(hg:∀ t∈pts,In3 p t)(hn:Jv pts.length)(hi:i<pts.length)(U:Rho)(I:∃ a b s t,U=[si p,sh (Au pts),a,b,s,t]):(∃ d,z1_ p pts i=Ab d/\Ev Z [2,3] HR (.tup [.int ((0+i:Ag):Ad),(pts.map (Aj Aa)).getD i .non]) U=.ret d Ae)\/(z1_ p pts i=Af/\∃ U',Ev Z [2,3] HR (.tup [.int ((0+i:Ag):Ad),(pts.map (Aj Aa)).getD i .non]) U=.next U'/\∃ a b s t,U'=[si p,sh (Au pts),a,b,s,t]):=by
 obtain⟨a,b,s,t,rfl⟩:=I;have e0:(pts.map (Aj Aa)).getD i .non=Aj Aa (atZ pts i):=by simp[atZ,hi]
 have e:Ev Z [2,3] HR (.tup [.int ((0+i:Ag):Ad),(pts.map (Aj Aa)).getD i .non]) [si p,sh (Au pts),a,b,s,t]=Cq (Bi Z 4 Kf) ((AT (pts.length-(i+1))).map λm=>D.int ((i+1+m:Ag):Ad)) [si p,sh (Au pts),si i,sh (Aj Aa (atZ pts i)),s,t]:=by
  have e':∀(x y:D),Ev Z [2,3] HR (.tup [x,y]) [si p,sh (Au pts),a,b,s,t]=evSs Z [si p,sh (Au pts),sh x,sh y,s,t] HR:=λ_ _=>rfl
  rw[e0,FO,e'];unfold HR;rw[Lk (Mx hn hi rfl rfl)]
 rw[e];rcases Kk (body:=Bi Z 4 Kf) (λU=>∃ s t,U=[si p,sh (Au pts),si i,sh (Aj Aa (atZ pts i)),s,t]) (λm=>D.int ((i+1+m:Ag):Ad)) (λm=>z2_ p pts i (i+1+m)) (AT (pts.length-(i+1))) (λm hm U I=>bU h hp hg hn hi (by have:=A3.mp hm;omega) U I) [si p,sh (Au pts),si i,sh (Aj Aa (atZ pts i)),s,t] ⟨s,t,rfl⟩ with ⟨d,a,b⟩|⟨a,r,b,u,v,c⟩
 .exact .inl ⟨d,a,b⟩
 .exact .inr ⟨a,r,b,_,_,u,v,c⟩
theorem jU(h:Ho Z)(hp:P4 p)(hg:∀ t∈pts,In3 p t)(hn:Jv pts.length):K0.run Z [.int p,Au pts]=.ok ((z0_ p pts).getD .non):=by
 have en:=WZ (pts.map (Aj Aa)) 0;rw[AV]at en;have en':EQ 0 (pts.map (Aj Aa))=(AT pts.length).map λm=>D.tup [.int ((0+m:Ag):Ad),(pts.map (Aj Aa)).getD m .non]:=en
 have hE:F9 Z [si p,sh (Au pts),Af,Af,Af,Af] (.enm (.var 1))=.ok ((AT pts.length).map λm=>D.tup [.int ((0+m:Ag):Ad),(pts.map (Aj Aa)).getD m .non]):=by
  show R.ok (EQ 0 (pts.map (Aj Aa)))=_;rw[en']
 rcases Kk (body:=Ev Z [2,3] HR) (λU=>∃ a b s t,U=[si p,sh (Au pts),a,b,s,t]) (λm=>D.tup [.int ((0+m:Ag):Ad),(pts.map (Aj Aa)).getD m .non]) (z1_ p pts) (AT pts.length) (λm hm U I=>bV h hp hg hn (A3.mp hm) U I) [si p,sh (Au pts),Af,Af,Af,Af] ⟨_,_,_,_,rfl⟩ with ⟨d,a,b⟩|⟨a,r,b,u1,u2,u3,u4,c⟩
 .have e:z0_ p pts=Ab d:=a;show (evSs Z [si p,sh (Au pts),Af,Af,Af,Af] (.cons (.forT [2,3] (.enm (.var 1)) HR) (.cons (.ret .non) .nil))).ans Ae=_;rw[K7,UA,hE,U_5,b,e];rfl
 .have e:z0_ p pts=Af:=a;subst c;show (evSs Z [si p,sh (Au pts),Af,Af,Af,Af] (.cons (.forT [2,3] (.enm (.var 1)) HR) (.cons (.ret .non) .nil))).ans Ae=_;rw[K7,UA,hE,U_5,b,e];rfl
noncomputable def Kj:Ss:=(.cons (.ife (.cmp .Eq (.call 233 (.cons (.var 0) (.cons (.var 4) (.cons (.idx (.var 1) (.var 5)) .nil)))) (.int 0)) (.cons (.ret (.tup (.cons (.idx (.var 1) (.var 2)) (.cons (.idx (.var 1) (.var 3)) (.cons (.idx (.var 1) (.var 5)) .nil))))) .nil) .nil) .nil)
noncomputable def JT:Ss:=(.cons (.asg 4 Ae (.call 232 (.cons (.var 0) (.cons (.idx (.var 1) (.var 2)) (.cons (.idx (.var 1) (.var 3)) .nil))))) (.cons (.fors 5 (.rng2 (.bin .Add (.var 3) (.int 1)) (.bi .len (.cons (.var 1) .nil))) Kj) .nil))
noncomputable def Kh:Ss:=(.cons (.fors 3 (.rng2 (.bin .Add (.var 2) (.int 1)) (.bi .len (.cons (.var 1) .nil))) JT) .nil)
noncomputable def PM:Df:=⟨6,Ae,(.cons (.fors 2 (.rng (.bi .len (.cons (.var 1) .nil))) Kh) (.cons (.ret .non) .nil))⟩
theorem rW(hc:HV Z)(hs:Hr Z)(hp:P4 p)(hg:∀ t∈pts,In3 p t){k:Ag}(hi:i<pts.length)(hj:j<pts.length)(hk:k<pts.length):Z.F 233 [.int p,Aj Aa (mdR p (crs (atZ pts i) (atZ pts j))),Aj Aa (atZ pts k)]=.ok (.int (Al (atZ pts i) (atZ pts j) (atZ pts k)%p)):=by
 have e:=hs p Aa Aa (mdR p (crs (atZ pts i) (atZ pts j))) (atZ pts k) hp.pos ((Cd hp (MT hp.pos _)).b3 (by decide)) (bZ hp hg hk)
 have q:Ay (mdR p (crs (atZ pts i) (atZ pts j))) (atZ pts k)%p=Al (atZ pts i) (atZ pts j) (atZ pts k)%p:=by
  have c:=FB (CgR.md (p:=p) (a:=mdR p (crs (atZ pts i) (atZ pts j))) _root_.rfl) (CgR.rfl (a:=atZ pts k));have d:Ay (crs (atZ pts i) (atZ pts j)) (atZ pts k)=Al (atZ pts i) (atZ pts j) (atZ pts k):=by unfold Ay crs Al det;grind
  rw[d]at c;exact c
 rw[q]at e;exact e
theorem aU(hc:HV Z)(hs:Hr Z)(hp:P4 p)(hg:∀ t∈pts,In3 p t){k:Ag}(hi:i<pts.length)(hj:j<pts.length)(hk:k<pts.length)(U:Rho)(I:∃ s,U=[si p,sh (Au pts),si i,si j,sh (Aj Aa (mdR p (crs (atZ pts i) (atZ pts j)))),s]):(∃ d,z3_ p pts i j k=Ab d/\Bi Z 5 Kj (.int (k:Ad)) U=.ret d Ae)\/(z3_ p pts i j k=Af/\∃ U',Bi Z 5 Kj (.int (k:Ad)) U=.next U'/\∃ s,U'=[si p,sh (Au pts),si i,si j,sh (Aj Aa (mdR p (crs (atZ pts i) (atZ pts j)))),s]):=by
 obtain⟨s,rfl⟩:=I;have e:=rW hc hs hp hg hi hj hk;by_cases z:Al (atZ pts i) (atZ pts j) (atZ pts k)%p=0
 .rw[z]at e;exact .inl ⟨_,AO z,by
   generalize Aj Aa (mdR p (crs (atZ pts i) (atZ pts j)))=LN at *;simp[Bi,Kj,Gs hi,Gs hj,Gs hk,e,DR]⟩
 .exact .inr ⟨AW z,[si p,sh (Au pts),si i,si j,sh (Aj Aa (mdR p (crs (atZ pts i) (atZ pts j)))),si k],by
   generalize Aj Aa (mdR p (crs (atZ pts i) (atZ pts j)))=LN at *;simp[Bi,Kj,Gs hi,Gs hj,Gs hk,e,z],_,rfl⟩
theorem aV(hc:HV Z)(hs:Hr Z)(hp:P4 p)(hg:∀ t∈pts,In3 p t)(hn:Jv pts.length)(hi:i<pts.length)(hj:j<pts.length)(U:Rho)(I:∃ s t u,U=[si p,sh (Au pts),si i,s,t,u]):(∃ d,z2_ p pts i j=Ab d/\Bi Z 3 JT (.int (j:Ad)) U=.ret d Ae)\/(z2_ p pts i j=Af/\∃ U',Bi Z 3 JT (.int (j:Ad)) U=.next U'/\∃ s t u,U'=[si p,sh (Au pts),si i,s,t,u]):=by
 obtain⟨s,t,u,rfl⟩:=I;have e1:=hc p Aa Aa (atZ pts i) (atZ pts j) hp.pos (bZ hp hg hi) (bZ hp hg hj);have e:Bi Z 3 JT (.int (j:Ad)) [si p,sh (Au pts),si i,s,t,u]=Cq (Bi Z 5 Kj) ((AT (pts.length-(j+1))).map λm=>D.int ((j+1+m:Ag):Ad)) [si p,sh (Au pts),si i,si j,sh (Aj Aa (mdR p (crs (atZ pts i) (atZ pts j)))),u]:=by
  have a1:evS Z [si p,sh (Au pts),si i,si j,t,u] (.asg 4 Ae (.call 232 (.cons (.var 0) (.cons (.idx (.var 1) (.var 2)) (.cons (.idx (.var 1) (.var 3)) .nil)))))=.next [si p,sh (Au pts),si i,si j,sh (Aj Aa (mdR p (crs (atZ pts i) (atZ pts j)))),u]:=by
   generalize Aj Aa (mdR p (crs (atZ pts i) (atZ pts j)))=LN at *;simp[Gs hi,Gs hj,e1]
  show evSs Z [si p,sh (Au pts),si i,si j,t,u] JT=_;unfold JT;rw[K7,a1,qS];generalize Aj Aa (mdR p (crs (atZ pts i) (atZ pts j)))=LN;exact Lk (Mx hn hj rfl rfl)
 rw[e];rcases Kk (body:=Bi Z 5 Kj) (λU=>∃ s,U=[si p,sh (Au pts),si i,si j,sh (Aj Aa (mdR p (crs (atZ pts i) (atZ pts j)))),s]) (λm=>D.int ((j+1+m:Ag):Ad)) (λm=>z3_ p pts i j (j+1+m)) (AT (pts.length-(j+1))) (λm hm U I=>aU hc hs hp hg hi hj (by have:=A3.mp hm;omega) U I) [si p,sh (Au pts),si i,si j,sh (Aj Aa (mdR p (crs (atZ pts i) (atZ pts j)))),u] ⟨_,rfl⟩ with ⟨d,a,b⟩|⟨a,r,b,w,c⟩
 .exact .inl ⟨d,a,b⟩
 .exact .inr ⟨a,r,b,_,_,w,c⟩
theorem aW(hc:HV Z)(hs:Hr Z)(hp:P4 p)(hg:∀ t∈pts,In3 p t)(hn:Jv pts.length)(hi:i<pts.length)(U:Rho)(I:∃ r s t u,U=[si p,sh (Au pts),r,s,t,u]):(∃ d,z1_ p pts i=Ab d/\Bi Z 2 Kh (.int (0+(i:Ad))) U=.ret d Ae)\/(z1_ p pts i=Af/\∃ U',Bi Z 2 Kh (.int (0+(i:Ad))) U=.next U'/\∃ r s t u,U'=[si p,sh (Au pts),r,s,t,u]):=by
 obtain⟨r,s,t,u,rfl⟩:=I;rw[C0];have e:Bi Z 2 Kh (.int (i:Ad)) [si p,sh (Au pts),r,s,t,u]=Cq (Bi Z 3 JT) ((AT (pts.length-(i+1))).map λm=>D.int ((i+1+m:Ag):Ad)) [si p,sh (Au pts),si i,s,t,u]:=by
  exact Lk (Mx hn hi rfl rfl)
 rw[e];rcases Kk (body:=Bi Z 3 JT) (λU=>∃ s t u,U=[si p,sh (Au pts),si i,s,t,u]) (λm=>D.int ((i+1+m:Ag):Ad)) (λm=>z2_ p pts i (i+1+m)) (AT (pts.length-(i+1))) (λm hm U I=>aV hc hs hp hg hn hi (by have:=A3.mp hm;omega) U I) [si p,sh (Au pts),si i,s,t,u] ⟨_,_,_,rfl⟩ with ⟨d,a,b⟩|⟨a,r,b,w,x,y,c⟩
 .exact .inl ⟨d,a,b⟩
 .exact .inr ⟨a,r,b,_,w,x,y,c⟩
theorem m8(hN:N=n)(l:biD .len [T]=.ok (.int N))(h:N<=1000)(h0:0<=N):F9 Z [si p,sh T,Af,Af,Af,Af] (.rng (.bi .len (.cons (.var 1) .nil)))=.ok (CK 0 n):=by
 have rg:CI 0 N=.ok (CK 0 (N-0).toNat):=K4 (by decide) (by decide) (by omega) (by omega)
 have q:(N-0).toNat=n:=by omega
 rw[q]at rg;generalize CK 0 n=RR at *;have e:evE Z [si p,sh T,Af,Af,Af,Af] (.bi .len (.cons (.var 1) .nil))=.ok (.int N):=by simp[l]
 rw[iZ,rF];simp only[vD,e,R.bind_ok,Nv];exact rg
theorem Iz(pts:Ac R3):biD .len [Au pts]=.ok (.int pts.length):=by unfold Au;simp
theorem lH(hz:pts.length<=1000):F9 Z [si p,sh (Au pts),Af,Af,Af,Af] (.rng (.bi .len (.cons (.var 1) .nil)))=.ok (CK 0 pts.length):=m8 rfl (Iz pts) (by omega) (by omega)
theorem gS(hc:HV Z)(hs:Hr Z)(hp:P4 p)(hg:∀ t∈pts,In3 p t)(hz:pts.length<=1000):PM.run Z [.int p,Au pts]=.ok ((z0_ p pts).getD .non):=by
 have hn:Jv pts.length:=by show pts.length<20000;omega
 have r6:=lH (Z:=Z) (p:=p) hz;rw[show CK 0 pts.length=(AT pts.length).map fun(i:Ag)=>D.int (0+(i:Ad)) by unfold CK;rfl]at r6
 rcases Kk (body:=Bi Z 2 Kh) (λU=>∃ r s t u,U=[si p,sh (Au pts),r,s,t,u]) (fun(m:Ag)=>D.int (0+(m:Ad))) (z1_ p pts) (AT pts.length) (λm hm U I=>aW hc hs hp hg hn (A3.mp hm) U I) [si p,sh (Au pts),Af,Af,Af,Af] ⟨_,_,_,_,rfl⟩ with ⟨d,a,b⟩|⟨a,r,b,r1,r2,r3,r4,c⟩
 .have e:z0_ p pts=Ab d:=a;show (evSs Z [si p,sh (Au pts),Af,Af,Af,Af] (.cons (.fors 2 (.rng (.bi .len (.cons (.var 1) .nil))) Kh) (.cons (.ret .non) .nil))).ans Ae=_;rw[K7,QH,r6,QL,b,e];rfl
 .have e:z0_ p pts=Af:=a;subst c;show (evSs Z [si p,sh (Au pts),Af,Af,Af,Af] (.cons (.fors 2 (.rng (.bi .len (.cons (.var 1) .nil))) Kh) (.cons (.ret .non) .nil))).ans Ae=_;rw[K7,QH,r6,QL,b,e];rfl
end
noncomputable def K3:Ss:=(.cons (.ife (.cmp .In (.var 2) (.sl (.var 0) .non (.var 1))) (.cons (.rais 107 (.cons (.var 2) .nil)) .nil) .nil) .nil)
noncomputable def Nu:Df:=⟨3,Ae,(.cons (.forT [1,2] (.enm (.var 0)) K3) .nil)⟩
section
variable{Z:Gam}{p:Ad}
theorem mD(PT seen rest:Ac R3)(e:PT=seen++rest):slD (Au PT) Af (Ab (seen.length:Ad))=.ok (Au seen):=by
 rw[Om PT (by omega),El,e,X0]
 rfl
theorem fD(a:Ad)(n:Ag):CK a (n+1)=.int a::CK (a+1) n:=by
 unfold CK;rw[EU,Bq,DL]
 congr 1
 .simp
 .refine DZ λk _=>?_
  simp only[Function.comp]
  congr 1
  omega
end
section
variable{Z:Gam}{p:Ad}
noncomputable abbrev ow(l:Ac R3):Sl:=Ab (.lst (l.map (Aj Aa)),Aa)
theorem Ux{x f:R3}:∀{rest seen left:Ac R3},x∈IM p seen rest left->f∈rest->x≠f
 |g::rest,seen,left,h,hf=>by
  rcases Av.mp hf with rfl|hf
  .have k:=(Cr.mp (QG (rest:=rest) h)).2;intro z;subst z;unfold stq at k;simp at k
  .exact Ux (rest:=rest) h hf
end
noncomputable def dM:Df:=⟨2,Ae,(.cons (.asg 1 Ae (.bin .Mod (.var 1) (.bin .Add (.bin .Add (.bin .Mult (.var 0) (.var 0)) (.var 0)) (.int 1)))) (.cons (.ife (.cmp .Eq (.var 1) (.int 0)) (.cons (.ret (.tup (.cons (.int 0) (.cons (.int 0) (.cons (.int 1) .nil))))) .nil) .nil) (.cons (.ife (.cmp .LtE (.var 1) (.var 0)) (.cons (.ret (.tup (.cons (.int 0) (.cons (.int 1) (.cons (.bin .Sub (.var 1) (.int 1)) .nil))))) .nil) .nil) (.cons (.ret (.tup (.cons (.int 1) (.cons (.bin .FloorDiv (.bin .Sub (.bin .Sub (.var 1) (.var 0)) (.int 1)) (.var 0)) (.cons (.bin .Mod (.bin .Sub (.bin .Sub (.var 1) (.var 0)) (.int 1)) (.var 0)) .nil))))) .nil))))⟩
section
variable{Z:Gam}{ns:Ac Ad}{p:Ad}
theorem Nz(x:R3)(l:Ac R3):B9 .NotIn (Aj Aa x) (Au l)=.ok (.bl (!decide (x∈l))):=by
 have h:=NM x l;have h:(if (flD 5 (Aj Aa x)&&(l.map (Aj Aa)).all (flD 5))=Aa then R.ok (D.bl ((l.map (Aj Aa)).any λy=>eqD y (Aj Aa x))) else .bad)=_:=h
 show (if (flD 5 (Aj Aa x)&&(l.map (Aj Aa)).all (flD 5))=Aa then R.ok (D.bl (!(l.map (Aj Aa)).any λy=>eqD y (Aj Aa x))) else .bad)=_
 split at h
 .rename_i hc;rw[AO hc]
  injection h with h
  injection h with h
  rw[h]
 .cases h
end
section
variable{Z:Gam}{ns:Ac Ad}{p:Ad}
end
section
variable{p:Ad}
theorem fj(h:z0_ p pts=Af){k:Ag}(h1:i<j)(h2:j<k)(h3:k<pts.length):Al (atZ pts i) (atZ pts j) (atZ pts k)%p≠0:=by
 unfold z0_ at h;rw[Fo]at h;have a:=h i (A3.mpr (by omega))
 unfold z1_ at a;rw[Fo]at a;have b:=a (j-(i+1)) (A3.mpr (by omega))
 rw[show i+1+(j-(i+1))=j by omega]at b
 unfold z2_ at b;rw[Fo]at b;have c:=b (k-(j+1)) (A3.mpr (by omega))
 rw[show j+1+(k-(j+1))=k by omega]at c
 unfold z3_ at c;split at c
 .cases c
 .assumption
theorem fu(h:z0_ p pts=Ab d):∃ x∈pts,∃ y∈pts,∃ z∈pts,d=.tup [Aj Aa x,Aj Aa y,Aj Aa z]:=by
 unfold z0_ at h;obtain⟨i,hi,h⟩:=Ct h;unfold z1_ at h;obtain⟨m,hm,h⟩:=Ct h;unfold z2_ at h;obtain⟨n,hn,h⟩:=Ct h;have a:=A3.mp hi;have b:=A3.mp hm;have c:=A3.mp hn;have mem:∀{k:Ag},k<pts.length->atZ pts k∈pts:=λ{k} hk=>by
  have e:atZ pts k=pts[k]:=by simp[atZ,hk]
  rw[e];exact Dd hk
 unfold z3_ at h;split at h
 .cases h;exact⟨_,mem (by omega),_,mem (by omega),_,mem (by omega),rfl⟩
 .cases h
theorem Jp{k:Ag}(hk:k<pts.length):atZ pts k=pts[k]:=by simp[atZ,hk]
theorem vQ{z:R3}(hx:x∈pts)(hy:y∈pts)(hz:z∈pts)(n1:x≠y)(n2:x≠z)(n3:y≠z)(h:Al x y z%p=0):∃ d,z0_ p pts=Ab d:=by
 cases e:z0_ p pts with
 |some d=>exact⟨d,rfl⟩
 |none=>
  exfalso
  obtain⟨i,hi,rfl⟩:=DY hx;obtain⟨j,hj,rfl⟩:=DY hy;obtain⟨k,hk,rfl⟩:=DY hz;have m1:i≠j:=λz=>n1 (by subst z;rfl)
  have m2:i≠k:=λz=>n2 (by subst z;rfl)
  have m3:j≠k:=λz=>n3 (by subst z;rfl)
  have nz:∀{a b c:Ag}(ha:a<pts.length)(hb:b<pts.length)(hc:c<pts.length),a<b->b<c->Al pts[a] pts[b] pts[c]%p≠0:=λ{a b c} ha hb hc h1 h2=>by
   have q:=fj e h1 h2 hc;rw[Jp ha,Jp hb,Jp hc]at q;exact q
  have s1:∀ x y z:R3,Al x y z=- Al y x z:=λx y z=>by unfold Al det;grind
  have s2:∀ x y z:R3,Al x y z=- Al x z y:=λx y z=>by unfold Al det;grind
  have ng:∀{u:Ad},u%p=0->(-u)%p=0:=λ{u} hu=>by
   have:=Xm hu;exact Xo (Xl.mpr this)
  have o1:∀{x y z:R3},Al x y z%p=0->Al y x z%p=0:=λ{x y z} h=>by rw[s1];exact ng h
  have o2:∀{x y z:R3},Al x y z%p=0->Al x z y%p=0:=λ{x y z} h=>by rw[s2];exact ng h
  rcases Hf m1 with a|a<;>rcases Hf m2 with b|b<;>rcases Hf m3 with c|c
  .exact nz hi hj hk a c h
  .exact nz hi hk hj b c (o2 h)
  .omega
  .exact nz hk hi hj b a (o1 (o2 h))
  .exact nz hj hi hk a b (o1 h)
  .omega
  .exact nz hj hk hi c b (o2 (o1 h))
  .exact nz hk hj hi c a (o1 (o2 (o1 h)))
theorem ji(n:NF p r)(h:r.1%p=0/\r.2.1%p=0/\r.2.2%p=0):BF:=by
 have e:=n.2;simp[AX,tri,h.1,h.2.1,h.2.2]at e
end
def MX(Z:Gam):Prop:=∀(p n:Ad),P4 p->Z.F 231 [.int p,.int n]=.ok (Aj Aa (ptI p (n%(p*p+p+1))))
noncomputable def JS:Ss:=(.cons (.ife (.cmp .Eq (.call 61 (.cons (.var 0) (.cons (.var 4) (.cons (.var 5) (.cons (.var 2) .nil))))) (.int 0)) (.cons (.ret (.tup (.cons (.var 4) (.cons (.var 5) .nil)))) .nil) .nil) .nil)
noncomputable def Jl:Ss:=(.cons (.fors 5 (.e (.sl (.var 1) (.bin .Add (.var 3) (.int 1)) .non)) JS) .nil)
noncomputable def Mq:Df:=⟨6,Ae,(.cons (.forT [3,4] (.enm (.var 1)) Jl) (.cons (.ret .non) .nil))⟩
noncomputable def prL:Ac R3->Ac (R3×R3)
 |[]=>[]
 |a::r=>r.map (λb=>(a,b))++prL r
noncomputable def IL(p:Ad)(x:R3)(q:R3×R3):Ak:=decide (Al q.1 q.2 x%p=0)
noncomputable def twD(q:R3×R3):D:=.tup [Aj Aa q.1,Aj Aa q.2]
noncomputable def fpr(p:Ad)(pts:Ac R3)(x:R3):Aq (R3×R3):=(prL pts).find? (IL p x)
theorem Q1{a b:R3}:∀{l:Ac R3},(a,b)∈prL l->a∈l/\b∈l
 |[],h=>by cases h
 |c::r,h=>by
  rcases GD.mp h with h|h
  .obtain⟨d,hd,e⟩:=Bb.mp h;cases e;exact⟨Ax,At _ hd⟩
  .exact⟨At _ (Q1 h).1,At _ (Q1 h).2⟩
noncomputable def okF(p:Ad):Ac R3->Ac R3->R3->Ak
 |_,[],_=>Aa
 |seen,f::rest,x=>stq p seen f x&&okF p (seen++[f]) rest x
theorem Uy(p:Ad):∀(rest seen left:Ac R3),IM p seen rest left=left.filter (okF p seen rest)
 |[],seen,left=>by
  show left=_;exact(List.filter_eq_self.mpr λ_ _=>rfl).symm
 |f::rest,seen,left=>by
  show IM p (seen++[f]) rest (left.filter (stq p seen f))=_;rw[Uy p rest,List.filter_filter]
  congr 1
  funext x
  show _=(stq p seen f x&&okF p (seen++[f]) rest x);rw[Bool.and_comm]
theorem VJ(p:Ad)(x:R3):∀(rest seen:Ac R3),okF p seen rest x=Aa↔x∉rest/\(∀ a∈seen,∀ f∈rest,Al a f x%p≠0)/\∀ q∈prL rest,IL p x q=Ae
 |[],seen=>by simp[okF,prL]
 |f::rest,seen=>by
  show (stq p seen f x&&okF p (seen++[f]) rest x)=Aa↔_;rw[Ap,VJ p x rest (seen++[f])];unfold stq;simp only[Ap,Cb,F0,Xv,Bh,List.mem_append,BY,Av,prL,Bb,IL,DB];constructor
  .rintro⟨⟨h1,h2⟩,h3,h4,h5⟩;refine⟨⟨h1,h3⟩,λa ha g hg=>?_,λq hq=>?_⟩
   .rcases hg with rfl|hg
    .exact h2 a ha
    .exact h4 a (.inl ha) g hg
   .rcases hq with ⟨b,hb,rfl⟩|hq
    .exact h4 f (.inr (.inl rfl)) b hb
    .exact h5 q hq
  .rintro⟨⟨h1,h3⟩,h4,h5⟩;refine⟨⟨h1,λa ha=>h4 a ha f (.inl rfl)⟩,h3,λa ha g hg=>?_,λq hq=>h5 q (.inr hq)⟩
   rcases ha with ha|rfl|ha
   .exact h4 a ha g (.inr hg)
   .exact h5 (a,g) (.inl ⟨g,hg,rfl⟩)
   .cases ha
noncomputable def OK(p:Ad)(pts:Ac R3)(x:R3):Ak:=!decide (x∈pts)&&(fpr p pts x).isNone
theorem Vw(p:Ad)(pts:Ac R3):Im p pts=(CM p).filter (OK p pts):=by
 unfold Im;rw[Uy]
 congr 1
 funext x
 rw[C8,VJ];unfold OK fpr;simp
section
variable{Z:Gam}{p:Ad}{pts:Ac R3}
theorem Ro(hc:HV Z)(hs:Hr Z)(hp:P4 p){a b x:R3}(ia:In3 p a)(ib:In3 p b)(ix:In3 p x):Z.F 233 [.int p,Aj Aa (mdR p (crs a b)),Aj Aa x]=.ok (.int (Al a b x%p)):=by
 have e:=hs p Aa Aa (mdR p (crs a b)) x hp.pos ((Cd hp (MT hp.pos _)).b3 (by decide)) ((Cd hp ix).b3 (by decide))
 have q:Ay (mdR p (crs a b)) x%p=Al a b x%p:=by
  have c:=FB (CgR.md (p:=p) (a:=mdR p (crs a b)) _root_.rfl) (CgR.rfl (a:=x));have d:Ay (crs a b) x=Al a b x:=by unfold Ay crs Al det;grind
  rw[d]at c;exact c
 rw[q]at e;exact e
theorem bh(h:MX Z)(hp:P4 p){k:Ag}{q e:E}(hg:∀ n:Ag,(n:Ad)<p*p+p+1->cG Z U k q (.int (n:Ad))=.ok Aa/\cF Z U k e (.int (n:Ad))=Z.F 231 [.int p,.int (n:Ad)]):BK (cG Z U k q) (cF Z U k e) (CK 0 (p*p+p+1).toNat)=.ok ((CM p).map (Aj Aa)):=by
 have N1:0<=p*p+p+1/\p*p+p+1<=1000:=by rcases hp with rfl|rfl|rfl|rfl<;>decide
 have key:∀ L:Ac Ag,(∀ k∈L,(k:Ad)<p*p+p+1)->BK (cG Z U k q) (cF Z U k e) (L.map fun(k:Ag)=>D.int (0+(k:Ad)))=.ok ((L.map fun(n:Ag)=>ptI p n).map (Aj Aa)):=by
  intro L
  induction L with
  |nil=>intro _;rfl
  |cons n L ih=>
   intro hL;have e1:=h p n hp;have hn:=hL n Ax;rw[AG (by omega) hn]at e1
   obtain⟨g1,g2⟩:=hg n hn;rw[e1]at g2;have ih':=ih λm hm=>hL m (At _ hm)
   rw[Bq,C0];show (cG Z U k q (.int (n:Ad))).bind _=_;rw[g1,R.bind_ok,AO rfl,g2,R.bind_ok,show BK _ _ (Ke _ L)=_ from ih']
   rfl
 unfold CM CK;exact key _ λk hk=>by have:=A3.mp hk;omega
theorem uP{A:D}{i:Ad}(e:Z.F 61 [.int p,A,Y_,X]=.ok (.int v)):Bi Z 5 JS Y_ [si p,sh T,sh X,si i,sh A,s5]=if v=0 then .ret (.tup [A,Y_]) Ae else .next [si p,sh T,sh X,si i,sh A,sh Y_]:=by
 by_cases z:v=0
 .subst z;simp[Bi,JS,e,DR]
 .simp[Bi,JS,e,z]
theorem Wf(h:Ho Z)(hp:P4 p){x a:R3}(ix:In3 p x)(ia:In3 p a){T:D}{i:Ad}:∀(rest:Ac R3)(s5:Sl),(∀ y∈rest,In3 p y)->∃ s5',Cq (Bi Z 5 JS) (rest.map (Aj Aa)) [si p,sh T,sh (Aj Aa x),si i,sh (Aj Aa a),s5]=match (rest.map λb=>(a,b)).find? (IL p x) with
  |some q=>.ret (twD q) Ae
  |none=>.next [si p,sh T,sh (Aj Aa x),si i,sh (Aj Aa a),s5']
 |[],s5,_=>⟨s5,rfl⟩
 |y::rest,s5,hy=>by
  have b:∀ {r},In3 p r->B3 r:=λhr=>(Cd hp hr).b3 (by decide)
  have st:=uP (T:=T) (i:=i) (s5:=s5) (h p Aa a y x hp.pos (b ia) (b (hy y Ax)) (b ix));rw[Bq,Bq,List.find?_cons];by_cases z:Al a y x%p=0
  .have hh:IL p x (a,y)=Aa:=CD z;rw[hh];refine⟨s5,?_⟩;show (Bi Z 5 JS (Aj Aa y) _).turn _=_;rw[st,AO z];rfl
  .have hh:IL p x (a,y)=Ae:=B5 z;rw[hh];obtain⟨s5',ih⟩:=Wf h hp ix ia (T:=T) (i:=i) rest (sh (Aj Aa y)) λw hw=>hy w (At _ hw)
   refine⟨s5',?_⟩;show (Bi Z 5 JS (Aj Aa y) _).turn _=_;rw[st,AW z];exact ih
theorem uO{A T':D}{i:Ad}(sl:slD T (Ab (i+1)) Af=.ok T')(sq:Ch T'=.ok L):Ev Z [3,4] Jl (.tup [.int i,A]) [si p,sh T,sh X,s3,s4,s5]=Cq (Bi Z 5 JS) L [si p,sh T,sh X,si i,sh A,s5]:=by
 have e':Ev Z [3,4] Jl (.tup [.int i,A]) [si p,sh T,sh X,s3,s4,s5]=evSs Z [si p,sh T,sh X,si i,sh A,s5] Jl:=rfl;rw[e'];unfold Jl;refine Lk ?_;simp[sl,slE,sq]
theorem We(h:Ho Z)(hp:P4 p){PT:Ac R3}(np:∀ y∈PT,In3 p y){x:R3}(ix:In3 p x):∀(rest seen:Ac R3)(s3 s4 s5:Sl),PT=seen++rest->∃ s3' s4' s5',Cq (Ev Z [3,4] Jl) (EQ seen.length (rest.map (Aj Aa))) [si p,sh (Au PT),sh (Aj Aa x),s3,s4,s5]=match (prL rest).find? (IL p x) with
  |some q=>.ret (twD q) Ae
  |none=>.next [si p,sh (Au PT),sh (Aj Aa x),s3',s4',s5']
 |[],seen,s3,s4,s5,_=>⟨s3,s4,s5,rfl⟩
 |a::rest,seen,s3,s4,s5,e=>by
  have ia:In3 p a:=np a (by rw[e];simp)
  have sl:slD (Au PT) (Ab ((seen.length:Ad)+1)) Af=.ok (Au rest):=by
   have:=Q0 PT (i:=(seen.length:Ad)+1) (by omega) (by rw[e];simp<;>omega)
   rw[this,show ((seen.length:Ad)+1).toNat=seen.length+1 by omega,e]
   congr 2
   rw[show seen++a::rest=(seen++[a])++rest by simp]
   exact List.drop_left' (by simp)
  obtain⟨t5,l0⟩:=Wf h hp ix ia (T:=Au PT) (i:=(seen.length:Ad)) rest s5 λy hy=>np y (by rw[e];simp[hy])
  have st:=uO (Z:=Z) (p:=p) (X:=Aj Aa x) (A:=Aj Aa a) (s3:=s3) (s4:=s4) (s5:=s5) (L:=rest.map (Aj Aa)) sl rfl;rw[show prL (a::rest)=rest.map (λb=>(a,b))++prL rest from rfl,List.find?_append]
  cases hf:(rest.map λb=>(a,b)).find? (IL p x) with
  |some q=>
   rw[hf]at l0;refine⟨s3,s4,s5,?_⟩;show (Ev Z [3,4] Jl (.tup [.int seen.length,Aj Aa a]) _).turn _=_;rw[st,l0];rfl
  |none=>
   rw[hf]at l0;obtain⟨s3',s4',s5',ih⟩:=We h hp np ix rest (seen++[a]) (si seen.length) (sh (Aj Aa a)) t5 (by rw[e];simp)
   refine⟨s3',s4',s5',?_⟩;rw[BU,Ec]at ih;show (Ev Z [3,4] Jl (.tup [.int seen.length,Aj Aa a]) _).turn _=_;rw[st,l0];exact ih
def Rz(Z:Gam):Prop:=∀(p:Ad)(pts:Ac R3)(x:R3),P4 p->(∀ y∈pts,In3 p y)->In3 p x->Z.F 225 [.int p,Au pts,Aj Aa x]=.ok (((fpr p pts x).map twD).getD .non)
theorem wX(h:Ho Z)(hp:P4 p)(np:∀ y∈pts,In3 p y)(ix:In3 p x):Mq.run Z [.int p,Au pts,Aj Aa x]=.ok (((fpr p pts x).map twD).getD .non):=by
 obtain⟨s3,s4,s5,lp⟩:=We h hp np ix pts [] Af Af Af rfl;have sq:Ch (Au pts)=.ok (pts.map (Aj Aa)):=rfl;unfold fpr;have lp':Cq (Ev Z [3,4] Jl) (EQ 0 (pts.map (Aj Aa))) [si p,sh (Au pts),sh (Aj Aa x),Af,Af,Af]=_:=lp;generalize pts.map (Aj Aa)=M at *;generalize Au pts=T at *;generalize Aj Aa x=X at *;cases hf:(prL pts).find? (IL p x) with
 |some q=>rw[hf]at lp';simp[Mq,Df.run,Bo,sq,lp']
 |none=>rw[hf]at lp';simp[Mq,Df.run,Bo,sq,lp']
end
noncomputable def Np:E:=(.cmp .NotIn (.var 2) (.var 1))
noncomputable def Nq:E:=(.bin .Add (.tup (.cons (.var 2) .nil)) (.call 225 (.cons (.var 0) (.cons (.var 1) (.cons (.var 2) .nil)))))
noncomputable def QS:Df:=⟨3,Aa,(.cons (.ret (.comp Nq 2 (.e (.call 69 (.cons (.var 0) .nil))) Np)) .nil)⟩
section
variable{Z:Gam}{p:Ad}{pts:Ac R3}
theorem Mv{α:Type}{g:D->R Ak}{f:D->R D}(φ:α->D)(c:α->Ak)(ψ:α->D):∀ L:Ac α,(∀ x∈L,g (φ x)=.ok (c x)/\(c x=Aa->f (φ x)=.ok (ψ x)))->BK g f (L.map φ)=.ok ((L.filter c).map ψ)
 |[],_=>rfl
 |x::L,h=>by
  obtain⟨h1,h2⟩:=h x Ax;have ih:=Mv φ c ψ L λy hy=>h y (At _ hy)
  show (g (φ x)).bind _=_;rw[h1,R.bind_ok,Ey];cases e:c x with
  |true=>
   rw[AO rfl,h2 e,R.bind_ok,show BK _ _ (Ke _ L)=_ from ih]
   rfl
  |false=>exact ih
noncomputable def rwD(p:Ad)(pts:Ac R3)(x:R3):D:=match fpr p pts x with
  |some q=>.tup [Aj Aa x,Aj Aa q.1,Aj Aa q.2]
  |none=>.non
noncomputable def KG(p:Ad)(pts:Ac R3):Ac R3:=(CM p).filter λx=>!decide (x∈pts)
noncomputable def Gw(p:Ad)(pts:Ac R3):D:=.lst ((KG p pts).map (rwD p pts))
theorem mQ{AL:D}{L R:Ac D}(ht:Z.F 69 [.int p]=.ok AL)(sq:Ch AL=.ok L)(cp:BK (cG Z [si p,sh T,Af] 2 Np) (cF Z [si p,sh T,Af] 2 Nq) L=.ok R):QS.run Z [.int p,T]=.ok (.lst R):=by
 simp[QS,Df.run,Bo,ht,sq,cp,DR]
theorem ms(ht:∀ p,P4 p->Z.F 69 [.int p]=.ok (Au (CM p)))(h2:Rz Z)(hp:P4 p)(np:∀ x∈pts,NF p x)(ha:∀ x∈CM p,x∉pts->∃ q,fpr p pts x=Ab q):QS.run Z [.int p,Au pts]=.ok (Gw p pts):=by
 refine mQ (ht p hp) rfl (Mv (Aj Aa) (λx=>!decide (x∈pts)) (rwD p pts) (CM p) λx hx=>⟨?_,λhn=>?_⟩)
 .have n:=Nz x pts;generalize Au pts=T at *;generalize Aj Aa x=X at *;simp[cG,Np,n]
 .have hn:x∉pts:=by simpa using hn
  obtain⟨q,hq⟩:=ha x hx hn;have e:=h2 p pts x hp (λy hy=>(np y hy).1) ((Gp hp).mp hx).1
  rw[hq]at e;have e:Z.F 225 [.int p,Au pts,Aj Aa x]=.ok (.tup [Aj Aa q.1,Aj Aa q.2]):=e;have e3:rwD p pts x=.tup [Aj Aa x,Aj Aa q.1,Aj Aa q.2]:=by unfold rwD;rw[hq]
  rw[e3];have sz:Do 3=Aa:=rfl;generalize Au pts=T at *;generalize Aj Aa x=X at *;generalize Aj Aa q.1=A at *;generalize Aj Aa q.2=B at *;simp[cF,Nq,e,sz]
theorem Va{PT:Ac R3}(nd:PT.Nodup):∀(rest seen:Ac R3)(s1 s2:Sl),PT=seen++rest->∃ U':Rho,Cq (Ev Z [1,2] K3) (EQ seen.length (rest.map (Aj Aa))) [sh (Au PT),s1,s2]=.next U'
 |[],seen,s1,s2,_=>⟨_,rfl⟩
 |x::rest,seen,s1,s2,e=>by
  have s:=mD PT seen (x::rest) e;have c:=NM x seen;have hm:x∉seen:=λz=>by
   rw[e]at nd;exact(List.nodup_append.mp nd).2.2 x z x (Ax ..) rfl
  rw[B5 hm]at c;obtain⟨U',ih⟩:=Va nd rest (seen++[x]) (si seen.length) (sh (Aj Aa x)) (by rw[e];simp)
  refine⟨U',?_⟩;rw[BU,Ec]at ih;rw[<-ih];show (Ev Z [1,2] K3 (.tup [.int seen.length,Aj Aa x]) _).turn _=_;have t:Ev Z [1,2] K3 (.tup [.int seen.length,Aj Aa x]) [sh (Au PT),s1,s2]=.next [sh (Au PT),si seen.length,sh (Aj Aa x)]:=by
   generalize Au PT=T at *;generalize Au seen=T0 at *;generalize Aj Aa x=X at *;simp[Ev,K3,F4,EW,s,c,slE]
  rw[t];rfl
theorem WO(pts:Ac R3)(nd:pts.Nodup):Nu.run Z [Au pts]=.ok .non:=by
 obtain⟨U',e⟩:=Va (Z:=Z) nd pts [] Af Af rfl;have sq:Ch (Au pts)=.ok (pts.map (Aj Aa)):=rfl;have e':Cq (Ev Z [1,2] K3) (EQ 0 (pts.map (Aj Aa))) [sh (Au pts),Af,Af]=_:=e;generalize pts.map (Aj Aa)=M at *;generalize Au pts=T at *;simp[Nu,Df.run,Bo,sq,e']
structure Fre (p:Ad) (l:Ac R3):Prop where
 nf:∀ x∈l,NF p x
 nd:l.Nodup
 z0:z0_ p l=Af
 ln:(l.length:Ad)<=p+1
theorem Vv(h:Im p pts=[]):∀ x∈CM p,x∉pts->∃ q,fpr p pts x=Ab q:=λx hx hn=>by
 rw[Vw]at h;have:=List.filter_eq_nil_iff.mp h x hx;unfold OK at this;cases e:fpr p pts x with
 |some q=>exact⟨q,rfl⟩
 |none=>
  rw[e]at this;simp[hn]at this
section
variable{Z:Gam}{p:Ad}{ns:Ac Ad}
theorem zJ(hp:P4 p)(n:Ad):NF p (ptI p (n%(p*p+p+1))):=by
 have N1:0<p*p+p+1:=by rcases hp with rfl|rfl|rfl|rfl<;>decide
 have b0:=AJ n (Xq N1);have b1:=AF n N1;refine(Gp hp).mp (Bb.mpr ⟨(n%(p*p+p+1)).toNat,A3.mpr (by omega),?_⟩)
 show ptI p ((n%(p*p+p+1)).toNat:Ad)=_;rw[Xs b0]
end
end
noncomputable def r11(y:Ag):Ac R3:=(AT 11).map fun(z:Ag)=>((1,(y:Ad),(z:Ad)):R3)
section
variable{p:Ad}{C D O W Z_:C6}{a b c x y z:R3}
end
noncomputable def fits(p:Ad)(C E:C6)(a b c:R3)(x:R3)(t:Ad):Ak:=decide ((vI E (ap a b c x)%p-t*(vI C x%p))%p=0)
section
variable{Z:Gam}{ns:Ac Ad}{p:Ad}{C E:C6}{a b c:R3}
end
noncomputable def pl(p:Ad):C6:=⟨0,1,0,0,p-1,0⟩
theorem gX(h:Od Z)(p:Ad)(hp:P4 p):Nn.run Z [.int p]=.ok (BW (pl p)):=by
 have l1:AX p [0,1,0,0,-1,0]=Ab 1:=by rcases hp with rfl|rfl|rfl|rfl<;>decide
 have i1:D9 p 1 1:=by rcases hp with rfl|rfl|rfl|rfl<;>exact⟨by decide,by decide,by decide⟩
 have f1:fmI p 1 [0,1,0,0,-1,0]=(pl p).l:=by rcases hp with rfl|rfl|rfl|rfl<;>decide
 have e:=h p Aa _ 1 1 hp l1 i1;rw[f1]at e;have e':Z.F 122 [.int p,.tup [.int 0,.int 1,.int 0,.int 0,.int (-1),.int 0]]=.ok (BW (pl p)):=e;generalize BW (pl p)=X at *;simp[Nn,Df.run,Bo,e']
theorem third{a b:R3}(hp:P4 p)(na:NF p a)(nb:NF p b)(ne:a≠b):∃ c,Al a b c%p≠0:=by
 refine B4 λn=>?_
 have h:∀ c,Al a b c%p=0:=λc=>B4 λz=>n ⟨c,z⟩
 have e:∀ c,Ay (crs a b) c%p=0:=λc=>by rw[qK];exact h c
 have c0:=e (1,0,0);have c1:=e (0,1,0);have c2:=e (0,0,1);unfold Ay at c0 c1 c2;simp only[DJ,CP,Int.add_zero,C0]at c0 c1 c2;have z:CgR p (crs a b) (0,0,0):=⟨by show _%p=0%p;rw[c0,Bv],by show _%p=0%p;rw[c1,Bv],by show _%p=0%p;rw[c2,Bv]⟩
 exact ne (Ky hp nb na (Mu hp z na.2 nb.2)).symm
noncomputable def lc2(a:Ad)(A:C6)(b:Ad)(B:C6):C6:=⟨a*A.c0+b*B.c0,a*A.c1+b*B.c1,a*A.c2+b*B.c2,a*A.c3+b*B.c3,a*A.c4+b*B.c4,a*A.c5+b*B.c5⟩
noncomputable def l3(a:Ad)(A:C6)(b:Ad)(B:C6)(c:Ad)(G:C6):C6:=⟨a*A.c0+b*B.c0+c*G.c0,a*A.c1+b*B.c1+c*G.c1,a*A.c2+b*B.c2+c*G.c2,a*A.c3+b*B.c3+c*G.c3,a*A.c4+b*B.c4+c*G.c4,a*A.c5+b*B.c5+c*G.c5⟩
section
variable{p:Ad}{x y z w:R3}{Q A B G L M:C6}
theorem bf(hp:P4 p)(hx:NF p x)(hy:NF p y)(ne:x≠y):¬ CgR p (crs x y) (0,0,0):=λh=>ne (Ky hp hx hy (Pr.symm hp (Mu hp h hx.2 hy.2)))
theorem kE(b0 b1 b2:Ad)(r0 r1 r2:R3):pb ⟨0,0,0,b0,b1,b2⟩ r0 r1 r2=l3 b0 (prd r0 r1) b1 (prd r0 r2) b2 (prd r1 r2):=by
 simp only[pb,l3,prd,vI,bI,Ay,ap,tw0,tw1,tw2,BD,Bx,Bz]
 congr 1<;>grind
theorem aS(x y z w:R3):AQ (Al x y z) w=(Al w y z*x.1+Al x w z*y.1+Al x y w*z.1,Al w y z*x.2.1+Al x w z*y.2.1+Al x y w*z.2.1,Al w y z*x.2.2+Al x w z*y.2.2+Al x y w*z.2.2):=by
 unfold AQ Al det;refine Bp ?_ (Bp ?_ ?_)<;>simp only<;>grind
theorem fg(x y z w:R3):AQ (Al x y z) (crs z w)=(Al w y z*(crs z x).1-Al x w z*(crs y z).1,Al w y z*(crs z x).2.1-Al x w z*(crs y z).2.1,Al w y z*(crs z x).2.2-Al x w z*(crs y z).2.2):=by
 unfold AQ Al det crs;refine Bp ?_ (Bp ?_ ?_)<;>simp only<;>grind
theorem fw(x y z w:R3):AQ (Al x y z) (crs y w)=(Al x y w*(crs y z).1-Al w y z*(crs x y).1,Al x y w*(crs y z).2.1-Al w y z*(crs x y).2.1,Al x y w*(crs y z).2.2-Al w y z*(crs x y).2.2):=by
 unfold AQ Al det crs;refine Bp ?_ (Bp ?_ ?_)<;>simp only<;>grind
theorem bJ(x y z w:R3):scC (Al x y z) (prd (crs x y) (crs z w))=lc2 (Al w y z) (prd (crs z x) (crs x y)) (-Al x w z) (prd (crs y z) (crs x y)):=by
 have e:=fg x y z w;unfold AQ at e;simp only[Jz]at e;obtain⟨e0,e1,e2⟩:=e;generalize Al x y z=d at *;generalize Al w y z=u0 at *;generalize Al x w z=u1 at *;generalize crs z w=c at *;generalize crs x y=r2 at *;generalize crs y z=r0 at *;generalize crs z x=r1 at *;simp only[scC,lc2,prd]
 congr 1<;>grind
theorem bG(x y z w:R3):scC (Al x y z) (prd (crs x z) (crs y w))=lc2 (Al w y z) (prd (crs z x) (crs x y)) (-Al x y w) (prd (crs y z) (crs z x)):=by
 have e:=fw x y z w;have f:crs x z=AQ (-1) (crs z x):=by
  unfold AQ crs;refine Bp ?_ (Bp ?_ ?_)<;>simp only<;>grind
 rw[f];unfold AQ at e ⊢;simp only[Jz]at e;obtain⟨e0,e1,e2⟩:=e;generalize Al x y z=d at *;generalize Al w y z=u0 at *;generalize Al x y w=u2 at *;generalize crs y w=c at *;generalize crs x y=r2 at *;generalize crs y z=r0 at *;generalize crs z x=r1 at *;simp only[scC,lc2,prd]
 congr 1<;>grind
theorem z0{n:Ad}(h:n%p=0):Cg p n 0:=by show n%p=0%p;rw[h,Bv]
theorem z0'{n:Ad}(h:Cg p n 0):n%p=0:=by
 have:n%p=0%p:=h;rw[this,Bv]
section
variable{d u0 u1 u2 b0 b1 b2 q A B G l m:Ad}
end
theorem O0{a b c d:Ad}(ha:Cg p a 0)(hb:Cg p b 0):Cg p (a*c-b*d) 0:=((ha.mul Cg.rfl).sub (hb.mul Cg.rfl)).trans (Cg.of (by rw[E2,E2];rfl))
theorem yB{a a' b b':Ad}{L' M':C6}(ha:Cg p a a')(hL:CgC p L L')(hb:Cg p b b')(hM:CgC p M M'):CgC p (lc2 a L b M) (lc2 a' L' b' M'):=
 ⟨(ha.mul hL.1).add (hb.mul hM.1),(ha.mul hL.2.1).add (hb.mul hM.2.1),(ha.mul hL.2.2.1).add (hb.mul hM.2.2.1),(ha.mul hL.2.2.2.1).add (hb.mul hM.2.2.2.1),(ha.mul hL.2.2.2.2.1).add (hb.mul hM.2.2.2.2.1),(ha.mul hL.2.2.2.2.2).add (hb.mul hM.2.2.2.2.2)⟩
theorem yA{l:Ad}(hp:P4 p)(lQ:AX p Q.l=Ab l)(h:CgC p Q ⟨0,0,0,0,0,0⟩):BF:=by
 have:AX p Q.l=Af:=Jo.mpr λn hn=>by
  simp only[C6.l,Av,AR,BQ]at hn;obtain⟨h0,h1,h2,h3,h4,h5⟩:=h;rcases hn with rfl|rfl|rfl|rfl|rfl|rfl
  .exact z0' h0
  .exact z0' h1
  .exact z0' h2
  .exact z0' h3
  .exact z0' h4
  .exact z0' h5
 rw[this]at lQ;cases lQ
theorem mI(hp:P4 p){d:Ad}(dz:d%p≠0)(h:CgC p (scC d Q) ⟨0,0,0,0,0,0⟩):CgC p Q ⟨0,0,0,0,0,0⟩:=⟨z0 ((F2 hp dz).mp (z0' h.1)),z0 ((F2 hp dz).mp (z0' h.2.1)),z0 ((F2 hp dz).mp (z0' h.2.2.1)),z0 ((F2 hp dz).mp (z0' h.2.2.2.1)),z0 ((F2 hp dz).mp (z0' h.2.2.2.2.1)),z0 ((F2 hp dz).mp (z0' h.2.2.2.2.2))⟩
end
--
--
noncomputable def Nf:Ss:=(.cons (.asg 3 Ae (.bin .Add (.sl (.var 1) .non (.var 2)) (.sl (.var 1) (.bin .Add (.var 2) (.int 1)) .non))) (.cons (.ife (.and (.cons (.cmp .Eq (.call 61 (.cons (.var 0) (.cons (.idx (.var 3) (.int 0)) (.cons (.idx (.var 3) (.int 1)) (.cons (.idx (.var 3) (.int 2)) .nil))))) (.int 0)) (.cons (.cmp .Eq (.call 61 (.cons (.var 0) (.cons (.idx (.var 3) (.int 0)) (.cons (.idx (.var 3) (.int 1)) (.cons (.idx (.var 3) (.int 3)) .nil))))) (.int 0)) .nil))) (.cons (.ret (.bi .tuple (.cons (.var 3) .nil))) .nil) .nil) .nil))
--
noncomputable def Mk:Df:=⟨4,Ae,(.cons (.fors 2 (.e (.tup (.cons (.int 4) (.cons (.int 3) (.cons (.int 2) (.cons (.int 1) (.cons (.int 0) .nil))))))) Nf) (.cons (.ret .non) .nil))⟩
--
noncomputable def Pf:Df:=⟨2,Ae,(.cons (.ret (.tup (.cons (.bin .Mult (.idx (.var 0) (.int 0)) (.idx (.var 1) (.int 0))) (.cons (.bin .Mult (.idx (.var 0) (.int 1)) (.idx (.var 1) (.int 1))) (.cons (.bin .Mult (.idx (.var 0) (.int 2)) (.idx (.var 1) (.int 2))) (.cons (.bin .Add (.bin .Mult (.idx (.var 0) (.int 0)) (.idx (.var 1) (.int 1))) (.bin .Mult (.idx (.var 0) (.int 1)) (.idx (.var 1) (.int 0)))) (.cons (.bin .Add (.bin .Mult (.idx (.var 0) (.int 0)) (.idx (.var 1) (.int 2))) (.bin .Mult (.idx (.var 0) (.int 2)) (.idx (.var 1) (.int 0)))) (.cons (.bin .Add (.bin .Mult (.idx (.var 0) (.int 1)) (.idx (.var 1) (.int 2))) (.bin .Mult (.idx (.var 0) (.int 2)) (.idx (.var 1) (.int 1)))) .nil)))))))) .nil)⟩
noncomputable def PJ:E:=(.bin .Sub (.bin .Mult (.var 4) (.var 6)) (.bin .Mult (.var 5) (.var 7)))
--
noncomputable def Mj:Df:=⟨8,Ae,(.cons (.asg 2 Ae (.call 196 (.cons (.call 57 (.cons (.var 0) (.cons (.idx (.var 1) (.int 0)) (.cons (.idx (.var 1) (.int 1)) .nil)))) (.cons (.call 57 (.cons (.var 0) (.cons (.idx (.var 1) (.int 2)) (.cons (.idx (.var 1) (.int 3)) .nil)))) .nil)))) (.cons (.asg 3 Ae (.call 196 (.cons (.call 57 (.cons (.var 0) (.cons (.idx (.var 1) (.int 0)) (.cons (.idx (.var 1) (.int 2)) .nil)))) (.cons (.call 57 (.cons (.var 0) (.cons (.idx (.var 1) (.int 1)) (.cons (.idx (.var 1) (.int 3)) .nil)))) .nil)))) (.cons (.asg 4 Ae (.call 126 (.cons (.var 0) (.cons (.var 3) (.cons (.idx (.var 1) (.int 4)) .nil))))) (.cons (.asg 5 Ae (.call 126 (.cons (.var 0) (.cons (.var 2) (.cons (.idx (.var 1) (.int 4)) .nil))))) (.cons (.ret (.call 122 (.cons (.var 0) (.cons (.compT PJ [6,7] (.zip (.var 2) (.var 3)) B7) .nil)))) .nil)))))⟩
--
noncomputable def Ng:Df:=⟨3,Ae,(.cons (.ife (.cmp .NotEq (.bi .len (.cons (.var 1) .nil)) (.int 5)) (.cons (.rais 13 (.cons (.str (Az "a curve is told by five points")) .nil)) .nil) .nil) (.cons (.expr (.call 194 (.cons (.var 1) .nil))) (.cons (.asg 2 Ae (.call 195 (.cons (.var 0) (.cons (.var 1) .nil)))) (.cons (.ife (.cmp .IsNot (.var 2) .non) (.cons (.rais 118 (.cons (.var 2) .nil)) .nil) .nil) (.cons (.ret (.call 197 (.cons (.var 0) (.cons (.var 1) .nil)))) .nil)))))⟩
section
variable{Z:Gam}{p:Ad}{P0 P1 P2 P3 P4:D}
noncomputable def five(P0 P1 P2 P3 P4:D):D:=.lst [P0,P1,P2,P3,P4]
theorem MC{k a b:Ad}{q0 q1 q2 q3:D}{u v:Ac D}{s2:Sl}(c0:slD PP Af (Ab k)=.ok (.lst u))(c1:slD PP (Ab (k+1)) Af=.ok (.lst v))(ad:Dj .Add (.lst u) (.lst v)=.ok (.lst [q0,q1,q2,q3]))(e0:Z.F 61 [.int p,q0,q1,q2]=.ok (.int a))(e1:Z.F 61 [.int p,q0,q1,q3]=.ok (.int b))(h:¬ (a=0/\b=0)):Bi Z 2 Nf (.int k) [si p,sh PP,s2,s3]=.next [si p,sh PP,si k,sh (.lst [q0,q1,q2,q3])]:=by
 have i0:B8 (.lst [q0,q1,q2,q3]) (.int 0)=.ok q0:=rfl;have i1:B8 (.lst [q0,q1,q2,q3]) (.int 1)=.ok q1:=rfl;have i2:B8 (.lst [q0,q1,q2,q3]) (.int 2)=.ok q2:=rfl;have i3:B8 (.lst [q0,q1,q2,q3]) (.int 3)=.ok q3:=rfl;generalize D.lst [q0,q1,q2,q3]=FF at *;generalize D.lst u=U_ at *;generalize D.lst v=V at *;by_cases ha:a=0
 .have hb:b≠0:=λz=>h ⟨ha,z⟩
  simp[Bi,Nf,c0,c1,ad,i0,i1,i2,i3,e0,e1,ha,hb]
 .simp[Bi,Nf,c0,c1,ad,i0,i1,i2,i3,e0,e1,ha]
theorem dB{m012 m013 m014 m023 m024 m123 m124:Ad}(e012:Z.F 61 [.int p,P0,P1,P2]=.ok (.int m012))(e013:Z.F 61 [.int p,P0,P1,P3]=.ok (.int m013))(e014:Z.F 61 [.int p,P0,P1,P4]=.ok (.int m014))(e023:Z.F 61 [.int p,P0,P2,P3]=.ok (.int m023))(e024:Z.F 61 [.int p,P0,P2,P4]=.ok (.int m024))(e123:Z.F 61 [.int p,P1,P2,P3]=.ok (.int m123))(e124:Z.F 61 [.int p,P1,P2,P4]=.ok (.int m124))(h4:¬ (m012=0/\m013=0))(h3:¬ (m012=0/\m014=0))(h2:¬ (m013=0/\m014=0))(h1:¬ (m023=0/\m024=0))(h0:¬ (m123=0/\m124=0)):Mk.run Z [.int p,five P0 P1 P2 P3 P4]=.ok .non:=by
 have t4:=fun(s2 s3:Sl)=>MC (Z:=Z) (p:=p) (k:=4) (PP:=five P0 P1 P2 P3 P4) (s2:=s2) (s3:=s3) rfl rfl rfl e012 e013 h4
 have t3:=fun(s2 s3:Sl)=>MC (Z:=Z) (p:=p) (k:=3) (PP:=five P0 P1 P2 P3 P4) (s2:=s2) (s3:=s3) rfl rfl rfl e012 e014 h3
 have t2:=fun(s2 s3:Sl)=>MC (Z:=Z) (p:=p) (k:=2) (PP:=five P0 P1 P2 P3 P4) (s2:=s2) (s3:=s3) rfl rfl rfl e013 e014 h2
 have t1:=fun(s2 s3:Sl)=>MC (Z:=Z) (p:=p) (k:=1) (PP:=five P0 P1 P2 P3 P4) (s2:=s2) (s3:=s3) rfl rfl rfl e023 e024 h1
 have t0:=fun(s2 s3:Sl)=>MC (Z:=Z) (p:=p) (k:=0) (PP:=five P0 P1 P2 P3 P4) (s2:=s2) (s3:=s3) rfl rfl rfl e123 e124 h0
 generalize five P0 P1 P2 P3 P4=PP at *;simp[Mk,Df.run,Bo,Cq,t4,t3,t2,t1,t0]
theorem wZ{R:D}(e1:Z.F 194 [five P0 P1 P2 P3 P4]=.ok .non)(e2:Z.F 195 [.int p,five P0 P1 P2 P3 P4]=.ok .non)(e3:Z.F 197 [.int p,five P0 P1 P2 P3 P4]=.ok R):Ng.run Z [.int p,five P0 P1 P2 P3 P4]=.ok R:=by
 have ln:biD .len [five P0 P1 P2 P3 P4]=.ok (.int 5):=rfl;generalize five P0 P1 P2 P3 P4=PP at *;simp[Ng,Df.run,Bo,ln,e1,e2,e3]
end
theorem P9(a b c d e:R3):Au [a,b,c,d,e]=five (Aj Aa a) (Aj Aa b) (Aj Aa c) (Aj Aa d) (Aj Aa e):=rfl
section
variable{Z:Gam}{p:Ad}{C:C6}
theorem M3(x y z:R3):Ay (crs x y) z=Al x y z:=by
 unfold Ay crs Al det;grind
def V7(Z:Gam):Prop:=∀(p:Ad)(a b:R3),P4 p->In3 p a->In3 p b->Z.F 196 [Aj Aa a,Aj Aa b]=.ok (BW (prd a b))
theorem wB(Z:Gam)(p:Ad)(a b:R3)(hp:P4 p)(ia:In3 p a)(ib:In3 p b):Pf.run Z [Aj Aa a,Aj Aa b]=.ok (BW (prd a b)):=by
 have ba:=Cd hp ia;have bb:=Cd hp ib;have k:∀ {u v},Bd 10 u->Bd 10 v->EM u v=Aa:=λhu hv=>F3 hu hv (by decide) (by decide)
 obtain⟨x0,x1,x2⟩:=Fk Aa a;obtain⟨y0,y1,y2⟩:=Fk Aa b;simp[Pf,Df.run,Bo,x0,x1,x2,y0,y1,y2,k ba.1 bb.1,k ba.2.1 bb.2.1,k ba.2.2 bb.2.2,k ba.1 bb.2.1,k ba.2.1 bb.1,k ba.1 bb.2.2,k ba.2.2 bb.1,k ba.2.1 bb.2.2,k ba.2.2 bb.2.1];rfl
theorem Oh{a b:R3}(hp:P4 p)(ia:In3 p a)(ib:In3 p b):BC (prd a b):=by
 have hh:=hp.hi;have k:∀{x y:Ad},0<=x/\x<p->0<=y/\y<p->0<=x*y/\x*y<=100:=λ{x y} hx hy=>by
  refine⟨G1 hx.1 hy.1,?_⟩;exact JE (Xp (show x<=10 by omega) (show y<=10 by omega) hy.1 (by decide)) (by decide)
 have b1:∀{n:Ad},0<=n/\n<=100->Bd 10 n:=λh=>by unfold Bd;omega
 have b2:∀{m n:Ad},0<=m/\m<=100->0<=n/\n<=100->Bd 10 (m+n):=λh g=>by unfold Bd;omega
 obtain⟨a0,a1,a2⟩:=ia;obtain⟨b0,b1',b2'⟩:=ib;exact⟨b1 (k a0 b0),b1 (k a1 b1'),b1 (k a2 b2'),b2 (k a0 b1') (k a1 b0),b2 (k a0 b2') (k a2 b0),b2 (k a1 b2') (k a2 b1')⟩
def V5(Z:Gam):Prop:=∀(p:Ad)(C:C6)(x:R3),P4 p->BC C->In3 p x->Z.F 126 [.int p,BW C,Aj Aa x]=.ok (.int (vI C x%p))
theorem wW(hr:H9 Z)(p:Ad)(C:C6)(x:R3)(hp:P4 p)(bC:BC C)(ix:In3 p x):MJ.run Z [.int p,BW C,Aj Aa x]=.ok (.int (vI C x%p)):=by
 obtain⟨i0,i1,i2,i3,i4,i5⟩:=ix6 C;obtain⟨x0,x1,x2⟩:=Fk Aa x;have bx:=Cd hp ix;have k:∀ {u v},Bd 10 u->Bd 10 v->EM u v=Aa:=λhu hv=>F3 hu hv (by decide) (by decide)
 have k2:∀ {u v w},Bd 10 u->Bd 10 v->Bd 10 w->EM (u*v) w=Aa:=λhu hv hw=>F3 (hu.mul hv) hw (by decide) (by decide)
 simp[MJ,Df.run,Bo,i0,i1,i2,i3,i4,i5,x0,x1,x2,k bC.b0 bx.1,k bC.b1 bx.2.1,k bC.b2 bx.2.2,k bC.b3 bx.1,k bC.b4 bx.1,k bC.b5 bx.2.1,k2 bC.b0 bx.1 bx.1,k2 bC.b1 bx.2.1 bx.2.1,k2 bC.b2 bx.2.2 bx.2.2,k2 bC.b3 bx.1 bx.2.1,k2 bC.b4 bx.1 bx.2.2,k2 bC.b5 bx.2.1 bx.2.2,hr p _ hp.pos];rfl
theorem d7{P0 P1 P2 P3 P4 A B A' B' R:D}{L M:C6}{l m:Ad}(bL:BC L)(bM:BC M)(bl:Bd 10 l)(bm:Bd 10 m)(e01:Z.F 57 [.int p,P0,P1]=.ok A)(e23:Z.F 57 [.int p,P2,P3]=.ok B)(eL:Z.F 196 [A,B]=.ok (BW L))(e02:Z.F 57 [.int p,P0,P2]=.ok A')(e13:Z.F 57 [.int p,P1,P3]=.ok B')(eM:Z.F 196 [A',B']=.ok (BW M))(vM:Z.F 126 [.int p,BW M,P4]=.ok (.int m))(vL:Z.F 126 [.int p,BW L,P4]=.ok (.int l))(ec:Z.F 122 [.int p,.lst (ds (lc2 m L (-l) M).l)]=.ok R):Mj.run Z [.int p,five P0 P1 P2 P3 P4]=.ok R:=by
 have i0:B8 (five P0 P1 P2 P3 P4) (.int 0)=.ok P0:=rfl;have i1:B8 (five P0 P1 P2 P3 P4) (.int 1)=.ok P1:=rfl;have i2:B8 (five P0 P1 P2 P3 P4) (.int 2)=.ok P2:=rfl;have i3:B8 (five P0 P1 P2 P3 P4) (.int 3)=.ok P3:=rfl;have i4:B8 (five P0 P1 P2 P3 P4) (.int 4)=.ok P4:=rfl;have sL:Ch (BW L)=.ok (ds L.l):=rfl;have sM:Ch (BW M)=.ok (ds M.l):=rfl;have k:∀ {u v},Bd 10 u->Bd 10 v->EM u v=Aa:=λhu hv=>F3 hu hv (by decide) (by decide)
 have cp:∀(PP cL cM:D),BK (cGT Z [si p,sh PP,sh cL,sh cM,si m,si l,Af,Af] [6,7] B7) (cFT Z [si p,sh PP,sh cL,sh cM,si m,si l,Af,Af] [6,7] PJ) (EF (ds L.l) (ds M.l))=.ok (ds (lc2 m L (-l) M).l):=λPP cL cM=>by
  obtain⟨l0,l1,l2,l3,l4,l5⟩:=L;obtain⟨m0,m1,m2,m3,m4,m5⟩:=M;have n:∀ a b:Ad,m*a + -l*b=m*a-l*b:=λa b=>by rw[Int.neg_mul,Int.sub_eq_add_neg]
  simp[BK,cGT,cFT,EF,ds,C6.l,lc2,PJ,B7,n,k bm bL.b0,k bm bL.b1,k bm bL.b2,k bm bL.b3,k bm bL.b4,k bm bL.b5,k bl bM.b0,k bl bM.b1,k bl bM.b2,k bl bM.b3,k bl bM.b4,k bl bM.b5]
 generalize five P0 P1 P2 P3 P4=PP at *;generalize ds (lc2 m L (-l) M).l=FF at *;generalize ds L.l=LL at *;generalize ds M.l=MM at *;generalize BW L=cL at *;generalize BW M=cM at *;simp[Mj,Df.run,Bo,i0,i1,i2,i3,i4,e01,e23,eL,e02,e13,eM,vM,vL,sL,sM,cp,ec]
theorem zO{a a' b b':R3}(ha:CgR p a a')(hb:CgR p b b'):CgC p (prd a b) (prd a' b'):=
 ⟨ha.1.mul hb.1,ha.2.1.mul hb.2.1,ha.2.2.mul hb.2.2,(ha.1.mul hb.2.1).add (ha.2.1.mul hb.1),(ha.1.mul hb.2.2).add (ha.2.2.mul hb.1),(ha.2.1.mul hb.2.2).add (ha.2.2.mul hb.2.1)⟩
theorem U_7(hp:P4 p){a a' b b':R3}(ha:Pr p a a')(hb:Pr p b b'):PrC p (prd a b) (prd a' b'):=by
 obtain⟨d,dz,e⟩:=ha;obtain⟨d',dz',e'⟩:=hb;refine⟨d*d',BL hp dz dz',(zO e e').trans (CgC.of ?_)⟩;unfold prd scC AQ
 congr 1<;>grind
theorem d8(hp:P4 p){L M L' M':C6}(hL:PrC p L' L)(hM:PrC p M' M)(v:R3):PrC p (lc2 (vI M' v%p) L' (-(vI L' v%p)) M') (lc2 (vI M v) L (-vI L v) M):=by
 obtain⟨d,dz,e⟩:=hL;obtain⟨d',dz',e'⟩:=hM;refine⟨d*d',BL hp dz dz',?_⟩;have r:CgR p v v:=⟨Cg.rfl,Cg.rfl,Cg.rfl⟩;have q:=Jr e r;have q':=Jr e' r;rw[Rb]at q q';have neg:∀{a b:Ad},Cg p a b->Cg p (-a) (-b):=λ{a b} h=>by
  have:=(Cg.rfl (p:=p) (a:=0)).sub h
  rwa [Xu,Xu]at this
 refine(yB ((Cg.md rfl).trans q') e (neg ((Cg.md rfl).trans q)) e').trans (CgC.of ?_);generalize vI M v=m;generalize vI L v=l;unfold lc2 scC
 congr 1<;>grind
theorem jN(hp:P4 p){l:Ad}{E:C6}(lC:AX p C.l=Ab l)(h:PrC p E C):∃ l',AX p E.l=Ab l':=by
 cases e:AX p E.l with
 |some l'=>exact⟨l',rfl⟩
 |none=>
  exfalso
  obtain⟨d,dz,q⟩:=h;have z:=Jo.mp e;have k:∀{n:Ad},n∈E.l->Cg p n 0:=λhn=>z0 (z _ hn)
  have q2:CgC p E ⟨0,0,0,0,0,0⟩:=⟨k (by simp[C6.l]),k (by simp[C6.l]),k (by simp[C6.l]),k (by simp[C6.l]),k (by simp[C6.l]),k (by simp[C6.l])⟩
  exact yA hp lC (mI hp dz (q.symm.trans q2))
noncomputable def Fc(a b c d e:R3):C6:=lc2 (vI (prd (crs a c) (crs b d)) e) (prd (crs a b) (crs c d)) (-vI (prd (crs a b) (crs c d)) e) (prd (crs a c) (crs b d))
end
section
variable{p:Ad}{r n a b c x y z u:R3}
theorem kQ(x y n:R3):crs (crs x y) n=(Ay n x*y.1-Ay n y*x.1,Ay n x*y.2.1-Ay n y*x.2.1,Ay n x*y.2.2-Ay n y*x.2.2):=by
 unfold crs Ay;refine Bp ?_ (Bp ?_ ?_)<;>simp only<;>grind
theorem par(hp:P4 p)(h1:CgR p (crs r n) (0,0,0))(h2:CgR p (crs r a) (0,0,0))(rz:¬ CgR p r (0,0,0))(nz:¬ CgR p n (0,0,0))(e:Ay n z%p=0):Ay a z%p=0:=by
 obtain⟨f0,f1,f2⟩:=h1;obtain⟨g0,g1,g2⟩:=h2;simp only[crs]at f0 f1 f2 g0 g1 g2;have sw:∀{x y:Ad},Cg p (x-y) 0->Cg p x y:=λ{x y} h=>(Cg.of (by omega)).trans ((h.add (Cg.rfl (a:=y))).trans (Cg.of (by omega)))
 have d1:=sw f0;have d2:=sw f1;have d3:=sw f2;have c1:=sw g0;have c2:=sw g1;have c3:=sw g2
 -- r i n j=r j n i
 have key:∀ ri ni ai:Ad,Cg p (ri*n.1) (r.1*ni)->Cg p (ri*n.2.1) (r.2.1*ni)->Cg p (ri*n.2.2) (r.2.2*ni)->Cg p (ri*a.1) (r.1*ai)->Cg p (ri*a.2.1) (r.2.1*ai)->Cg p (ri*a.2.2) (r.2.2*ai)->ni%p≠0->Ay a z%p=0:=λri ni ai k0 k1 k2 l0 l1 l2 hz=>by
  have rn:ri%p≠0:=λq=>rz ⟨?_,?_,?_⟩
  .have s1:Cg p (ni*Ay r z) 0:=by
    have t:=(((k0.mul (Cg.rfl (a:=z.1))).add (k1.mul (Cg.rfl (a:=z.2.1)))).add (k2.mul (Cg.rfl (a:=z.2.2)))).symm;refine(Cg.of ?_).trans (t.trans ((Cg.of ?_).trans (((Cg.rfl (a:=ri)).mul (z0 e)).trans (Cg.of (CP _)))))
    .unfold Ay;clear e k0 k1 k2 l0 l1 l2 t c1 c2 c3 d1 d2 d3 f0 f1 f2 g0 g1 g2 sw;grind
    .unfold Ay;clear e k0 k1 k2 l0 l1 l2 t c1 c2 c3 d1 d2 d3 f0 f1 f2 g0 g1 g2 sw;grind
   have s2:=z0 ((F2 hp hz).mp (z0' s1));have s3:Cg p (ri*Ay a z) 0:=by
    have t:=(((l0.mul (Cg.rfl (a:=z.1))).add (l1.mul (Cg.rfl (a:=z.2.1)))).add (l2.mul (Cg.rfl (a:=z.2.2))));refine(Cg.of ?_).trans (t.trans ((Cg.of ?_).trans (((Cg.rfl (a:=ai)).mul s2).trans (Cg.of (CP _)))))
    .unfold Ay;clear e k0 k1 k2 l0 l1 l2 t c1 c2 c3 d1 d2 d3 f0 f1 f2 g0 g1 g2 sw s1 s2;grind
    .unfold Ay;clear e k0 k1 k2 l0 l1 l2 t c1 c2 c3 d1 d2 d3 f0 f1 f2 g0 g1 g2 sw s1 s2;grind
   exact(F2 hp rn).mp (z0' s3)
  all_goals
   refine z0 ((F2 hp hz).mp (z0' ?_))
  .exact(Cg.of (BS _ _)).trans (k0.symm.trans (((z0 q).mul Cg.rfl).trans (Cg.of (E2 _))))
  .exact(Cg.of (BS _ _)).trans (k1.symm.trans (((z0 q).mul Cg.rfl).trans (Cg.of (E2 _))))
  .exact(Cg.of (BS _ _)).trans (k2.symm.trans (((z0 q).mul Cg.rfl).trans (Cg.of (E2 _))))
 by_cases n0:n.1%p=0
 .by_cases n1:n.2.1%p=0
  .have n2:n.2.2%p≠0:=λq=>nz ⟨z0 n0,z0 n1,z0 q⟩
   exact key r.2.2 n.2.2 a.2.2 d2 d1.symm Cg.rfl c2 c1.symm Cg.rfl n2
  .exact key r.2.1 n.2.1 a.2.1 d3.symm Cg.rfl d1 c3.symm Cg.rfl c1 n1
 .exact key r.1 n.1 a.1 Cg.rfl d3 d2.symm Cg.rfl c3 c2.symm n0
theorem Sy(h1:Ay n x%p=0)(h2:Ay n y%p=0):CgR p (crs (crs x y) n) (0,0,0):=by
 rw[kQ];exact⟨O0 (z0 h1) (z0 h2),O0 (z0 h1) (z0 h2),O0 (z0 h1) (z0 h2)⟩
theorem vA(hp:P4 p)(hx:NF p x)(hy:NF p y)(ne:x≠y)(nz:¬ CgR p n (0,0,0))(n1:Ay n x%p=0)(n2:Ay n y%p=0)(a1:Ay a x%p=0)(a2:Ay a y%p=0)(e:Ay n z%p=0):Ay a z%p=0:=
 par hp (Sy n1 n2) (Sy a1 a2) (bf hp hx hy ne) nz e
theorem iK(hp:P4 p)(hx:NF p x)(hy:NF p y)(ne:x≠y)(nz:¬ CgR p n (0,0,0))(n1:Ay n x%p=0)(n2:Ay n y%p=0)(e:Ay n u%p=0):Al x y u%p=0:=by
 rw[<-M3];obtain⟨h1,h2⟩:=qH x y;exact vA hp hx hy ne nz n1 n2 (by rw[h1];exact Bv p) (by rw[h2];exact Bv p) e
end
section
variable{p:Ad}{C:C6}
structure N3 (p:Ad) (pts:Ac R3):Prop where
 nd:pts.Nodup
 nf:∀ x∈pts,NF p x
 n3:∀ x y u,x∈pts->y∈pts->u∈pts->x≠y->x≠u->y≠u->Al x y u%p≠0
theorem N3.sub{a b:Ac R3}(h:N3 p a)(e:b.Sublist a):N3 p b:=⟨e.nodup h.nd,λx hx=>h.nf x (e.subset hx),λx y u hx hy hu=>h.n3 x y u (e.subset hx) (e.subset hy) (e.subset hu)⟩
end
noncomputable def Kl:Df:=⟨3,Ae,(.cons (.ife (.cmp .Lt (.bi .len (.cons (.var 1) .nil)) (.int 5)) (.cons (.asg 2 Ae (.call 123 (.cons (.var 0) .nil))) (.cons (.ret (.call 133 (.cons (.var 0) (.cons (.var 2) (.cons (.call 112 (.cons (.var 0) (.cons (.call 128 (.cons (.var 0) (.cons (.var 2) .nil))) (.cons (.var 1) .nil)))) .nil))))) .nil)) .nil) (.cons (.ret (.call 198 (.cons (.var 0) (.cons (.sl (.var 1) .non (.int 5)) .nil)))) .nil))⟩
section
variable{Z:Gam}{p:Ad}{pts:Ac R3}
theorem n3Z(nd:pts.Nodup)(nf:∀ x∈pts,NF p x)(h:z0_ p pts=Af):N3 p pts:=⟨nd,nf,λx y u hx hy hu n1 n2 n3 z=>by
 obtain⟨d,e⟩:=vQ hx hy hu n1 n2 n3 z;rw[h]at e;cases e⟩
theorem bK{l:Ac α}(h:l.length=4):∃ a b c d,l=[a,b,c,d]:=by
  match l,h with
  |[a,b,c,d],_=>exact⟨a,b,c,d,rfl⟩
theorem dD{l:Ac α}(h:l.length=5):∃ a b c d e,l=[a,b,c,d,e]:=by
  match l,h with
  |[a,b,c,d,e],_=>exact⟨a,b,c,d,e,rfl⟩
theorem wQ{T cC PT M R:D}{n:Ad}(ln:biD .len [T]=.ok (.int n))(h:n<5)(e1:Z.F 123 [.int p]=.ok cC)(e2:Z.F 128 [.int p,cC]=.ok PT)(e3:Z.F 112 [.int p,PT,T]=.ok M)(e4:Z.F 133 [.int p,cC,M]=.ok R):Kl.run Z [.int p,T]=.ok R:=by
 simp[Kl,Df.run,Bo,ln,h,e1,e2,e3,e4]
theorem wO{T T5 R:D}{n:Ad}(ln:biD .len [T]=.ok (.int n))(h:¬ n<5)(sl:slD T Af (Ab 5)=.ok T5)(e:Z.F 198 [.int p,T5]=.ok R):Kl.run Z [.int p,T]=.ok R:=by
 simp[Kl,Df.run,Bo,ln,h,sl,slE,e]
end
section
variable{p:Ad}
theorem jl(hp:P4 p){a b:R3}(na:NF p a)(nb:NF p b)(ne:a≠b):NF p (nrm p (crs a b))/\Pr p (nrm p (crs a b)) (crs a b):=by
 cases el:AX p (tri (crs a b)) with
 |none=>exact absurd (Q2 hp nb.1 na.1 nb.2 na.2 (Mu hp (Qm el) na.2 nb.2)).symm ne
 |some l=>exact Lb hp el
noncomputable def thr(p:Ad)(a:R3):Ac R3:=(CM p).filter λm=>decide (Ay a m%p=0)
theorem Vb(hp:P4 p)(na:NF p a):((thr p a).length:Ad)=p+1:=by
 have h:∀ x∈CM p,((thr p x).length:Ad)=p+1:=by
  rcases hp with rfl|rfl|rfl|rfl<;>decide+kernel
 exact h a ((Gp hp).mpr na)
theorem Tn{α:Type}[DecidableEq α](R:α->α->Prop)(sy:∀ a b,R a b->R b a):∀(n:Ag)(k:Ac α),k.length<=n->k.Nodup->(∀ a∈k,∃ b∈k,b≠a/\R a b)->(∀ a b c,a∈k->b∈k->c∈k->b≠a->c≠a->R a b->R a c->b=c)->k.length%2=0
 |_,[],_,_,_,_=>rfl
 |0,a::k,h,_,_,_=>by simp at h
 |n+1,a::k,h,nd,ex,un=>by
  obtain⟨n1,n2⟩:=BM.mp nd;obtain⟨b,hb,ba,rab⟩:=ex a Ax;have hb':b∈k:=(Av.mp hb).resolve_left ba;have l1:(k.erase b).length=k.length-1:=Cu hb';have l0:0<k.length:=XH hb';have sub:∀ x,x∈k.erase b->x∈k:=λx hx=>List.mem_of_mem_erase hx
  have nb:∀ x,x∈k.erase b->x≠b:=λx hx=>((BO n2).mp hx).1
  have ih:=Tn R sy n (k.erase b) (by rw[BE]at h;omega) (n2.erase b) (λc hc=>by
   have hck:=At a (sub c hc);have ca:c≠a:=λe=>n1 (e ▸ sub c hc)
   obtain⟨d,hd,dc,rcd⟩:=ex c hck;have da:d≠a:=λe=>by
    subst e;exact nb c hc (un d c b hd hck hb (Br dc) ba (sy _ _ rcd) rab)
   have db:d≠b:=λe=>by
    subst e;exact ca (un d c a hd hck Ax (Br dc) (Br ba) (sy _ _ rcd) (sy _ _ rab))
   exact⟨d,(BO n2).mpr ⟨db,(Av.mp hd).resolve_left da⟩,dc,rcd⟩) (λx y z hx hy hz=>un x y z (At _ (sub x hx)) (At _ (sub y hy)) (At _ (sub z hz)))
  rw[BE];omega
theorem Wq(a b c:R3):Al a c b=-Al a b c:=by unfold Al det;grind
theorem Ws(a b c:R3):Al c a b=Al a b c:=by unfold Al det;grind
theorem SZ{x:Ad}(h:x%p=0):-x%p=0:=Xo (Xl.mpr (Xm h))
theorem yR(hp:P4 p){l:Ac R3}(h:N3 p l):(l.length:Ad)≠p+2:=λhl=>by
 obtain⟨Q,hQ,nQ⟩:∃ Q∈CM p,Q∉l:=by
  refine B4 λz=>?_
  have le:=NU (T6 hp) (λx hx=>B4 λy=>z ⟨x,hx,y⟩)
  have e:(CM p).length=(p*p+p+1).toNat:=by unfold CM;rw[AV,E0]
  rw[e]at le;rcases hp with rfl|rfl|rfl|rfl<;>omega
 have nfQ:=(Gp hp).mp hQ;have z0:(0:Ad)%p=0:=Bv p;have ne:∀ a∈l,Q≠a:=λa ha e=>nQ (e ▸ ha)
 have key:∀ a∈l,∃ b∈l,b≠a/\Al Q a b%p=0:=λa ha=>by
  have na:=h.nf a ha;obtain⟨m1,m2⟩:=jl hp nfQ na (ne a ha);have er:∀ b,b∈l.erase a->b≠a/\b∈l:=λb hb=>(BO h.nd).mp hb
  have pj:∀ b,b∈l.erase a->NF p (nrm p (crs a b))/\Pr p (nrm p (crs a b)) (crs a b):=λb hb=>jl hp na (h.nf b (er b hb).2) (Br (er b hb).1)
  have on:∀ b,b∈l.erase a->Ay b (nrm p (crs a b))%p=0:=λb hb=>(II hp (pj b hb).2).mpr (by rw[(NW a b).2];exact z0)
  have kn:((l.erase a).map λb=>nrm p (crs a b)).Nodup:=XU.mpr ((h.nd.erase a).imp_of_mem λ{b c} hb hc bc e=>by
   refine h.n3 a b c ha (er b hb).2 (er c hc).2 (Br (er b hb).1) (Br (er c hc).1) bc ?_;rw[<-II hp (pj b hb).2,e];exact on c hc)
  have ks:∀ m∈(l.erase a).map λb=>nrm p (crs a b),m∈thr p a:=λm hm=>by
   obtain⟨b,hb,rfl⟩:=Bb.mp hm;exact Cr.mpr ⟨(Gp hp).mpr (pj b hb).1,CD ((II hp (pj b hb).2).mpr (by rw[(NW a b).1];exact z0))⟩
  have mt:nrm p (crs Q a)∈thr p a:=Cr.mpr ⟨(Gp hp).mpr m1,CD ((II hp m2).mpr (by rw[(NW Q a).2];exact z0))⟩
  have hk:nrm p (crs Q a)∈(l.erase a).map λb=>nrm p (crs a b):=B4 λz=>by
   have le:=NU (BM.mpr ⟨z,kn⟩) (l2:=thr p a) λx hx=>by
    rcases Av.mp hx with rfl|hx
    .exact mt
    .exact ks x hx
   rw[BE,AV,Cu ha]at le;have:=Vb hp na;have:=hp.lo;omega
  obtain⟨b,hb,e⟩:=Bb.mp hk;refine⟨b,(er b hb).2,(er b hb).1,?_⟩;rw[<-II hp m2,<-e];exact on b hb
 have ev:=Tn (λa b=>Al Q a b%p=0) (λa b r=>by rw[Wq];exact SZ r) l.length l (A5 _) h.nd key (λa b c ha hb hc ba ca r1 r2=>B4 λbc=>by
  obtain⟨m1,m2⟩:=jl hp nfQ (h.nf a ha) (ne a ha);refine h.n3 a b c ha hb hc (Br ba) (Br ca) bc (iK hp (h.nf a ha) (h.nf b hb) (Br ba) (n:=nrm p (crs Q a)) (λz=>ji m1 ⟨IZ (b:=(0:Ad)%p) z.1 z0,IZ (b:=(0:Ad)%p) z.2.1 z0,IZ (b:=(0:Ad)%p) z.2.2 z0⟩) ?_ ?_ ?_)
  .rw[HW,II hp m2,(NW Q a).2];exact z0
  .rw[HW,II hp m2];exact r1
  .rw[HW,II hp m2];exact r2)
 rcases hp with rfl|rfl|rfl|rfl<;>omega
end
noncomputable def IE:Df:=⟨4,Ae,(.cons (.expr (.call 194 (.cons (.var 1) .nil))) (.cons (.asg 2 Ae (.call 65 (.cons (.var 0) (.cons (.var 1) .nil)))) (.cons (.ife (.cmp .IsNot (.var 2) .non) (.cons (.ret (.tup (.cons (.str (Az "line")) (.cons (.var 2) .nil)))) .nil) .nil) (.cons (.ife (.cmp .Eq (.bi .len (.cons (.var 1) .nil)) (.bin .Add (.var 0) (.int 1))) (.cons (.ret (.tup (.cons (.str (Az "curve")) (.cons (.call 224 (.cons (.var 0) (.cons (.var 1) .nil))) .nil)))) .nil) .nil) (.cons (.asg 3 Ae (.call 223 (.cons (.var 0) (.cons (.var 1) .nil)))) (.cons (.ife (.cmp .Gt (.bi .len (.cons (.var 3) .nil)) (.int 0)) (.cons (.ret (.tup (.cons (.str (Az "more")) (.cons (.idx (.var 3) (.int 0)) .nil)))) .nil) .nil) (.cons (.ret (.tup (.cons (.str (Az "ends")) (.cons (.call 226 (.cons (.var 0) (.cons (.var 1) .nil))) .nil)))) .nil)))))))⟩
section
variable{Z:Gam}{p:Ad}{pts:Ac R3}
theorem Wa{a b:R3}:∀{l:Ac R3},a∈l->b∈l->a≠b->(a,b)∈prL l\/(b,a)∈prL l
 |[],ha,_,_=>by cases ha
 |c::r,ha,hb,ne=>by
  rcases Av.mp ha with rfl|ha'
  .rcases Av.mp hb with rfl|hb'
   .exact absurd rfl ne
   .exact .inl (Er _ (Bb.mpr ⟨b,hb',rfl⟩))
  .rcases Av.mp hb with rfl|hb'
   .exact .inr (Er _ (Bb.mpr ⟨a,ha',rfl⟩))
   .exact(Wa ha' hb' ne).imp (Bt _) (Bt _)
theorem rA{l:Ac R3}(h:x∈Im p l)(a b:R3)(ha:a∈l)(hb:b∈l)(ne:a≠b):Al a b x%p≠0:=λz=>by
 rw[Vw]at h;have k:=(Cr.mp h).2;unfold OK at k;rw[Ap,Option.isNone_iff_eq_none]at k;have k2:=List.find?_eq_none.mp k.2;rcases Wa ha hb ne with m|m
 .exact k2 _ m (CD z)
 .refine k2 _ m (CD ?_);show Al b a x%p=0;rw[<-Ws,Wq,Ws];exact SZ z
theorem Fre.n3(f:Fre p pts):N3 p pts:=n3Z f.nd f.nf f.z0
theorem rV{C:D}{n:Ad}(h:Z.F 194 [T]=.ok .non)(e:Z.F 65 [.int p,T]=.ok .non)(ln:biD .len [T]=.ok (.int n))(hn:n=p+1)(ec:Z.F 224 [.int p,T]=.ok C):IE.run Z [.int p,T]=.ok (.tup [.str (Az "curve"),C]):=by
 subst hn;simp[IE,Df.run,Bo,h,e,ln,ec]
theorem rT{L:D}{n:Ad}(h:Z.F 194 [T]=.ok .non)(e:Z.F 65 [.int p,T]=.ok .non)(ln:biD .len [T]=.ok (.int n))(hn:¬ n=p+1)(ef:Z.F 223 [.int p,T]=.ok L)(lm:biD .len [L]=.ok (.int 0))(ee:Z.F 226 [.int p,T]=.ok X):IE.run Z [.int p,T]=.ok (.tup [.str (Az "ends"),X]):=by
 simp[IE,Df.run,Bo,h,e,ln,hn,ef,lm,ee]
end
section
variable{p:Ad}
noncomputable def pdL(l:Ac Ad):Ad:=l.foldr (· * ·) 1
theorem TV{x:Ad}:∀{l:Ac Ad},x∈l->pdL l=x*pdL (l.erase x)
 |y::l,h=>by
  by_cases e:y=x
  .subst e;rw[List.erase_cons_head];rfl
  .have hx:x∈l:=(Av.mp h).resolve_left (λz=>e z.symm)
   rw[List.erase_cons_tail (by simpa using e)]
   show y*pdL l=x*(y*pdL (l.erase x));rw[TV hx];grind
theorem UQ:∀{l1 l2:Ac Ad},l1.Nodup->(∀ x∈l1,x∈l2)->l1.length=l2.length->pdL l1=pdL l2
 |[],l2,_,_,e=>by rw[List.length_eq_zero_iff.mp e.symm]
 |x::l1,l2,nd,h,e=>by
  obtain⟨n1,n2⟩:=BM.mp nd;have hx:=h x Ax;rw[TV hx,<-UQ (l2:=l2.erase x) n2 (λy hy=>(XQ (fun(e:y=x)=>n1 (e ▸ hy))).mpr (h y (At _ hy))) (by rw[Cu hx];rw[BE]at e;omega)]
  rfl
noncomputable def nzL(p:Ad):Ac Ad:=(AT (p-1).toNat).map fun(n:Ag)=>(n:Ad)+1
theorem uV(hp:P4 p){L:Ac Ad}(nd:L.Nodup)(len:(L.length:Ad)=p-1)(h:∀ x∈L,0<=x/\x<p/\x≠0):Cg p (pdL L) (-1):=by
 have l2:(nzL p).length=(p-1).toNat:=by unfold nzL;rw[AV,E0]
 rw[UQ nd (l2:=nzL p) (λx hx=>by
  obtain⟨h0,h1,h2⟩:=h x hx;exact Bb.mpr ⟨(x-1).toNat,A3.mpr (by omega),by omega⟩) (by omega)]
 unfold Cg;rcases hp with rfl|rfl|rfl|rfl<;>decide
theorem W1(hp:P4 p):∃ i:Ad->Ad,∀ n,n%p≠0->Cg p (n*i n) 1:=by
 refine⟨λn=>open Classical in if h:n%p≠0 then HJ (GU hp h) else 0,λn h=>?_⟩
 have s:=DE (GU hp h);show (n*dite _ _ _)%p=1%p;rw[dif_pos h,s.2.2,AG (by decide) (by have:=hp.lo;omega)]
theorem Rj{x y:Ad}(h:Cg p x y):(x-y)%p=0:=Int.emod_eq_emod_iff_emod_sub_eq_zero.mp h
theorem KC{x y:Ad}(h:Cg p y 1):Cg p (x*y) x:=(Cg.rfl.mul h).trans (Cg.of (DJ x))
theorem V9{α:Type}{f g s:α->Ad}:∀(R:Ac α),(∀ x∈R,Cg p (s x*g x) (f x))->Cg p (pdL (R.map s)*pdL (R.map g)) (pdL (R.map f))
 |[],_=>Cg.rfl
 |x::R,h=>by
  have ih:=V9 R λy hy=>h y (At _ hy)
  exact(Cg.of (by show s x*pdL (R.map s)*(g x*pdL (R.map g))=s x*g x*(pdL (R.map s)*pdL (R.map g));grind)).trans ((h x Ax).mul ih)
theorem Rh(hp:P4 p){R:Ac α}(len:(R.length:Ad)=p-2){f g:α->Ad}(hf:∀ x∈R,f x%p≠0)(hg:∀ x∈R,g x%p≠0)(hd:R.Pairwise λx y=>(f x*g y-g x*f y)%p≠0){u:Ad}(hu:u%p≠0)(hv:v%p≠0)(huv:∀ x∈R,(u*f x+v*g x)%p≠0):Cg p (v*pdL (R.map f)) (u*pdL (R.map g)):=by
 obtain⟨i,hi⟩:=W1 hp;have p0:=hp.pos;have nzi:∀ n,n%p≠0->i n%p≠0:=λn hn z=>by
  have e:n*i n%p=1%p:=hi n hn;rw[Bm,z,CP,Bv,AG (by decide) (by have:=hp.lo;omega)]at e
  exact absurd e (by decide)
 have md:∀ n,Cg p (n%p) n:=λn=>AS n (Bu p)
 have rng:∀ n,n%p≠0->0<=n%p/\n%p<p/\n%p≠0:=λn z=>⟨AJ _ (by omega),AF _ p0,z⟩
 have nk:(-v*i u%p)∉R.map λx=>f x*i (g x)%p:=λm=>by
  obtain⟨x,hx,e⟩:=Bb.mp m;have e:Cg p (f x*i (g x)) (-v*i u):=e;have h1:Cg p (u*f x) (-v*g x):=(KC (hi (g x) (hg x hx))).symm.trans ((Cg.of (by grind:u*f x*(g x*i (g x))=u*g x*(f x*i (g x)))).trans ((Cg.rfl.mul e).trans ((Cg.of (by grind:u*g x*(-v*i u)=-v*g x*(u*i u))).trans (KC (hi u hu)))))
  have h2:=Rj h1;rw[show u*f x - -v*g x=u*f x+v*g x by grind]at h2
  exact huv x hx h2
 have nd:(R.map λx=>f x*i (g x)%p).Nodup:=XU.mpr (hd.imp_of_mem λ{x y} hx hy h e=>by
  have e:Cg p (f x*i (g x)) (f y*i (g y)):=e;refine h (Rj ?_);exact(KC (hi (g x) (hg x hx))).symm.trans ((Cg.of (by grind:f x*g y*(g x*i (g x))=g x*g y*(f x*i (g x)))).trans ((Cg.rfl.mul e).trans ((Cg.of (by grind:g x*g y*(f y*i (g y))=g x*f y*(g y*i (g y)))).trans (KC (hi (g y) (hg y hy)))))))
 have w:=uV hp (L:=(-v*i u%p)::R.map λx=>f x*i (g x)%p) (BM.mpr ⟨nk,nd⟩) (by rw[BE,AV];omega) (λx hx=>by
  rcases Av.mp hx with rfl|hx
  .exact rng _ (BL hp (by rw[<-Int.neg_one_mul];exact BL hp hp.m1 hv) (nzi u hu))
  .obtain⟨y,hy,rfl⟩:=Bb.mp hx;exact rng _ (BL hp (hf y hy) (nzi _ (hg y hy))))
 have q:=V9 (p:=p) (f:=f) (g:=g) (s:=λx=>f x*i (g x)%p) R λx hx=>((md _).mul Cg.rfl).trans ((Cg.of (by grind:f x*i (g x)*g x=f x*(g x*i (g x)))).trans (KC (hi (g x) (hg x hx))))
 have w:Cg p (-v*i u%p*pdL (R.map λx=>f x*i (g x)%p)) (-1):=w
 generalize pdL (R.map λx=>f x*i (g x)%p)=S at *
 generalize pdL (R.map f)=F at *;generalize pdL (R.map g)=G at *;have w2:Cg p (-v*i u*S) (-1):=((md _).symm.mul Cg.rfl).trans w;have a1:Cg p (v*F) (v*(S*G)):=Cg.rfl.mul q.symm;have a2:Cg p (v*(S*G)) (v*(S*G)*(u*i u)):=(KC (hi u hu)).symm;have a3:v*(S*G)*(u*i u)=-(u*G)*(-v*i u*S):=by grind
 exact a1.trans (a2.trans ((Cg.of a3).trans ((Cg.rfl.mul w2).trans (Cg.of (by grind)))))
def Tan(p:Ad)(l:Ac R3)(a m:R3):Prop:=Ay m a%p=0/\∀ b∈l,b≠a->Ay m b%p≠0
theorem N2(hp:P4 p){l:Ac R3}(h:N3 p l)(len:(l.length:Ad)=p+1)(ha:a∈l):∃ m,Tan p l a m:=by
 have na:=h.nf a ha;have z0:(0:Ad)%p=0:=Bv p;have er:∀ b,b∈l.erase a->b≠a/\b∈l:=λb hb=>(BO h.nd).mp hb
 obtain⟨m,hm,nm⟩:∃ m∈thr p a,m∉(l.erase a).map λb=>nrm p (crs a b):=by
  refine B4 λz=>?_
  have le:(thr p a).length<=((l.erase a).map λb=>nrm p (crs a b)).length:=NU ((T6 hp).filter _) (λx hx=>B4 λy=>z ⟨x,hx,y⟩)
  rw[AV,Cu ha]at le;have:=Vb hp na;have:=hp.pos;omega
 obtain⟨m1,m2⟩:=Cr.mp hm;have m2:=BG m2;have nfm:=(Gp hp).mp m1;refine⟨m,by rw[HW];exact m2,λb hb ba e=>nm ?_⟩
 obtain⟨j1,j2⟩:=jl hp na (h.nf b hb) (Br ba);refine Bb.mpr ⟨b,(BO h.nd).mpr ⟨ba,hb⟩,Ky hp j1 nfm ?_⟩;refine Mu hp ?_ nfm.2 j1.2;obtain⟨d,_,q0,q1,q2⟩:=j2;have ea:Cg p (Ay a m) 0:=OvC.z0 m2;have eb:Cg p (Ay m b) 0:=OvC.z0 e;have k:∀ x y:Ad,Cg p (d*(x*Ay m b-y*Ay a m)) 0:=λx y=>(Cg.rfl.mul ((Cg.rfl.mul eb).sub (Cg.rfl.mul ea))).trans (Cg.of (by simp))
 generalize nrm p (crs a b)=n at *;unfold AQ at q0 q1 q2;simp only at q0 q1 q2;refine⟨((Cg.rfl.mul q2).sub (Cg.rfl.mul q1)).trans ((Cg.of ?_).trans (k a.1 b.1)),((Cg.rfl.mul q0).sub (Cg.rfl.mul q2)).trans ((Cg.of ?_).trans (k a.2.1 b.2.1)),((Cg.rfl.mul q1).sub (Cg.rfl.mul q0)).trans ((Cg.of ?_).trans (k a.2.2 b.2.2))⟩<;>(unfold crs Ay;simp only;clear k ea eb q0 q1 q2;grind)
theorem KH(a b c x t:R3):Al a b c*Ay t x=Al x b c*Ay t a+Al a x c*Ay t b+Al a b x*Ay t c:=by
 unfold Al det Ay;grind
theorem gp1(a b c x y:R3):Al a x c*Al a b y-Al a b x*Al a y c=Al a b c*Al a x y:=by unfold Al det;grind
theorem gp2(a b c x y:R3):Al a b x*Al y b c-Al x b c*Al a b y=Al a b c*Al b x y:=by unfold Al det;grind
theorem gp3(a b c x y:R3):Al x b c*Al a y c-Al a x c*Al y b c=Al a b c*Al c x y:=by unfold Al det;grind
theorem RH(hp:P4 p){l:Ac R3}(h:N3 p l)(len:(l.length:Ad)=p+1){a b c ta tb tc:R3}(ha:a∈l)(hb:b∈l)(hc:c∈l)(ab:a≠b)(ac:a≠c)(bc:b≠c)(Ta:Tan p l a ta)(Tb:Tan p l b tb)(Tc:Tan p l c tc):Cg p (Ay ta c*Ay tb a*Ay tc b) (Ay ta b*Ay tb c*Ay tc a):=by
 have dz:=h.n3 a b c ha hb hc ab ac bc;obtain⟨R,nd,hR,hl⟩:∃ R:Ac R3,R.Nodup/\(∀ x∈R,x∈l/\x≠a/\x≠b/\x≠c)/\(R.length:Ad)=p-2:=by
  refine⟨((l.erase a).erase b).erase c,((h.nd.erase a).erase b).erase c,λx hx=>?_,?_⟩
  .obtain⟨x3,hx⟩:=(BO ((h.nd.erase a).erase b)).mp hx;obtain⟨x2,hx⟩:=(BO (h.nd.erase a)).mp hx;obtain⟨x1,hx⟩:=(BO h.nd).mp hx;exact⟨hx,x1,x2,x3⟩
  .have b1:b∈l.erase a:=(BO h.nd).mpr ⟨Br ab,hb⟩;have c1:c∈(l.erase a).erase b:=(BO (h.nd.erase a)).mpr ⟨Br bc,(BO h.nd).mpr ⟨Br ac,hc⟩⟩;rw[Cu c1,Cu b1,Cu ha];have:=hp.lo;omega
 have z1:∀ x∈R,Al x b c%p≠0:=λx hx=>h.n3 x b c (hR x hx).1 hb hc (hR x hx).2.2.1 (hR x hx).2.2.2 bc
 have z2:∀ x∈R,Al a x c%p≠0:=λx hx=>h.n3 a x c ha (hR x hx).1 hc (Br (hR x hx).2.1) ac (hR x hx).2.2.2
 have z3:∀ x∈R,Al a b x%p≠0:=λx hx=>h.n3 a b x ha hb (hR x hx).1 ab (Br (hR x hx).2.1) (Br (hR x hx).2.2.1)
 have pw:∀{e:R3},e∈l->(∀ x∈R,x≠e)->R.Pairwise λx y=>Al a b c*Al e x y%p≠0:=λ{e} he ne=>nd.imp_of_mem λ{x y} hx hy xy=>BL hp dz (h.n3 e x y he (hR x hx).1 (hR y hy).1 (Br (ne x hx)) (Br (ne y hy)) xy)
 have cut:∀{s:Ad}{x y:Ad},s%p=0->Cg p (x*s+y) y:=λ{s x y} hs=>((Cg.rfl.mul (OvC.z0 hs)).add Cg.rfl).trans (Cg.of (by rw[CP,C0]))
 have s1:=Rh hp hl z2 z3 ((pw ha λx hx=>(hR x hx).2.1).imp λ{x y} q=>by rw[gp1];exact q) (Ta.2 b hb (Br ab)) (Ta.2 c hc (Br ac)) λx hx=>by
  refine G6 (Cg.trans (Cg.trans (Cg.of ?_) (cut (x:=Al x b c) (y:=Al a x c*Ay ta b+Al a b x*Ay ta c) Ta.1).symm) (Cg.of ?_)) (BL hp dz (Ta.2 x (hR x hx).1 (hR x hx).2.1))
  .grind
  .rw[KH a b c x ta];omega
 have s2:=Rh hp hl z3 z1 ((pw hb λx hx=>(hR x hx).2.2.1).imp λ{x y} q=>by rw[gp2];exact q) (Tb.2 c hc (Br bc)) (Tb.2 a ha ab) λx hx=>by
  refine G6 (Cg.trans (Cg.trans (Cg.of ?_) (cut (x:=Al a x c) (y:=Al x b c*Ay tb a+Al a b x*Ay tb c) Tb.1).symm) (Cg.of ?_)) (BL hp dz (Tb.2 x (hR x hx).1 (hR x hx).2.2.1))
  .grind
  .rw[KH a b c x tb];omega
 have s3:=Rh hp hl z1 z2 ((pw hc λx hx=>(hR x hx).2.2.2).imp λ{x y} q=>by rw[gp3];exact q) (Tc.2 a ha ac) (Tc.2 b hb bc) λx hx=>by
  refine G6 (Cg.trans (Cg.trans (Cg.of ?_) (cut (x:=Al a b x) (y:=Al x b c*Ay tc a+Al a x c*Ay tc b) Tc.1).symm) (Cg.of ?_)) (BL hp dz (Tc.2 x (hR x hx).1 (hR x hx).2.2.2))
  .grind
  .rw[KH a b c x tc];omega
 have pz:∀{f:R3->Ad}(S:Ac R3),(∀ x∈S,f x%p≠0)->pdL (S.map f)%p≠0:=λ{f} S=>by
  induction S with
  |nil=>intro _;show (1:Ad)%p≠0;rw[AG (by decide) (by have:=hp.lo;omega)];decide
  |cons x S ih=>exact λhS=>BL hp (hS x Ax) (ih λy hy=>hS y (At _ hy))
 have y1:=pz R z1;have y2:=pz R z2;have y3:=pz R z3;have m:=(s1.mul s2).mul s3;generalize pdL (R.map λx=>Al x b c)=P1 at *
 generalize pdL (R.map λx=>Al a x c)=P2 at *
 generalize pdL (R.map λx=>Al a b x)=P3 at *
 have m2:(P1*P2*P3*(Ay ta c*Ay tb a*Ay tc b-Ay ta b*Ay tb c*Ay tc a))%p=0:=by
  have:=Rj m;rw[<-this]
  congr 1
  grind
 exact Int.emod_eq_emod_iff_emod_sub_eq_zero.mpr ((F2 hp (nz3 hp y1 y2 y3)).mp m2)
noncomputable def sgK(a b c ta tb tc:R3):C6:=⟨0,0,0,Ay ta b*Ay tb a*Ay tc a,Ay ta c*Ay tb a*Ay tc a,Ay ta b*Ay tb c*Ay tc a⟩
noncomputable def sgC(a b c ta tb tc:R3):C6:=pb (sgK a b c ta tb tc) (crs b c) (crs c a) (crs a b)
theorem Ra(a b c ta tb tc x:R3):vI (sgC a b c ta tb tc) x=Ay ta b*Ay tb a*Ay tc a*(Al x b c*Al a x c)+Ay ta c*Ay tb a*Ay tc a*(Al x b c*Al a b x)+Ay ta b*Ay tb c*Ay tc a*(Al a x c*Al a b x):=by
 have e1:Ay (crs b c) x=Al x b c:=by unfold Ay crs Al det;simp only;grind
 have e2:Ay (crs c a) x=Al a x c:=by unfold Ay crs Al det;simp only;grind
 have e3:Ay (crs a b) x=Al a b x:=by unfold Ay crs Al det;simp only;grind
 unfold sgC;rw[WJ];unfold ap;rw[e1,e2,e3];unfold vI sgK;simp only;grind
theorem xF(a b c ta tb tc:R3):Al (tw0 (sgC a b c ta tb tc)) (tw1 (sgC a b c ta tb tc)) (tw2 (sgC a b c ta tb tc))=(Al a b c*Al a b c)*(Al a b c*Al a b c)*(2*((Ay ta b*Ay tb a*Ay tc a)*(Ay ta c*Ay tb a*Ay tc a)*(Ay ta b*Ay tb c*Ay tc a))):=by
 unfold sgC;rw[Wr,show Al (crs b c) (crs c a) (crs a b)=Al a b c*Al a b c by unfold Al det crs;simp only;grind]
 congr 1
 unfold sgK;generalize Ay ta b*Ay tb a*Ay tc a=u;generalize Ay ta c*Ay tb a*Ay tc a=v;generalize Ay ta b*Ay tb c*Ay tc a=w;unfold tw0 tw1 tw2 Al det;simp only;grind
theorem dx3(x u:R3):Al x x u=0/\Al x u x=0/\Al u x x=0:=by
 unfold Al det;refine⟨?_,?_,?_⟩<;>grind
theorem xG{c1 c2 c3 D tPa tPb tPc tPP taP tbP tcP ab ac ba bc ca cb:Ad}(hp:P4 p)(d0:D*tPP=c1*tPa+c2*tPb+c3*tPc)(hP:Cg p tPP 0)(da:Cg p (D*taP) (c2*ab+c3*ac))(db:Cg p (D*tbP) (c1*ba+c3*bc))(dc:Cg p (D*tcP) (c1*ca+c2*cb))(h1:Cg p (taP*ba*tPb) (ab*tbP*tPa))(h2:Cg p (taP*ca*tPc) (ac*tcP*tPa))(h3:Cg p (ac*ba*cb) (ab*bc*ca))(z:tPa%p≠0):(ab*ba*ca*(c1*c2)+ac*ba*ca*(c1*c3)+ab*bc*ca*(c2*c3))%p=0:=by
 have e0:Cg p (c1*tPa+c2*tPb+c3*tPc) 0:=(Cg.of d0.symm).trans ((Cg.rfl.mul hP).trans (Cg.of (CP D)));have e1:Cg p (taP*ba*ca*(c1*tPa+c2*tPb+c3*tPc)) 0:=(Cg.rfl.mul e0).trans (Cg.of (CP _));have e2:Cg p (tPa*(c1*taP*ba*ca+c2*ca*(ab*tbP)+c3*ba*(ac*tcP))) 0:=by
  refine Cg.trans (Cg.trans (Cg.of ?_) (((Cg.rfl (a:=c1*tPa*taP*ba*ca)).add (Cg.rfl (a:=c2*ca) |>.mul h1.symm)).add (Cg.rfl (a:=c3*ba) |>.mul h2.symm))) (Cg.trans (Cg.of ?_) e1)<;>(clear e0 e1 h1 h2 h3 da db dc d0 hP;grind)
 have e3:=(F2 hp z).mp (z0' e2);have e4:Cg p (D*(c1*taP*ba*ca+c2*ca*(ab*tbP)+c3*ba*(ac*tcP))) 0:=(Cg.rfl.mul (OvC.z0 e3)).trans (Cg.of (CP D));have e5:Cg p (c1*ba*ca*(c2*ab+c3*ac)+c2*ca*ab*(c1*ba+c3*bc)+c3*ba*ac*(c1*ca+c2*cb)) 0:=by
  refine Cg.trans (((Cg.rfl.mul da.symm).add (Cg.rfl.mul db.symm)).add (Cg.rfl.mul dc.symm)) (Cg.trans (Cg.of ?_) e4)
  clear e0 e1 e2 e3 e4 h1 h2 h3 da db dc d0 hP;grind
 have e6:Cg p (2*(ab*ba*ca*(c1*c2)+ac*ba*ca*(c1*c3)+ab*bc*ca*(c2*c3))) 0:=by
  refine Cg.trans (Cg.trans (Cg.of ?_) ((Cg.rfl (a:=c1*ba*ca*(c2*ab+c3*ac)+c2*ca*ab*(c1*ba+c3*bc)+c3*ba*ac*(c1*ca))).add (Cg.rfl (a:=c2*c3) |>.mul h3.symm))) (Cg.trans (Cg.of ?_) e5)<;>(clear e0 e1 e2 e3 e4 e5 h1 h2 h3 da db dc d0 hP;grind)
 exact(F2 hp (by rcases hp with rfl|rfl|rfl|rfl<;>decide)).mp (z0' e6)
theorem gq(hp:P4 p){l:Ac R3}(h:N3 p l)(len:(l.length:Ad)=p+1){a b c:R3}(ha:a∈l)(hb:b∈l)(hc:c∈l)(ab:a≠b)(ac:a≠c)(bc:b≠c):∃ C α β γ,InC p C/\AX p C.l=Ab 1/\Whl p C/\(∀ x∈l,vI C x%p=0)/\α%p≠0/\PrC p C (pb ⟨0,0,0,α,β,γ⟩ (crs b c) (crs c a) (crs a b))/\∀ x∈l,(α*(Al x b c*Al a x c)+β*(Al x b c*Al a b x)+γ*(Al a x c*Al a b x))%p=0:=by
 obtain⟨ta,Ta⟩:=N2 hp h len ha;obtain⟨tb,Tb⟩:=N2 hp h len hb;obtain⟨tc,Tc⟩:=N2 hp h len hc;have dz:=h.n3 a b c ha hb hc ab ac bc;have on:∀ x∈l,vI (sgC a b c ta tb tc) x%p=0:=λx hx=>by
  rw[Ra];by_cases xa:x=a
  .subst xa;rw[(dx3 x c).1,(dx3 x b).2.1];simp
  by_cases xb:x=b
  .subst xb;rw[(dx3 x c).1,(dx3 x a).2.2];simp
  by_cases xc:x=c
  .subst xc;rw[(dx3 x b).2.1,(dx3 x a).2.2];simp
  obtain⟨tx,Tx⟩:=N2 hp h len hx;have cut:∀{s:Ad}{x y:Ad},s%p=0->Cg p (x*s+y) y:=λ{s x y} hs=>((Cg.rfl.mul (OvC.z0 hs)).add Cg.rfl).trans (Cg.of (by rw[CP,C0]))
  refine xG hp (KH a b c x tx) (OvC.z0 Tx.1) ((Cg.of ?_).trans (cut (x:=Al x b c) Ta.1)) ((Cg.of ?_).trans (cut (x:=Al a x c) Tb.1)) ((Cg.of ?_).trans (cut (x:=Al a b x) Tc.1)) (RH hp h len ha hb hx ab (Br xa) (Br xb) Ta Tb Tx) (RH hp h len ha hc hx ac (Br xa) (Br xc) Ta Tc Tx) (RH hp h len ha hb hc ab ac bc Ta Tb Tc) (Tx.2 a ha (Br xa))
  .rw[KH a b c x ta];omega
  .rw[KH a b c x tb];omega
  .rw[KH a b c x tc];omega
 have nz:∃ k,AX p (sgC a b c ta tb tc).l=Ab k:=by
  cases q:AX p (sgC a b c ta tb tc).l with
  |some k=>exact⟨k,rfl⟩
  |none=>
   exfalso
   have z:=Jo.mp q;have k:∀{n:Ad},n∈(sgC a b c ta tb tc).l->Cg p n 0:=λhn=>OvC.z0 (z _ hn)
   have q2:CgC p (sgC a b c ta tb tc) ⟨0,0,0,0,0,0⟩:=⟨k (by simp[C6.l]),k (by simp[C6.l]),k (by simp[C6.l]),k (by simp[C6.l]),k (by simp[C6.l]),k (by simp[C6.l])⟩
   have v:=Jr (x:=(a.1+b.1,a.2.1+b.2.1,a.2.2+b.2.2)) (x':=(a.1+b.1,a.2.1+b.2.1,a.2.2+b.2.2)) q2 ⟨Cg.rfl,Cg.rfl,Cg.rfl⟩;rw[Ra]at v;have e1:Al (a.1+b.1,a.2.1+b.2.1,a.2.2+b.2.2) b c=Al a b c:=by unfold Al det;simp only;grind
   have e2:Al a (a.1+b.1,a.2.1+b.2.1,a.2.2+b.2.2) c=Al a b c:=by unfold Al det;simp only;grind
   have e3:Al a b (a.1+b.1,a.2.1+b.2.1,a.2.2+b.2.2)=0:=by unfold Al det;simp only;grind
   rw[e1,e2,e3]at v;refine BL hp (nz3 hp (Ta.2 b hb (Br ab)) (Tb.2 a ha ab) (Tc.2 a ha ac)) (BL hp dz dz) (z0' ((Cg.of ?_).trans (v.trans (Cg.of ?_))))
   .simp
   .unfold vI;simp
 obtain⟨k,el⟩:=nz;obtain⟨t,D,it,eD,iD,lD,pD⟩:=RV hp el;refine⟨D,_,_,_,iD,lD,Ul hp pD ?_,λx hx=>?_,nz3 hp (Ta.2 b hb (Br ab)) (Tb.2 a ha ab) (Tc.2 a ha ac),pD,λx hx=>by rw[<-Ra];exact on x hx⟩
 .have tz:=Ta.2 b hb (Br ab);have tz':=Ta.2 c hc (Br ac);have uz:=Tb.2 a ha ab;have uz':=Tb.2 c hc (Br bc);have vz:=Tc.2 a ha ac;rw[xF];exact BL hp (BL hp (BL hp dz dz) (BL hp dz dz)) (BL hp (by rcases hp with rfl|rfl|rfl|rfl<;>decide) (nz3 hp (nz3 hp tz uz vz) (nz3 hp tz' uz vz) (nz3 hp tz uz' vz)))
 obtain⟨d,dz,q⟩:=pD;have q:=Jr (x:=x) (x':=x) q ⟨Cg.rfl,Cg.rfl,Cg.rfl⟩;rw[Rb]at q;rw[show vI D x%p=_ from q]
 exact(F2 hp dz).mpr (on x hx)
end
section
variable{Z:Gam}{p:Ad}
theorem Lv{D Le Me l m A B G d1 d2 d3 e1 e2 e3 α β γ i:Ad}(hL:D*l=d1*G + -d2*B)(hM:D*m=d1*G + -d3*A)(hLe:D*Le=e3*(d1*e2-d2*e1))(hMe:D*Me=e2*(d1*e3-d3*e1))(hd:Cg p (α*(d1*d2)+β*(d1*d3)+γ*(d2*d3)) 0)(he:Cg p (α*(e1*e2)+β*(e1*e3)+γ*(e2*e3)) 0)(hi:Cg p (α*(D*D)*i) 1):Cg p (Me*l + -Le*m) (i*(d3*e3*(d1*e2-d2*e1))*(α*A+β*B+γ*G)):=by
 have e1':α*(D*D)*(Me*l + -Le*m)=α*((D*Me)*(D*l)-(D*Le)*(D*m)):=by clear hd he hi hL hM hLe hMe;grind
 rw[hL,hM,hLe,hMe]at e1';generalize hu:α*(d1*d2)+β*(d1*d3)+γ*(d2*d3)=vu at *;generalize hw:α*(e1*e2)+β*(e1*e3)+γ*(e2*e3)=vw at *;have e2':α*(D*D)*(Me*l + -Le*m)=d3*e3*(d1*e2-d2*e1)*(α*A+β*B+γ*G)-((B*(e2*e3)-G*(e1*e3))*vu+(G*(d1*d3)-B*(d2*d3))*vw):=by
  rw[e1',<-hu,<-hw];clear hd he hi hL hM hLe hMe e1' hu hw;grind
 have e3':Cg p (α*(D*D)*(Me*l + -Le*m)) (d3*e3*(d1*e2-d2*e1)*(α*A+β*B+γ*G)):=(Cg.of e2').trans ((Cg.rfl.sub ((Cg.rfl.mul hd).add (Cg.rfl.mul he))).trans (Cg.of (by simp)))
 exact(KC hi).symm.trans ((Cg.of (by clear hd he hi hL hM hLe hMe e1' e2' e3' hu hw;grind)).trans ((Cg.rfl (a:=i).mul e3').trans (Cg.of (by clear hd he hi hL hM hLe hMe e1' e2' e3' hu hw;grind))))
theorem d6(hp:P4 p){a b c d e:R3}{α β γ:Ad}(az:α%p≠0)(dz:Al a b c%p≠0)(nd:Al a b d%p≠0)(ne:Al a b e%p≠0)(nc:Al c d e%p≠0)(hd:(α*(Al d b c*Al a d c)+β*(Al d b c*Al a b d)+γ*(Al a d c*Al a b d))%p=0)(he:(α*(Al e b c*Al a e c)+β*(Al e b c*Al a b e)+γ*(Al a e c*Al a b e))%p=0):PrC p (Fc a b c d e) (pb ⟨0,0,0,α,β,γ⟩ (crs b c) (crs c a) (crs a b)):=by
 obtain⟨iv,hiv⟩:=W1 hp;have hi:=hiv _ (BL hp az (BL hp dz dz));have iz:iv (α*(Al a b c*Al a b c))%p≠0:=λz=>by
  have q:_%p=1%p:=hi;rw[Bm,z,CP,Bv,AG (by decide) (by have:=hp.lo;omega)]at q
  exact absurd q (by decide)
 have gz:Al d b c*Al a e c-Al a d c*Al e b c=Al a b c*Al c d e:=gp3 a b c d e;refine⟨iv (α*(Al a b c*Al a b c))*(Al a b d*Al a b e*(Al d b c*Al a e c-Al a d c*Al e b c)),BL hp iz (BL hp (BL hp nd ne) (by rw[gz];exact BL hp dz nc)),?_⟩
 have hLe:Al a b c*vI (prd (crs a b) (crs c d)) e=Al a b e*(Al d b c*Al a e c-Al a d c*Al e b c):=by
  rw[Wx,M3,M3,gz];grind
 have hMe:Al a b c*vI (prd (crs a c) (crs b d)) e=Al a e c*(Al d b c*Al a b e-Al a b d*Al e b c):=by
  have g2:=gp2 a b c d e;have sw:Al a c e=-Al a e c:=by unfold Al det;grind
  rw[Wx,M3,M3,sw];generalize Al a b c=D at *;generalize Al a b d=d3 at *;generalize Al e b c=e1 at *;generalize Al d b c=d1 at *;generalize Al a b e=e3 at *;generalize Al b d e=g at *;grind
 have L:=bJ a b c d;have M:=bG a b c d;rw[kE];unfold Fc;generalize vI (prd (crs a c) (crs b d)) e=Me at *;generalize vI (prd (crs a b) (crs c d)) e=Le at *;generalize prd (crs a b) (crs c d)=Lc at *;generalize prd (crs a c) (crs b d)=Mc at *;generalize prd (crs c a) (crs a b)=G at *;generalize prd (crs b c) (crs c a)=A at *;generalize prd (crs b c) (crs a b)=B at *;simp only[scC,lc2,C6.mk.injEq]at L M;obtain⟨l0,l1,l2,l3',l4,l5⟩:=L;obtain⟨m0,m1,m2,m3,m4,m5⟩:=M;exact⟨Lv l0 m0 hLe hMe (z0 hd) (z0 he) hi,Lv l1 m1 hLe hMe (z0 hd) (z0 he) hi,Lv l2 m2 hLe hMe (z0 hd) (z0 he) hi,Lv l3' m3 hLe hMe (z0 hd) (z0 he) hi,Lv l4 m4 hLe hMe (z0 hd) (z0 he) hi,Lv l5 m5 hLe hMe (z0 hd) (z0 he) hi⟩
theorem nd5{a b c d e:α}(h:[a,b,c,d,e].Nodup):(a≠b/\a≠c/\a≠d/\a≠e)/\(b≠c/\b≠d/\b≠e)/\(c≠d/\c≠e)/\d≠e:=by
 simpa only[BM,Av,AR,BQ,DB,n6,G2,KJ] using h
theorem mn(hm:Ho Z){a b c d e:R3}(hp:P4 p)(h:N3 p [a,b,c,d,e]):Mk.run Z [.int p,Au [a,b,c,d,e]]=.ok .non:=by
 obtain⟨⟨n01,n02,n03,n04⟩,⟨n12,n13,n14⟩,⟨n23,n24⟩,n34⟩:=nd5 h.nd;have m:∀{x y z:R3},x∈[a,b,c,d,e]->y∈[a,b,c,d,e]->z∈[a,b,c,d,e]->Z.F 61 [.int p,Aj Aa x,Aj Aa y,Aj Aa z]=.ok (.int (Al x y z%p)):=λhx hy hz=>hm p Aa _ _ _ hp.pos ((Cd hp (h.nf _ hx).1).b3 (by decide)) ((Cd hp (h.nf _ hy).1).b3 (by decide)) ((Cd hp (h.nf _ hz).1).b3 (by decide))
 have z:∀{x y u:R3}{q:Prop},x∈[a,b,c,d,e]->y∈[a,b,c,d,e]->u∈[a,b,c,d,e]->x≠y->x≠u->y≠u->¬ (Al x y u%p=0/\q):=λhx hy hu n1 n2 n3 w=>h.n3 _ _ _ hx hy hu n1 n2 n3 w.1
 have ma:a∈[a,b,c,d,e]:=by simp
 have mb:b∈[a,b,c,d,e]:=by simp
 have mc:c∈[a,b,c,d,e]:=by simp
 have md:d∈[a,b,c,d,e]:=by simp
 have me:e∈[a,b,c,d,e]:=by simp
 rw[P9];exact dB (m ma mb mc) (m ma mb md) (m ma mb me) (m ma mc md) (m ma mc me) (m mb mc md) (m mb mc me) (z ma mb mc n01 n02 n12) (z ma mb mc n01 n02 n12) (z ma mb md n01 n03 n13) (z ma mc md n02 n03 n23) (z mb mc md n12 n13 n23)
theorem mr(hj:Oc Z)(hl:V7 Z)(hv:V5 Z)(hc:Od Z){a b c d e:R3}(hp:P4 p)(iC:InC p C)(lC:AX p C.l=Ab 1)(h:N3 p [a,b,c,d,e])(fp:PrC p (Fc a b c d e) C):Mj.run Z [.int p,Au [a,b,c,d,e]]=.ok (BW C):=by
 obtain⟨⟨n01,n02,n03,n04⟩,⟨n12,n13,n14⟩,⟨n23,n24⟩,n34⟩:=nd5 h.nd;have na:=h.nf a (by simp)
 have nb:=h.nf b (by simp)
 have nc:=h.nf c (by simp)
 have nd:=h.nf d (by simp)
 have ne:=h.nf e (by simp)
 obtain⟨y01,i01,_,p01,e01⟩:=hj p a b hp na.1 nb.1 na.2 nb.2 n01;obtain⟨y23,i23,_,p23,e23⟩:=hj p c d hp nc.1 nd.1 nc.2 nd.2 n23;obtain⟨y02,i02,_,p02,e02⟩:=hj p a c hp na.1 nc.1 na.2 nc.2 n02;obtain⟨y13,i13,_,p13,e13⟩:=hj p b d hp nb.1 nd.1 nb.2 nd.2 n13;have pr:=(d8 hp (U_7 hp p01 p23) (U_7 hp p02 p13) e).trans hp fp;obtain⟨l,el⟩:=jN hp lC pr;obtain⟨t,D,it,eD,iD,lD,pD⟩:=RV hp el;have ec:=hc p Ae _ l t hp el it;rw[eD]at ec;have eq:=gE hp iD iC lD lC (pD.trans hp pr);subst eq;have bd:∀ n:Ad,Bd 10 (n%p):=λn=>J2 hp (AJ _ (by have:=hp.pos;omega)) (AF _ hp.pos)
 rw[P9];exact d7 (Oh hp i01 i23) (Oh hp i02 i13) (bd _) (bd _) e01 e23 (hl p _ _ hp i01 i23) e02 e13 (hl p _ _ hp i02 i13) (hv p _ _ hp (Oh hp i02 i13) ne.1) (hv p _ _ hp (Oh hp i01 i23) ne.1) ec
def sF(Z:Gam):Prop:=∀(p:Ad)(C:C6)(a b c d e:R3),P4 p->InC p C->AX p C.l=Ab 1->N3 p [a,b,c,d,e]->PrC p (Fc a b c d e) C->Z.F 198 [.int p,Au [a,b,c,d,e]]=.ok (BW C)
end
section
variable{Z:Gam}{p:Ad}{pts:Ac R3}
theorem cz(hp:P4 p)(h:Hw p f0 f1 f2 f3):Led p (fr0 p f0 f1 f2 f3) (fr1 p f0 f1 f2 f3) (fr2 p f0 f1 f2 f3) e0R e1R e2R e3R f0 f1 f2 f3:=by
 obtain⟨h1,h2,h3,h4⟩:=h;have k0:Al f3 f1 f2%p≠0:=by rw[show Al f3 f1 f2=Al f1 f2 f3 by unfold Al det;grind];exact h4
 have k1:Al f0 f3 f2%p≠0:=by rw[show Al f0 f3 f2=-1*Al f0 f2 f3 by unfold Al det;grind];exact BL hp hp.m1 h3
 refine⟨Pr.symm hp ⟨fk0 p f0 f1 f2 f3,LC k0,CgR.of ?_⟩,Pr.symm hp ⟨fk1 p f0 f1 f2 f3,LC k1,CgR.of ?_⟩,Pr.symm hp ⟨fk2 p f0 f1 f2 f3,LC h2,CgR.of ?_⟩,Pr.symm hp ⟨Al f0 f1 f2,h1,?_⟩⟩
 .unfold ap fr0 fr1 fr2 BD Bx Bz fs0 fs1 fs2 e0R Ay AQ;simp
 .unfold ap fr0 fr1 fr2 BD Bx Bz fs0 fs1 fs2 e1R Ay AQ;simp
 .unfold ap fr0 fr1 fr2 BD Bx Bz fs0 fs1 fs2 e2R Ay AQ;simp
 .have w:=aS f0 f1 f2 f3;rw[w];have m0:Cg p (fk0 p f0 f1 f2 f3) (Al f3 f1 f2):=Cg.md rfl;have m1:Cg p (fk1 p f0 f1 f2 f3) (Al f0 f3 f2):=Cg.md rfl;have m2:Cg p (fk2 p f0 f1 f2 f3) (Al f0 f1 f3):=Cg.md rfl;unfold ap fr0 fr1 fr2 BD Bx Bz fs0 fs1 fs2 e3R Ay AQ;simp only[DJ];exact⟨((m0.mul Cg.rfl).add (m1.mul Cg.rfl)).add (m2.mul Cg.rfl),((m0.mul Cg.rfl).add (m1.mul Cg.rfl)).add (m2.mul Cg.rfl),((m0.mul Cg.rfl).add (m1.mul Cg.rfl)).add (m2.mul Cg.rfl)⟩
theorem Vs(hp:P4 p)(h:Hw p f0 f1 f2 f3):∃ a b c,GoodR p a b c/\Led p a b c e0R e1R e2R e3R f0 f1 f2 f3:=by
 obtain⟨l,t,_,_,tz,gd,l1⟩:=Ud hp (RU hp h);obtain⟨q0,q1,q2,q3⟩:=cz hp h;have k:∀ x,Pr p (ap (fr0 p f0 f1 f2 f3) (fr1 p f0 f1 f2 f3) (fr2 p f0 f1 f2 f3) x) (ap (fmR p t (fr0 p f0 f1 f2 f3)) (fmR p t (fr1 p f0 f1 f2 f3)) (fmR p t (fr2 p f0 f1 f2 f3)) x):=λx=>Pr.symm hp (Pr.tab tz (Fa p t _) (Fa p t _) (Fa p t _))
 exact⟨_,_,_,gd,q0.trans hp (k _),q1.trans hp (k _),q2.trans hp (k _),q3.trans hp (k _)⟩
theorem gY(hk:Sa Z)(hf:O4 Z)(hb:Oe Z)(ha:QX Z){g0 g1 g2 g3:R3}(hp:P4 p)(F:Frm p f0 f1 f2 f3)(G:Frm p g0 g1 g2 g3):∃ a b c,GoodR p a b c/\Led p a b c f0 f1 f2 f3 g0 g1 g2 g3/\K1.run Z [.int p,EE f0 f1 f2 f3,EE g0 g1 g2 g3]=.ok (Co a b c):=by
 obtain⟨a,b,c,T,L⟩:=Vs hp F.gen;obtain⟨a',b',c',T',L'⟩:=Vs hp G.gen;obtain⟨x,y,z,gT,l1,Ld⟩:=jm hp T T' L L';refine⟨x,y,z,gT,Ld,?_⟩;obtain⟨⟨d0,n0,h0⟩,⟨d1,n1,h1⟩,⟨d2,n2,h2⟩,⟨d3,n3,h3⟩⟩:=Ld;exact pL hk hf hb ha gT.p4 gT.ia gT.ib gT.ic gT.nz l1 F.i0 F.i1 F.i2 F.i3 F.gen G.i0 G.i1 G.i2 G.i3 n0 n1 n2 n3 h0 h1 h2 h3
structure HC74 (Z:Gam):Prop where
 pc:∀ p,P4 p->Z.F 123 [.int p]=.ok (BW (pl p))
 po:∀ p C,P4 p->InC p C->Z.F 128 [.int p,BW C]=.ok (Au (OP p C))
 mv:∀(p:Ad)(f0 f1 f2 f3 g0 g1 g2 g3:R3),P4 p->Frm p f0 f1 f2 f3->Frm p g0 g1 g2 g3->∃ a b c,GoodR p a b c/\Led p a b c f0 f1 f2 f3 g0 g1 g2 g3/\Z.F 112 [.int p,EE f0 f1 f2 f3,EE g0 g1 g2 g3]=.ok (Co a b c)
 md:∀(p:Ad)(C:C6)(a b c:R3),InC p C->AX p C.l=Ab 1->GoodR p a b c->∃ E:C6,InC p E/\AX p E.l=Ab 1/\PrC p E (pb C (bk0 a b c) (bk1 a b c) (bk2 a b c))/\Z.F 133 [.int p,BW C,Co a b c]=.ok (BW E)
 th:sF Z
theorem zD(h:HC74 Z)(hp:P4 p)(n3:N3 p pts)(hl:(pts.length:Ad)=p+1):∃ C:C6,InC p C/\AX p C.l=Ab 1/\Whl p C/\(∀ x∈pts,vI C x%p=0)/\Kl.run Z [.int p,Au pts]=.ok (BW C):=by
 have ln:=Iz pts;by_cases p3:p=3
 .subst p3;obtain⟨a,b,c,d,rfl⟩:=bK (l:=pts) (by omega)
  have nd:=n3.nd;simp only[BM,Av,AR,BQ,DB,n6,G2,KJ]at nd;obtain⟨⟨n01,n02,n03⟩,⟨n12,n13⟩,n23⟩:=nd;have G:Frm 3 a b c d:=⟨(n3.nf _ (by simp)).1,(n3.nf _ (by simp)).1,(n3.nf _ (by simp)).1,(n3.nf _ (by simp)).1,n3.n3 _ _ _ (by simp) (by simp) (by simp) n01 n02 n12,n3.n3 _ _ _ (by simp) (by simp) (by simp) n01 n03 n13,n3.n3 _ _ _ (by simp) (by simp) (by simp) n02 n03 n23,n3.n3 _ _ _ (by simp) (by simp) (by simp) n12 n13 n23⟩
  have F:Frm 3 (0,0,1) (1,0,0) (1,1,1) (1,2,1):=⟨by unfold In3;decide,by unfold In3;decide,by unfold In3;decide,by unfold In3;decide,by unfold Hw;decide⟩
  have iC:InC 3 (pl 3):=by unfold InC;decide
  have lC:AX 3 (pl 3).l=Ab 1:=by decide
  have wC:Whl 3 (pl 3):=by unfold Whl;decide
  have po:=h.po 3 (pl 3) hp iC;rw[show OP 3 (pl 3)=[(0,0,1),(1,0,0),(1,1,1),(1,2,1)] by decide]at po
  obtain⟨x,y,z,gT,L,mv⟩:=h.mv 3 _ _ _ _ _ _ _ _ hp F G;obtain⟨E,iE,lE,pE,md⟩:=h.md 3 (pl 3) x y z iC lC gT;have zB:Al (bk0 x y z) (bk1 x y z) (bk2 x y z)%3≠0:=by rw[Lq];exact BL hp gT.nz gT.nz
  have on:∀{f g:R3},vI (pl 3) f%3=0->Pr 3 g (ap x y z f)->vI E g%3=0:=λ{f g} hf hg=>by
   rw[WI hp hg];obtain⟨d,dz,q⟩:=pE;have q:=Jr (x:=ap x y z f) (x':=ap x y z f) q ⟨Cg.rfl,Cg.rfl,Cg.rfl⟩;rw[Rb]at q;rw[show vI E (ap x y z f)%3=_ from q]
   refine(F2 hp dz).mpr ?_;rw[WJ,OG];exact(WI hp ⟨Al x y z,gT.nz,CgR.rfl⟩).mpr hf
  refine⟨E,iE,lE,Ul hp pE (uW hp zB wC),λu hu=>?_,wQ ln (by simp) (h.pc 3 hp) po mv md⟩
  simp only[Av,AR,BQ]at hu;rcases hu with rfl|rfl|rfl|rfl
  .exact on (by decide) L.h0
  .exact on (by decide) L.h1
  .exact on (by decide) L.h2
  .exact on (by decide) L.h3
 .have p5:5<=p:=by rcases hp with rfl|rfl|rfl|rfl<;>omega
  have sl:=Om pts (i:=5) (by decide)
  obtain⟨a,b,c,d,e,e5⟩:=dD (l:=pts.take 5) (by rw[Ez];omega)
  have s5:N3 p [a,b,c,d,e]:=by rw[<-e5];exact n3.sub (Hz 5 pts)
  have mm:∀ x∈[a,b,c,d,e],x∈pts:=λx hx=>List.mem_of_mem_take (e5 ▸ hx)
  obtain⟨⟨n01,n02,n03,n04⟩,⟨n12,n13,n14⟩,⟨n23,n24⟩,n34⟩:=nd5 s5.nd;have ma:=mm a (by simp)
  have mb:=mm b (by simp)
  have mc:=mm c (by simp)
  have md:=mm d (by simp)
  have me:=mm e (by simp)
  obtain⟨C,α,β,γ,iC,lC,wC,on,az,pC,q⟩:=gq hp n3 hl ma mb mc n01 n02 n12;have th:=h.th p C _ _ _ _ _ hp iC lC s5 ((d6 hp az (n3.n3 _ _ _ ma mb mc n01 n02 n12) (n3.n3 _ _ _ ma mb md n01 n03 n13) (n3.n3 _ _ _ ma mb me n01 n04 n14) (n3.n3 _ _ _ mc md me n23 n24 n34) (q d md) (q e me)).trans hp (PrC.symm hp pC));rw[<-e5]at th;exact⟨C,iC,lC,wC,on,wO ln (by omega) sl th⟩
end
noncomputable def PN:Df:=⟨12,Ae,(.cons (.asg 3 Aa (.lst (.cons (.lst (.cons (.int 1) (.cons (.int 0) (.cons (.int 0) .nil)))) (.cons (.lst (.cons (.int 0) (.cons (.int 1) (.cons (.int 0) .nil)))) (.cons (.lst (.cons (.int 0) (.cons (.int 0) (.cons (.int 1) .nil)))) .nil))))) (.cons (.fors 4 (.rng (.int 14)) HQ) (.cons (.asg 8 Ae (.bin .Add (.int 1) (.bin .Mod (.call 228 (.cons (.var 1) (.cons (.bin .Add (.var 2) (.int 14)) .nil))) (.bin .Sub (.var 0) (.int 1))))) (.cons (.put 3 (.int 0) (.comp Pi 11 (.e (.idx (.var 3) (.int 0))) B7)) (.cons (.ret (.var 3)) .nil)))))⟩
theorem vS(hm:JY Z 228 ns)(p at_:Ad)(hp:P4 p)(ha:0<=at_):∃ a b c,GoodR p a b c/\PN.run Z [.int p,scr ns,.int at_]=.ok (Fm a b c):=by
 have p0:=hp.pos;have g0:GoodR p e0R e1R e2R:=(qQ hp).1;have rg:CI 0 14=.ok (CK 0 14):=rfl;obtain⟨U',e,a,b,c,s4,s5,s6,s7,s8,g,rfl⟩:=Mr (body:=Bi Z 4 HQ) (λU=>∃ a b c s4 s5 s6 s7 s8,GoodR p a b c/\U=[si p,sh (scr ns),si at_,Ab (.lst (L3 a b c),Aa),s4,s5,s6,s7,s8,Af,Af,Af]) (CK 0 14) [si p,sh (scr ns),si at_,Ab (.lst (L3 e0R e1R e2R),Aa),Af,Af,Af,Af,Af,Af,Af,Af] ⟨_,_,_,_,_,_,_,_,g0,rfl⟩ (by
  rintro x hx U ⟨a,b,c,s4,s5,s6,s7,s8,g,rfl⟩;obtain⟨k,_,rfl⟩:=UX hx;obtain⟨a',b',c',v5,v6,v7,v8,g',e⟩:=nC (s4:=s4) (s5:=s5) (s6:=s6) (s7:=s7) (s8:=s8) hm g ha (k:=0+(k:Ad)) (by omega)
  exact⟨_,e,a',b',c',_,_,_,_,_,g',rfl⟩)
 obtain⟨m,m0,e2⟩:=hm (at_+14) (by omega)
 have q1:0<p-1:=by have:=hp.lo;omega
 have q2:1<p:=by have:=hp.lo;omega
 have t0:0<1+m%(p-1):=by have:=AJ m (b:=p-1) (by omega);omega
 have t1:1+m%(p-1)<p:=by have:=AF m q1;omega
 generalize ht:1+m%(p-1)=t at t0 t1;have tz:t%p≠0:=by rw[AG (by omega) t1];omega
 have mt:∀ x,DQ t x=Aa:=λx=>G4 (by omega) (by have:=hp.hi;omega)
 refine⟨scR p t a,b,c,g.of (k:=t) tz (cA p t a b c) ⟨gv p0 _ _,g.ib,g.ic⟩,?_⟩;have cp:BK (cG Z [si p,sh (scr ns),si at_,Ab (.lst (L3 a b c),Aa),s4,s5,s6,s7,si t,Af,Af,Af] 11 B7) (cF Z [si p,sh (scr ns),si at_,Ab (.lst (L3 a b c),Aa),s4,s5,s6,s7,si t,Af,Af,Af] 11 Pi) [.int a.1,.int a.2.1,.int a.2.2]=.ok [.int (a.1*t%p),.int (a.2.1*t%p),.int (a.2.2*t%p)]:=by
  refine Kq (φ:=λx=>x*t%p) [a.1,a.2.1,a.2.2] λx _=>⟨rfl,?_⟩
  simp[cF,Pi,mt,p0,BS]
 have e':Cq (Bi Z 4 HQ) (CK 0 14) [si p,sh (scr ns),si at_,Ab (.lst [.lst [.int 1,.int 0,.int 0],.lst [.int 0,.int 1,.int 0],.lst [.int 0,.int 0,.int 1]],Aa),Af,Af,Af,Af,Af,Af,Af,Af]=_:=e;have g0':DA (L3 a b c) 0=.ok (.lst [.int a.1,.int a.2.1,.int a.2.2]):=rfl;have pl:plD (L3 a b c).length 0=Ab 0:=rfl;have out:D.lst ((L3 a b c).set 0 (.lst [.int (a.1*t%p),.int (a.2.1*t%p),.int (a.2.2*t%p)]))=Fm (scR p t a) b c:=rfl
 clear e
 rw[<-out]
 clear out
 generalize L3 a b c=LL at *;generalize CK 0 14=RL at *;generalize scr ns=S at *;simp[PN,Df.run,Bo,DR,rg,e',e2,q1,q2,ht,QM,Dc,g0',pl,cp]
noncomputable def Nl:Df:=⟨8,Ae,(.cons (.asgT [2,3,4,5,6,7] (.var 1)) (.cons (.ret (.lst (.cons (.lst (.cons (.bin .Mod (.bin .Mult (.int 2) (.var 2)) (.var 0)) (.cons (.var 5) (.cons (.var 6) .nil)))) (.cons (.lst (.cons (.var 5) (.cons (.bin .Mod (.bin .Mult (.int 2) (.var 3)) (.var 0)) (.cons (.var 7) .nil)))) (.cons (.lst (.cons (.var 6) (.cons (.var 7) (.cons (.bin .Mod (.bin .Mult (.int 2) (.var 4)) (.var 0)) .nil)))) .nil))))) .nil))⟩
noncomputable def Ph:E:=(.bin .Mult (.var 7) (.var 8))
noncomputable def Nh:Df:=⟨9,Ae,(.cons (.asgT [3,4,5] (.var 2)) (.cons (.asg 6 Ae (.tup (.cons (.bin .Mult (.var 3) (.var 3)) (.cons (.bin .Mult (.var 4) (.var 4)) (.cons (.bin .Mult (.var 5) (.var 5)) (.cons (.bin .Mult (.var 3) (.var 4)) (.cons (.bin .Mult (.var 3) (.var 5)) (.cons (.bin .Mult (.var 4) (.var 5)) .nil)))))))) (.cons (.ret (.bin .Mod (.bi .sum (.cons (.compT Ph [7,8] (.zip (.var 1) (.var 6)) B7) .nil)) (.var 0))) .nil)))⟩
noncomputable def M7:E:=(.cmp .Eq (.call 247 (.cons (.var 0) (.cons (.var 2) (.cons (.var 4) .nil)))) (.int 0))
noncomputable def Mf:Df:=⟨5,Ae,(.cons (.ife (.or (.cons (.cmp .NotEq (.bi .len (.cons (.var 1) .nil)) (.bin .Add (.var 0) (.int 1))) (.cons (.no (.call 237 (.cons (.var 0) (.cons (.var 2) (.cons (.int 6) .nil))))) .nil))) (.cons (.ret (.bl Ae)) .nil) .nil) (.cons (.asg 3 Ae (.call 246 (.cons (.var 0) (.cons (.var 2) .nil)))) (.cons (.ife (.cmp .Eq (.call 233 (.cons (.var 0) (.cons (.call 232 (.cons (.var 0) (.cons (.idx (.var 3) (.int 0)) (.cons (.idx (.var 3) (.int 1)) .nil)))) (.cons (.idx (.var 3) (.int 2)) .nil)))) (.int 0)) (.cons (.ret (.bl Ae)) .nil) .nil) (.cons (.ret (.bi .all (.cons (.comp M7 4 (.e (.var 1)) B7) .nil))) .nil))))⟩
noncomputable def Jj:Ss:=(.cons (.asg 5 Ae (.call 231 (.cons (.var 0) (.cons (.call 228 (.cons (.var 1) (.cons (.bin .Add (.int 40) (.var 4)) .nil))) .nil)))) (.cons (.ife (.cmp .NotIn (.var 5) (.var 2)) (.cons (.ins 2 (.bin .Mod (.call 228 (.cons (.var 1) (.cons (.bin .Add (.int 80) (.var 4)) .nil))) (.bin .Add (.bi .len (.cons (.var 2) .nil)) (.int 1))) (.var 5)) .nil) .nil) .nil))
noncomputable def Kn:Df:=⟨6,Ae,(.cons (.asg 2 Aa (.lst .nil)) (.cons (.ife (.cmp .Gt (.bin .Mod (.call 228 (.cons (.var 1) (.cons (.int 1) .nil))) (.int 3)) (.int 0)) (.cons (.asg 2 Ae (.call 251 (.cons (.var 1) (.cons (.int 20) (.cons (.call 290 (.cons (.var 0) (.cons (.call 250 (.cons (.var 0) (.cons (.var 1) (.cons (.int 120) .nil)))) .nil))) .nil))))) (.cons (.asg 2 Aa (.sl (.var 2) (.bin .Mult (.bin .Mod (.call 228 (.cons (.var 1) (.cons (.int 2) .nil))) (.int 3)) (.bin .Mod (.call 228 (.cons (.var 1) (.cons (.int 10) .nil))) (.bin .Add (.var 0) (.int 2)))) .non)) (.cons (.asg 3 Ae (.bin .Mod (.call 228 (.cons (.var 1) (.cons (.int 11) .nil))) (.int 4))) .nil))) (.cons (.asg 3 Ae (.bin .Mod (.call 228 (.cons (.var 1) (.cons (.int 11) .nil))) (.int 31))) .nil)) (.cons (.fors 4 (.rng (.var 3)) Jj) (.cons (.ret (.var 2)) .nil))))⟩
noncomputable def Mm:Ss:=(.cons (.ife (.cmp .Eq (.call 233 (.cons (.var 0) (.cons (.call 232 (.cons (.var 0) (.cons (.idx (.var 1) (.var 3)) (.cons (.idx (.var 1) (.var 4)) .nil)))) (.cons (.var 2) .nil)))) (.int 0)) (.cons (.ret (.bl Aa)) .nil) .nil) .nil)
noncomputable def Ml:Ss:=(.cons (.fors 4 (.rng2 (.bin .Add (.var 3) (.int 1)) (.bi .len (.cons (.var 1) .nil))) Mm) .nil)
noncomputable def Mi:Df:=⟨5,Ae,(.cons (.fors 3 (.rng (.bi .len (.cons (.var 1) .nil))) Ml) (.cons (.ret (.bl Ae)) .nil))⟩
noncomputable def Md:E:=(.call 237 (.cons (.var 0) (.cons (.var 4) (.cons (.int 3) .nil))))
noncomputable def L7:Df:=⟨5,Ae,(.cons (.ife (.or (.cons (.no (.isi (.var 3) [.tuple])) (.cons (.cmp .NotEq (.bi .len (.cons (.var 3) .nil)) (.int 3)) (.cons (.cmp .NotEq (.idx (.var 3) (.int 0)) (.var 2)) .nil)))) (.cons (.ret (.bl Ae)) .nil) .nil) (.cons (.ife (.or (.cons (.no (.bi .all (.cons (.comp Md 4 (.e (.var 3)) B7) .nil))) (.cons (.cmp .NotIn (.idx (.var 3) (.int 1)) (.var 1)) (.cons (.cmp .NotIn (.idx (.var 3) (.int 2)) (.var 1)) .nil)))) (.cons (.ret (.bl Ae)) .nil) .nil) (.cons (.ret (.and (.cons (.cmp .NotEq (.idx (.var 3) (.int 1)) (.idx (.var 3) (.int 2))) (.cons (.cmp .Eq (.call 233 (.cons (.var 0) (.cons (.call 232 (.cons (.var 0) (.cons (.idx (.var 3) (.int 1)) (.cons (.idx (.var 3) (.int 2)) .nil)))) (.cons (.var 2) .nil)))) (.int 0)) .nil)))) .nil)))⟩
noncomputable def Nb:E:=(.call 231 (.cons (.var 0) (.cons (.var 4) .nil)))
noncomputable def M9:E:=(.cmp .NotIn (.var 5) (.var 1))
noncomputable def Pp:E:=(.var 5)
noncomputable def Na:E:=(.call 256 (.cons (.var 0) (.cons (.var 1) (.cons (.var 6) (.cons (.var 7) .nil)))))
noncomputable def L9:Df:=⟨8,Ae,(.cons (.asg 3 Ae (.comp Nb 4 (.rng (.bin .Add (.bin .Add (.bin .Mult (.var 0) (.var 0)) (.var 0)) (.int 1))) B7)) (.cons (.asg 3 Ae (.comp Pp 5 (.e (.var 3)) M9)) (.cons (.ife (.or (.cons (.no (.isi (.var 2) [.list])) (.cons (.cmp .NotEq (.bi .len (.cons (.var 2) .nil)) (.bi .len (.cons (.var 3) .nil))) (.cons (.cmp .Gt (.bi .len (.cons (.var 1) .nil)) (.var 0)) .nil)))) (.cons (.ret (.bl Ae)) .nil) .nil) (.cons (.ret (.bi .all (.cons (.compT Na [6,7] (.zip (.var 3) (.var 2)) B7) .nil))) .nil))))⟩
noncomputable def Mb:E:=(.call 237 (.cons (.var 0) (.cons (.var 3) (.cons (.int 3) .nil))))
noncomputable def Ma:E:=(.cmp .In (.var 4) (.var 1))
noncomputable def Mh:Df:=⟨5,Ae,(.cons (.ife (.or (.cons (.no (.isi (.var 2) [.tuple])) (.cons (.cmp .NotEq (.bi .len (.cons (.var 2) .nil)) (.int 3)) (.cons (.no (.bi .all (.cons (.comp Mb 3 (.e (.var 2)) B7) .nil))) .nil)))) (.cons (.ret (.bl Ae)) .nil) .nil) (.cons (.ife (.or (.cons (.cmp .NotEq (.bi .lset (.cons (.var 2) .nil)) (.int 3)) (.cons (.no (.bi .all (.cons (.comp Ma 4 (.e (.var 2)) B7) .nil))) .nil))) (.cons (.ret (.bl Ae)) .nil) .nil) (.cons (.ret (.cmp .Eq (.call 233 (.cons (.var 0) (.cons (.call 232 (.cons (.var 0) (.cons (.idx (.var 2) (.int 0)) (.cons (.idx (.var 2) (.int 1)) .nil)))) (.cons (.idx (.var 2) (.int 2)) .nil)))) (.int 0))) .nil)))⟩
section
variable{Z:Gam}{p:Ad}{pts:Ac R3}{ns:Ac Ad}
theorem iI{g:α->Ad}:∀{l:Ac α},Ii (l.map g)=Aa->∀ x∈l,∀ y∈l,g x=g y->x=y:=by
 intro l
 induction l with
 |nil=>intro _ x hx;cases hx
 |cons a r ih=>
  intro h x hx y hy e;obtain⟨h1,h2⟩:=(Ap _ _).mp (show (!(r.map g).contains (g a)&&Ii (r.map g))=Aa from h)
  have na:∀ z∈r,g z≠g a:=λz hz q=>by
   have:(r.map g).contains (g a)=Aa:=List.contains_iff_mem.mpr (q ▸ XS hz);rw[this]at h1;cases h1
  rcases Av.mp hx with hx'|hx'<;>rcases Av.mp hy with hy'|hy'
  .exact hx'.trans hy'.symm
  .exact absurd (hx' ▸ e).symm (na y hy')
  .exact absurd (hy' ▸ e) (na x hx')
  .exact ih h2 x hx' y hy' e
noncomputable def hsR(x:R3):Ad:=Gv [x.1,x.2.1,x.2.2]
theorem ck(hp:P4 p):Ii ((CM p).map hsR)=Aa:=by
 rcases hp with rfl|rfl|rfl|rfl<;>decide+kernel
theorem yW(hp:P4 p){u:R3}(hx:NF p x)(hy:NF p y)(hu:NF p u)(n1:x≠y)(n2:x≠u)(n3:y≠u):biD .lset [.tup [Aj Aa x,Aj Aa y,Aj Aa u]]=.ok (.int 3):=by
 have hs_ne:∀{x y:R3},NF p x->NF p y->x≠y->hsR x≠hsR y:=λ{x y} hx hy ne z=>ne (iI (ck hp) x ((Gp hp).mpr hx) y ((Gp hp).mpr hy) z)
 have h1:=hs_ne hx hy n1;have h2:=hs_ne hx hu n2;have h3:=hs_ne hy hu n3;have k:Ii [hsR x,hsR y,hsR u]=Aa:=by
  simp[Ii,h1,h2,h3]
 show (if (Aa&&Ii [hsR x,hsR y,hsR u])=Aa then R.ok (D.int 3) else R.bad)=_
 rw[k];rfl
theorem vR(nd:pts.Nodup)(h:z0_ p pts=Ab d):∃ x y z,x∈pts/\y∈pts/\z∈pts/\x≠y/\x≠z/\y≠z/\Al x y z%p=0/\d=.tup [Aj Aa x,Aj Aa y,Aj Aa z]:=by
 unfold z0_ at h;obtain⟨i,hi,h⟩:=Ct h;unfold z1_ at h;obtain⟨m,hm,h⟩:=Ct h;unfold z2_ at h;obtain⟨n,hn,h⟩:=Ct h;have a:=A3.mp hi;have b:=A3.mp hm;have c:=A3.mp hn;have mem:∀{k:Ag},k<pts.length->atZ pts k∈pts:=λ{k} hk=>by
  rw[Jp hk];exact Dd hk
 have ne:∀{k l:Ag},k<l->l<pts.length->atZ pts k≠atZ pts l:=λ{k l} h1 h2 z=>by
  rw[Jp (by omega),Jp h2]at z
  have:=(HK nd).mp z;omega
 unfold z3_ at h;split at h
 .rename_i z;cases h;exact⟨_,_,_,mem (by omega),mem (by omega),mem (by omega),ne (by omega) (by omega),ne (by omega) (by omega),ne (by omega) (by omega),z,rfl⟩
 .cases h
def RC(Z:Gam):Prop:=∀(p:Ad)(x:R3),P4 p->NF p x->Z.F 237 [.int p,Aj Aa x,.int 3]=.ok (.bl Aa)
theorem QO{g:D->R Ak}{f:D->R D}{Z_:D}(gx:∀ x,g x=.ok Aa)(h1:f X=.ok (.bl Aa))(h2:f Y_=.ok (.bl Aa))(h3:f Z_=.ok (.bl Aa)):BK g f [X,Y_,Z_]=.ok [.bl Aa,.bl Aa,.bl Aa]:=by
 simp[BK,gx,h1,h2,h3]
theorem wJ{Z_ L:D}(c1:BK (cG Z [si p,sh T,sh (.tup [X,Y_,Z_]),Af,Af] 3 B7) (cF Z [si p,sh T,sh (.tup [X,Y_,Z_]),Af,Af] 3 Mb) [X,Y_,Z_]=.ok [.bl Aa,.bl Aa,.bl Aa])(c2:BK (cG Z [si p,sh T,sh (.tup [X,Y_,Z_]),Af,Af] 4 B7) (cF Z [si p,sh T,sh (.tup [X,Y_,Z_]),Af,Af] 4 Ma) [X,Y_,Z_]=.ok [.bl Aa,.bl Aa,.bl Aa])(ls:biD .lset [.tup [X,Y_,Z_]]=.ok (.int 3))(ec:Z.F 232 [.int p,X,Y_]=.ok L)(es:Z.F 233 [.int p,L,Z_]=.ok (.int 0)):Mh.run Z [.int p,T,.tup [X,Y_,Z_]]=.ok (.bl Aa):=by
 have al:FD [.bl Aa,.bl Aa,.bl Aa]=.ok Aa:=rfl;have ln:biD .len [.tup [X,Y_,Z_]]=.ok (.int 3):=rfl;have it:FQ Z.up [.tuple] (.tup [X,Y_,Z_])=.ok (.bl Aa):=rfl;have x0:B8 (.tup [X,Y_,Z_]) (.int 0)=.ok X:=rfl;have x1:B8 (.tup [X,Y_,Z_]) (.int 1)=.ok Y_:=rfl;have x2:B8 (.tup [X,Y_,Z_]) (.int 2)=.ok Z_:=rfl;have sq:Ch (.tup [X,Y_,Z_])=.ok [X,Y_,Z_]:=rfl;generalize D.tup [X,Y_,Z_]=W at *;simp[Mh,Df.run,Bo,it,ln,sq,c1,al,ls,c2,x0,x1,x2,ec,es]
theorem pP(hf:RC Z)(hc:HV Z)(hs:Hr Z)(hp:P4 p)(np:∀ x∈pts,NF p x){z:R3}(hx:x∈pts)(hy:y∈pts)(hz:z∈pts)(n1:x≠y)(n2:x≠z)(n3:y≠z)(dz:Al x y z%p=0):Mh.run Z [.int p,Au pts,.tup [Aj Aa x,Aj Aa y,Aj Aa z]]=.ok (.bl Aa):=by
 have fd:∀ u∈pts,Z.F 237 [.int p,Aj Aa u,.int 3]=.ok (.bl Aa):=λu hu=>hf p u hp (np u hu)
 have mi:∀ u∈pts,B9 .In (Aj Aa u) (Au pts)=.ok (.bl Aa):=λu hu=>by rw[NM,CD hu]
 have e1:=fd x hx;have e2:=fd y hy;have e3:=fd z hz;have m1:=mi x hx;have m2:=mi y hy;have m3:=mi z hz;have bx:=(Cd hp (np x hx).1).b3 (n:=10) (by decide)
 have bY:=(Cd hp (np y hy).1).b3 (n:=10) (by decide)
 have ec:=hc p Aa Aa x y hp.pos bx bY;have es:=Ro hc hs hp (np x hx).1 (np y hy).1 (np z hz).1;rw[dz]at es;have ls:=yW hp (np x hx) (np y hy) (np z hz) n1 n2 n3;generalize Aj Aa (mdR p (crs x y))=L at *;generalize Au pts=T at *;generalize Aj Aa x=X at *;generalize Aj Aa y=Y_ at *;generalize Aj Aa z=Z_ at *;refine wJ (QO (λ_=>rfl) ?_ ?_ ?_) (QO (λ_=>rfl) ?_ ?_ ?_) ls ec es
 .simp[cF,Mb,e1]
 .simp[cF,Mb,e2]
 .simp[cF,Mb,e3]
 .simp[cF,Ma,m1]
 .simp[cF,Ma,m2]
 .simp[cF,Ma,m3]
end
section
variable{Z:Gam}{p:Ad}{pts:Ac R3}{ns:Ac Ad}
noncomputable def tr0(p:Ad)(C:C6):R3:=(2*C.c0%p,C.c3,C.c4)
noncomputable def tr1(p:Ad)(C:C6):R3:=(C.c3,2*C.c1%p,C.c5)
noncomputable def tr2(p:Ad)(C:C6):R3:=(C.c4,C.c5,2*C.c2%p)
def sE(Z:Gam):Prop:=∀(p:Ad)(C:C6),P4 p->Z.F 246 [.int p,BW C]=.ok (Fm (tr0 p C) (tr1 p C) (tr2 p C))
theorem lK(C:C6)(hp:P4 p):Nl.run Z [.int p,BW C]=.ok (Fm (tr0 p C) (tr1 p C) (tr2 p C)):=by
 obtain⟨c0,c1,c2,c3,c4,c5⟩:=C;have p0:=hp.pos;have m:∀ x,DQ 2 x=Aa:=λx=>G4 (by decide) (by decide)
 have as:∀ U:Rho,Js [2,3,4,5,6,7] (BW ⟨c0,c1,c2,c3,c4,c5⟩) U=.ok ((((((U.set 2 (si c0)).set 3 (si c1)).set 4 (si c2)).set 5 (si c3)).set 6 (si c4)).set 7 (si c5)):=λ_=>rfl
 have e:Fm (tr0 p ⟨c0,c1,c2,c3,c4,c5⟩) (tr1 p ⟨c0,c1,c2,c3,c4,c5⟩) (tr2 p ⟨c0,c1,c2,c3,c4,c5⟩)=.lst [.lst [.int (2*c0%p),.int c3,.int c4],.lst [.int c3,.int (2*c1%p),.int c5],.lst [.int c4,.int c5,.int (2*c2%p)]]:=rfl;rw[e];generalize BW ⟨c0,c1,c2,c3,c4,c5⟩=X at *;simp[Nl,Df.run,Bo,as,m,p0]
def sJ(Z:Gam):Prop:=∀(p:Ad)(C:C6)(x:R3),P4 p->InC p C->In3 p x->Z.F 247 [.int p,BW C,Aj Aa x]=.ok (.int (vI C x%p))
theorem pO(C:C6)(x:R3)(hp:P4 p)(iC:InC p C)(ix:In3 p x):Nh.run Z [.int p,BW C,Aj Aa x]=.ok (.int (vI C x%p)):=by
 have p0:=hp.pos;have bC:=iC.b hp;have bx:=Cd hp ix;have k:∀ {u v},Bd 10 u->Bd 10 v->EM u v=Aa:=λhu hv=>F3 hu hv (by decide) (by decide)
 have k2:∀ {u v w},Bd 10 u->Bd 10 v->Bd 10 w->EM u (v*w)=Aa:=λhu hv hw=>F3 hu (hv.mul hw) (by decide) (by decide)
 obtain⟨c0,c1,c2,c3,c4,c5⟩:=C;obtain⟨x0,x1,x2⟩:=x;have q00:=k bx.1 bx.1;have q11:=k bx.2.1 bx.2.1;have q22:=k bx.2.2 bx.2.2;have q01:=k bx.1 bx.2.1;have q02:=k bx.1 bx.2.2;have q12:=k bx.2.1 bx.2.2;have m0:=k2 bC.b0 bx.1 bx.1;have m1:=k2 bC.b1 bx.2.1 bx.2.1;have m2:=k2 bC.b2 bx.2.2 bx.2.2;have m3:=k2 bC.b3 bx.1 bx.2.1;have m4:=k2 bC.b4 bx.1 bx.2.2;have m5:=k2 bC.b5 bx.2.1 bx.2.2;simp only at q00 q11 q22 q01 q02 q12 m0 m1 m2 m3 m4 m5;have sC:Ch (BW ⟨c0,c1,c2,c3,c4,c5⟩)=.ok [.int c0,.int c1,.int c2,.int c3,.int c4,.int c5]:=rfl;have as:∀ U:Rho,Js [3,4,5] (Aj Aa (x0,x1,x2)) U=.ok (((U.set 3 (si x0)).set 4 (si x1)).set 5 (si x2)):=λ_=>rfl
 have ev:vI ⟨c0,c1,c2,c3,c4,c5⟩ (x0,x1,x2)=c0*(x0*x0)+c1*(x1*x1)+c2*(x2*x2)+c3*(x0*x1)+c4*(x0*x2)+c5*(x1*x2):=by
  unfold vI;simp only;grind
 rw[ev];generalize BW ⟨c0,c1,c2,c3,c4,c5⟩=cC at *;generalize Aj Aa (x0,x1,x2)=xx at *;generalize hz0:x0*x0=z0 at *;generalize hz1:x1*x1=z1 at *;generalize hz2:x2*x2=z2 at *;generalize hz3:x0*x1=z3 at *;generalize hz4:x0*x2=z4 at *;generalize hz5:x1*x2=z5 at *;have cp:BK (cGT Z [si p,sh cC,sh xx,si x0,si x1,si x2,sh (.tup [.int z0,.int z1,.int z2,.int z3,.int z4,.int z5]),Af,Af] [7,8] B7) (cFT Z [si p,sh cC,sh xx,si x0,si x1,si x2,sh (.tup [.int z0,.int z1,.int z2,.int z3,.int z4,.int z5]),Af,Af] [7,8] Ph) (EF [.int c0,.int c1,.int c2,.int c3,.int c4,.int c5] [.int z0,.int z1,.int z2,.int z3,.int z4,.int z5])=.ok [.int (c0*z0),.int (c1*z1),.int (c2*z2),.int (c3*z3),.int (c4*z4),.int (c5*z5)]:=by
  simp[BK,cGT,cFT,EF,Ph,B7,m0,m1,m2,m3,m4,m5]
 generalize hs:c0*z0+c1*z1+c2*z2+c3*z3+c4*z4+c5*z5=s;have sm:GW 0 [.int (c0*z0),.int (c1*z1),.int (c2*z2),.int (c3*z3),.int (c4*z4),.int (c5*z5)]=.ok s:=by rw[<-hs];simp[GW]
 simp[Nh,Df.run,Bo,as,q00,q11,q22,q01,q02,q12,hz0,hz1,hz2,hz3,hz4,hz5,sC,cp,sm,p0]
theorem wP{T C RW R0 R1 R2 L:D}{n:Ad}{xs BB:Ac D}(ln:biD .len [T]=.ok (.int n))(hn:n=p+1)(ef:Z.F 237 [.int p,C,.int 6]=.ok (.bl Aa))(et:Z.F 246 [.int p,C]=.ok RW)(x0:B8 RW (.int 0)=.ok R0)(x1:B8 RW (.int 1)=.ok R1)(x2:B8 RW (.int 2)=.ok R2)(ec:Z.F 232 [.int p,R0,R1]=.ok L)(es:Z.F 233 [.int p,L,R2]=.ok (.int v))(vz:v≠0)(sq:Ch T=.ok xs)(cp:BK (cG Z [si p,sh T,sh C,sh RW,Af] 4 B7) (cF Z [si p,sh T,sh C,sh RW,Af] 4 M7) xs=.ok BB)(al:FD BB=.ok Aa):Mf.run Z [.int p,T,C]=.ok (.bl Aa):=by
 subst hn;simp[Mf,Df.run,Bo,ln,ef,et,x0,x1,x2,ec,es,vz,sq,cp,al]
theorem Wv(L:Ac α):FD (L.map λ_=>D.bl Aa)=.ok Aa:=by
 induction L with
 |nil=>rfl
 |cons x L ih=>rw[Bq];show (FD (L.map λ_=>D.bl Aa)).bind _=_;rw[ih];rfl
theorem pW(hf:VV Z)(ht:sE Z)(hv:sJ Z)(hc:HV Z)(hs:Hr Z)(hp:P4 p)(np:∀ x∈pts,NF p x)(hl:(pts.length:Ad)=p+1)(iC:InC p C)(lC:AX p C.l=Ab 1)(wC:Whl p C)(on:∀ x∈pts,vI C x%p=0):Mf.run Z [.int p,Au pts,BW C]=.ok (.bl Aa):=by
 have p0:=hp.pos;have ef:Z.F 237 [.int p,BW C,.int 6]=.ok (.bl Aa):=hf p C.l p0 iC lC;have et:=ht p C hp;have md:∀ n:Ad,0<=n%p/\n%p<p:=λn=>⟨AJ _ (by omega),AF _ p0⟩
 have i3:=iC C.c3 (by simp[C6.l])
 have i4:=iC C.c4 (by simp[C6.l])
 have i5:=iC C.c5 (by simp[C6.l])
 have b0:B3 (tr0 p C):=(Cd hp (show In3 p (tr0 p C) from ⟨md _,i3,i4⟩)).b3 (by decide)
 have b1:B3 (tr1 p C):=(Cd hp (show In3 p (tr1 p C) from ⟨i3,md _,i5⟩)).b3 (by decide)
 have b2:B3 (tr2 p C):=(Cd hp (show In3 p (tr2 p C) from ⟨i4,i5,md _⟩)).b3 (by decide)
 have ec:=hc p Ae Ae (tr0 p C) (tr1 p C) p0 b0 b1;have es:=hs p Aa Ae (mdR p (crs (tr0 p C) (tr1 p C))) (tr2 p C) p0 ((Cd hp (MT p0 _)).b3 (by decide)) b2
 have q:Ay (mdR p (crs (tr0 p C) (tr1 p C))) (tr2 p C)%p≠0:=by
  have c:=FB (CgR.md (p:=p) (a:=mdR p (crs (tr0 p C) (tr1 p C))) _root_.rfl) (CgR.rfl (a:=tr2 p C));have d:Ay (crs (tr0 p C) (tr1 p C)) (tr2 p C)=Al (tr0 p C) (tr1 p C) (tr2 p C):=by unfold Ay crs Al det;grind
  rw[d]at c;have m:∀ n:Ad,Cg p (n%p) n:=λn=>AS n (Bu p)
  exact G6 (c.trans (Ks (a':=tw0 C) (b':=tw1 C) (c':=tw2 C) ⟨m _,Cg.rfl,Cg.rfl⟩ ⟨Cg.rfl,m _,Cg.rfl⟩ ⟨Cg.rfl,Cg.rfl,m _⟩)) wC
 have cp:=Mv (g:=cG Z [si p,sh (Au pts),sh (BW C),sh (Fm (tr0 p C) (tr1 p C) (tr2 p C)),Af] 4 B7) (f:=cF Z [si p,sh (Au pts),sh (BW C),sh (Fm (tr0 p C) (tr1 p C) (tr2 p C)),Af] 4 M7) (Aj Aa) (λ_=>Aa) (λ_=>D.bl Aa) pts λx hx=>⟨rfl,λ_=>by
  have e:=hv p C x hp iC (np x hx).1;rw[on x hx]at e;generalize Au pts=T;generalize BW C=cC at *;generalize Fm (tr0 p C) (tr1 p C) (tr2 p C)=RR;generalize Aj Aa x=X at *;simp[cF,M7,e]⟩
 exact wP (Iz pts) hl ef et rfl rfl rfl ec es q rfl cp (Wv _)
theorem wH(ln:biD .len [T]=.ok (.int N))(rg:CI 0 N=.ok RL)(e:Cq (Bi Z 3 Ml) RL [si p,sh T,sh X,Af,Af]=.next [si p,sh T,sh X,s3,s4]):Mi.run Z [.int p,T,X]=.ok (.bl Ae):=by
 simp[Mi,Df.run,Bo,ln,rg,e]
theorem wV(hz:pts.length<=1000):CI 0 (pts.length:Ad)=.ok (CK 0 pts.length):=by
 have k:∀(N:Ad)(n:Ag),N=n->N<=1000->CI 0 N=.ok (CK 0 n):=λN n h1 h2=>by
  have:=K4 (lo:=0) (hi:=N) (by decide) (by decide) (by omega) (by omega)
  rwa [E1,show N.toNat=n by omega]at this
 exact k _ _ rfl (by omega)
theorem pJ(hc:HV Z)(hs:Hr Z)(hp:P4 p)(np:∀ x∈pts,NF p x)(hz:pts.length<=1000)(nx:NF p x)(nd:pts.Nodup)(h:∀ a∈pts,∀ b∈pts,a≠b->Al a b x%p≠0):Mi.run Z [.int p,Au pts,Aj Aa x]=.ok (.bl Ae):=by
 have hn:Jv pts.length:=by show pts.length<20000;omega
 have hg:∀ t∈pts,In3 p t:=λt ht=>(np t ht).1
 have in0:∀{i j:Ag}(hi:i<j)(hj:j<pts.length)(s:Sl),Bi Z 4 Mm (.int (j:Ad)) [si p,sh (Au pts),sh (Aj Aa x),si i,s]=.next [si p,sh (Au pts),sh (Aj Aa x),si i,si j]:=λ{i j} hij hj s=>by
  have hi:i<pts.length:=by omega
  have ne:atZ pts i≠atZ pts j:=λz=>by
   rw[Jp hi,Jp hj]at z;have:=(HK nd).mp z;omega
  have mem:∀{k:Ag},k<pts.length->atZ pts k∈pts:=λ{k} hk=>by
   rw[Jp hk];exact Dd hk
  have dz:=h _ (mem hi) _ (mem hj) ne;have e1:=hc p Aa Aa (atZ pts i) (atZ pts j) hp.pos (bZ hp hg hi) (bZ hp hg hj);have e2:=Ro hc hs hp (inZ hg hi) (inZ hg hj) nx.1;have x1:=Gs (pts:=pts) hi;have x2:=Gs (pts:=pts) hj;generalize Aj Aa (mdR p (crs (atZ pts i) (atZ pts j)))=L at *;generalize Aj Aa (atZ pts i)=A at *;generalize Aj Aa (atZ pts j)=B at *;generalize Au pts=T at *;generalize Aj Aa x=X at *;generalize Al (atZ pts i) (atZ pts j) x%p=v at *;simp[Bi,Mm,x1,x2,e1,e2,dz]
 have in1:∀{i:Ag}(hi:i<pts.length)(s3 s4:Sl),∃ s4',Bi Z 3 Ml (.int (0+(i:Ad))) [si p,sh (Au pts),sh (Aj Aa x),s3,s4]=.next [si p,sh (Au pts),sh (Aj Aa x),si i,s4']:=λ{i} hi s3 s4=>by
  rw[C0];have e:Bi Z 3 Ml (.int (i:Ad)) [si p,sh (Au pts),sh (Aj Aa x),s3,s4]=Cq (Bi Z 4 Mm) ((AT (pts.length-(i+1))).map λm=>D.int ((i+1+m:Ag):Ad)) [si p,sh (Au pts),sh (Aj Aa x),si i,s4]:=Lk (Mx hn hi rfl rfl)
  rw[e];obtain⟨U',e2,s,rfl⟩:=Mr (body:=Bi Z 4 Mm) (λU=>∃ s,U=[si p,sh (Au pts),sh (Aj Aa x),si i,s]) ((AT (pts.length-(i+1))).map λm=>D.int ((i+1+m:Ag):Ad)) _ ⟨s4,rfl⟩ λy hy U hρ=>by
   obtain⟨s,rfl⟩:=hρ;obtain⟨m,hm,rfl⟩:=Bb.mp hy;have:=A3.mp hm;exact⟨_,in0 (i:=i) (j:=i+1+m) (by omega) (by omega) s,_,rfl⟩
  exact⟨s,e2⟩
 obtain⟨U',e2,s3,s4,rfl⟩:=Mr (body:=Bi Z 3 Ml) (λU=>∃ s3 s4,U=[si p,sh (Au pts),sh (Aj Aa x),s3,s4]) (CK 0 pts.length) [si p,sh (Au pts),sh (Aj Aa x),Af,Af] ⟨Af,Af,rfl⟩ λy hy U hρ=>by
  obtain⟨s3,s4,rfl⟩:=hρ;obtain⟨m,hm,rfl⟩:=Bb.mp hy;obtain⟨s4',e⟩:=in1 (A3.mp hm) s3 s4;exact⟨_,e,_,_,rfl⟩
 have ln:=Iz pts;have rg:=wV hz;exact wH ln rg e2
end
section
variable{Z:Gam}{p:Ad}{pts:Ac R3}{ns:Ac Ad}
theorem Wb{a b:R3}:∀{l:Ac R3},l.Nodup->(a,b)∈prL l->a≠b
 |[],_,h=>by cases h
 |c::r,nd,h=>by
  obtain⟨n1,n2⟩:=BM.mp nd;rcases GD.mp (show (a,b)∈r.map (λb=>(c,b))++prL r from h) with h|h
  .obtain⟨d,hd,e⟩:=Bb.mp h
   injection e with e1 e2
   subst e1 e2;exact λz=>n1 (z ▸ hd)
  .exact Wb n2 h
def sH(Z:Gam):Prop:=∀(p:Ad)(pts:Ac R3)(x a b:R3),P4 p->(∀ y∈pts,NF p y)->NF p x->a∈pts->b∈pts->a≠b->Al a b x%p=0->Z.F 256 [.int p,Au pts,Aj Aa x,.tup [Aj Aa x,Aj Aa a,Aj Aa b]]=.ok (.bl Aa)
theorem wG{A B L:D}(fX:flD 5 X=Aa)(fA:flD 5 A=Aa)(fB:flD 5 B=Aa)(n0:eqD X X=Aa)(c1:BK (cG Z [si p,sh T,sh X,sh (.tup [X,A,B]),Af] 4 B7) (cF Z [si p,sh T,sh X,sh (.tup [X,A,B]),Af] 4 Md) [X,A,B]=.ok [.bl Aa,.bl Aa,.bl Aa])(m1:B9 .NotIn A T=.ok (.bl Ae))(m2:B9 .NotIn B T=.ok (.bl Ae))(n1:eqD A B=Ae)(ec:Z.F 232 [.int p,A,B]=.ok L)(es:Z.F 233 [.int p,L,X]=.ok (.int 0)):L7.run Z [.int p,T,X,.tup [X,A,B]]=.ok (.bl Aa):=by
 have al:FD [.bl Aa,.bl Aa,.bl Aa]=.ok Aa:=rfl;have ln:biD .len [.tup [X,A,B]]=.ok (.int 3):=rfl;have it:FQ Z.up [.tuple] (.tup [X,A,B])=.ok (.bl Aa):=rfl;have x0:B8 (.tup [X,A,B]) (.int 0)=.ok X:=rfl;have x1:B8 (.tup [X,A,B]) (.int 1)=.ok A:=rfl;have x2:B8 (.tup [X,A,B]) (.int 2)=.ok B:=rfl;have sq:Ch (.tup [X,A,B])=.ok [X,A,B]:=rfl;generalize D.tup [X,A,B]=W at *;simp[L7,Df.run,Bo,it,ln,sq,x0,fX,fA,fB,n0,c1,al,x1,x2,m1,m2,n1,ec,es]
theorem lO(hf:RC Z)(hc:HV Z)(hs:Hr Z)(hp:P4 p)(np:∀ x∈pts,NF p x){x a b:R3}(nx:NF p x)(ha:a∈pts)(hb:b∈pts)(ne:a≠b)(dz:Al a b x%p=0):L7.run Z [.int p,Au pts,Aj Aa x,.tup [Aj Aa x,Aj Aa a,Aj Aa b]]=.ok (.bl Aa):=by
 have e1:=hf p x hp nx;have e2:=hf p a hp (np a ha);have e3:=hf p b hp (np b hb);have m1:B9 .NotIn (Aj Aa a) (Au pts)=.ok (.bl Ae):=by rw[Nz,CD ha];rfl
 have m2:B9 .NotIn (Aj Aa b) (Au pts)=.ok (.bl Ae):=by rw[Nz,CD hb];rfl
 have n0:eqD (Aj Aa x) (Aj Aa x)=Aa:=by rw[Kv,CD rfl]
 have n1:eqD (Aj Aa a) (Aj Aa b)=Ae:=by rw[Kv,B5 ne]
 have fX:flD 5 (Aj Aa x)=Aa:=rfl;have fA:flD 5 (Aj Aa a)=Aa:=rfl;have fB:flD 5 (Aj Aa b)=Aa:=rfl;have ec:=hc p Aa Aa a b hp.pos ((Cd hp (np a ha).1).b3 (by decide)) ((Cd hp (np b hb).1).b3 (by decide))
 have es:=Ro hc hs hp (np a ha).1 (np b hb).1 nx.1;rw[dz]at es;generalize Aj Aa (mdR p (crs a b))=L at *;generalize Au pts=T at *;generalize Aj Aa x=X at *;generalize Aj Aa a=A at *;generalize Aj Aa b=B at *;refine wG fX fA fB n0 (QO (λ_=>rfl) ?_ ?_ ?_) m1 m2 n1 ec es
 .simp[cF,Md,e1]
 .simp[cF,Md,e2]
 .simp[cF,Md,e3]
theorem Vj{α:Type}(f g:α->D):∀ L:Ac α,EF (L.map f) (L.map g)=L.map λx=>D.tup [f x,g x]
 |[]=>rfl
 |x::L=>by rw[Bq,Bq,Bq,EF,Vj f g L]
theorem wM{n:Ad}{AL LL RW BB:Ac D}(mm:DQ p p=Aa)(hN:p*p+p+1=N)(rN:CI 0 N=.ok RL)(c1:BK (cG Z [si p,sh T,sh (.lst RW),Af,Af,Af,Af,Af] 4 B7) (cF Z [si p,sh T,sh (.lst RW),Af,Af,Af,Af,Af] 4 Nb) RL=.ok AL)(c2:BK (cG Z [si p,sh T,sh (.lst RW),sh (.lst AL),Af,Af,Af,Af] 5 M9) (cF Z [si p,sh T,sh (.lst RW),sh (.lst AL),Af,Af,Af,Af] 5 Pp) AL=.ok LL)(l1:(RW.length:Ad)=m)(l2:(LL.length:Ad)=m)(ln:biD .len [T]=.ok (.int n))(hn:n<=p)(c3:BK (cGT Z [si p,sh T,sh (.lst RW),sh (.lst LL),Af,Af,Af,Af] [6,7] B7) (cFT Z [si p,sh T,sh (.lst RW),sh (.lst LL),Af,Af,Af,Af] [6,7] Na) (EF LL RW)=.ok BB)(al:FD BB=.ok Aa):L9.run Z [.int p,T,.lst RW]=.ok (.bl Aa):=by
 have nl:¬ p<n:=by omega
 simp[L9,Df.run,Bo,mm,hN,rN,c1,c2,l1,l2,ln,nl,c3,al]
theorem pU(hr:sH Z)(hq:MX Z)(hp:P4 p)(np:∀ x∈pts,NF p x)(nd:pts.Nodup)(hl:(pts.length:Ad)<=p)(ha:∀ x∈CM p,x∉pts->∃ q,fpr p pts x=Ab q):L9.run Z [.int p,Au pts,Gw p pts]=.ok (.bl Aa):=by
 have N1:0<=p*p+p+1/\p*p+p+1<=1000:=by rcases hp with rfl|rfl|rfl|rfl<;>decide
 have rN:CI 0 (p*p+p+1)=.ok (CK 0 (p*p+p+1).toNat):=by
  have:=K4 (lo:=0) (hi:=p*p+p+1) (by decide) (by decide) (by omega) (by omega)
  rwa [E1]at this
 have ph:=hp.hi;have pl:=hp.lo;have mm:DQ p p=Aa:=G4 (by omega) (by omega)
 have c1:=bh (U:=[si p,sh (Au pts),sh (Gw p pts),Af,Af,Af,Af,Af]) (k:=4) (q:=B7) (e:=Nb) hq hp λn hn=>⟨rfl,by
  generalize Au pts=T;generalize Gw p pts=E;simp[cF,Nb];cases Z.F 231 [.int p,.int (n:Ad)]<;>rfl⟩
 have c2:=Mv (g:=cG Z [si p,sh (Au pts),sh (Gw p pts),sh (.lst ((CM p).map (Aj Aa))),Af,Af,Af,Af] 5 M9) (f:=cF Z [si p,sh (Au pts),sh (Gw p pts),sh (.lst ((CM p).map (Aj Aa))),Af,Af,Af,Af] 5 Pp) (Aj Aa) (λx=>!decide (x∈pts)) (Aj Aa) (CM p) λx hx=>⟨by
  have n:=Nz x pts;generalize Au pts=T at *;generalize Gw p pts=E;generalize (CM p).map (Aj Aa)=AL;generalize Aj Aa x=X at *;simp[cG,M9,n],λ_=>rfl⟩
 have c3:=Mv (g:=cGT Z [si p,sh (Au pts),sh (Gw p pts),sh (.lst ((KG p pts).map (Aj Aa))),Af,Af,Af,Af] [6,7] B7) (f:=cFT Z [si p,sh (Au pts),sh (Gw p pts),sh (.lst ((KG p pts).map (Aj Aa))),Af,Af,Af,Af] [6,7] Na) (λx=>D.tup [Aj Aa x,rwD p pts x]) (λ_=>Aa) (λ_=>D.bl Aa) (KG p pts) λx hx=>⟨rfl,λ_=>by
  obtain⟨m1,m2⟩:=Cr.mp hx;have m2:x∉pts:=by simpa using m2
  obtain⟨q,hq⟩:=ha x m1 m2;have mq:=List.mem_of_find?_eq_some hq;have hit:Al q.1 q.2 x%p=0:=BG (List.find?_some (p:=IL p x) (l:=prL pts) hq);obtain⟨q1,q2⟩:=Q1 (a:=q.1) (b:=q.2) mq;have e:=hr p pts x q.1 q.2 hp np ((Gp hp).mp m1) q1 q2 (Wb nd mq) hit;have e3:rwD p pts x=.tup [Aj Aa x,Aj Aa q.1,Aj Aa q.2]:=by unfold rwD;rw[hq]
  rw[<-e3]at e;generalize rwD p pts x=R at *;generalize Au pts=T at *;generalize Gw p pts=E;generalize (KG p pts).map (Aj Aa)=LL;generalize Aj Aa x=X at *;simp[cFT,Na,e]⟩
 rw[<-Vj]at c3;exact wM (RW:=(KG p pts).map (rwD p pts)) (AL:=(CM p).map (Aj Aa)) (LL:=(KG p pts).map (Aj Aa)) mm rfl rN c1 c2 (by rw[AV]) (by rw[AV]) (Iz pts) hl c3 (Wv _)
end
section
variable{Z:Gam}{p:Ad}{pts:Ac R3}{ns:Ac Ad}
theorem gA(U:Rho)(i:Ag)(k e:E):evS Z U (.ins i k e)=O.of U (Dc U i) λxs=>O.of U ((top U k (evE Z U k)).bind EX) λj=>O.of U (evE Z U e) λd=>if (Do (xs.length+1)&&decide (0<=j)&&decide (j<=xs.length))=Aa then .next (U.set i (Ab (.lst (xs.take j.toNat++d::xs.drop j.toNat),Aa))) else .bad:=rfl
theorem jc{S X:D}{l:Ac D}{i n m mo:Ad}{b1:Ak}(em:Z.F 228 [S,.int (40+i)]=.ok (.int n))(ex:Z.F 231 [.int p,.int n]=.ok X)(e2:Z.F 228 [S,.int (80+i)]=.ok (.int m))(sz:Do (l.length+1)=Aa)(fX:flD 5 X=Aa)(fl:∀ x∈l,flD 5 x=Aa)(hn:(∀ x∈l,eqD x X=Ae)↔b1=Aa):Bi Z 4 Jj (.int i) [si p,sh S,Ab (.lst l,Aa),si mo,s4,s5]=.next [si p,sh S,Ab (.lst (if b1=Aa then l.take (m%((l.length:Ad)+1)).toNat++X::l.drop (m%((l.length:Ad)+1)).toNat else l),Aa),si mo,si i,sh X]:=by
 have a0:=AJ m (show ((l.length:Ad)+1)≠0 by omega)
 have a1:=AF m (show (0:Ad)<(l.length:Ad)+1 by omega)
 have a2:m%((l.length:Ad)+1)<=(l.length:Ad):=by omega
 have pz:(0:Ad)<(l.length:Ad)+1:=by omega
 cases b1 with
 |false=>
  simp[Bi,Jj,em,ex,fX,hn];exact fl
 |true=>
  simp[Bi,Jj,em,ex,fX,hn,gA,Dc,e2,sz,a0,a2,pz];exact fl
theorem ce(hp:P4 p){l:Ac R3}(j:Ag)(nf:∀ y∈l,NF p y)(nd:l.Nodup)(nx:NF p x)(hx:x∉l):(∀ y∈l.take j++x::l.drop j,NF p y)/\(l.take j++x::l.drop j).Nodup/\(l.take j++x::l.drop j).length=l.length+1:=by
 have pm:(l.take j++x::l.drop j).Perm (x::l):=by
  have:=XV (l₁:=l.take j) (l₂:=l.drop j) (a:=x)
  rwa [E3]at this
 refine⟨λy hy=>?_,pm.nodup_iff.mpr (BM.mpr ⟨hx,nd⟩),pm.length_eq⟩
 rcases Av.mp (pm.mem_iff.mp hy) with rfl|h
 .exact nx
 .exact nf y h
theorem Ox(hm:JY Z 228 ns)(hq:MX Z)(hp:P4 p){mo:Ad}:∀(m:Ag)(i:Ag)(l:Ac R3)(s4 s5:Sl),(∀ x∈l,NF p x)->l.Nodup->l.length+m<=100->∃(l':Ac R3)(s4' s5':Sl),(∀ x∈l',NF p x)/\l'.Nodup/\l'.length<=l.length+m/\Cq (Bi Z 4 Jj) (CK i m) [si p,sh (scr ns),Ab (.lst (l.map (Aj Aa)),Aa),si mo,s4,s5]=.next [si p,sh (scr ns),Ab (.lst (l'.map (Aj Aa)),Aa),si mo,s4',s5']
 |0,i,l,s4,s5,nf,nd,hl=>⟨l,s4,s5,nf,nd,by omega,rfl⟩
 |m+1,i,l,s4,s5,nf,nd,hl=>by
  obtain⟨n,n0,em⟩:=hm (40+i) (by omega)
  obtain⟨k,k0,ek⟩:=hm (80+i) (by omega)
  have ex:=hq p n hp;have nx:NF p (ptI p (n%(p*p+p+1))):=zJ hp n;generalize ptI p (n%(p*p+p+1))=x at *;have fl:∀ y∈l.map (Aj Aa),flD 5 y=Aa:=λy hy=>by
   obtain⟨z,_,rfl⟩:=Bb.mp hy;rfl
  have hn:(∀ y∈l.map (Aj Aa),eqD y (Aj Aa x)=Ae)↔(!decide (x∈l))=Aa:=by
   rw[Cb,F0];constructor
   .intro z hx;have:=z _ (XS hx);rw[Kv]at this;simp at this
   .intro z y hy;obtain⟨w,hw,rfl⟩:=Bb.mp hy;rw[Kv];exact B5 λe=>z (e ▸ hw)
  have st:=jc (p:=p) (s4:=s4) (s5:=s5) (mo:=mo) em ex ek (show Ed _ 1000000=Aa from E4 (by rw[AV];omega)) rfl fl hn
  rw[AV,<-XO,<-XN,<-Bq,<-FI]at st;rw[fD];by_cases c:x∈l
  .rw[AW (by simp[c])]at st
   obtain⟨l',s4',s5',g1,g2,g3,ih⟩:=Ox hm hq hp (mo:=mo) m (i+1) l (si i) (sh (Aj Aa x)) nf nd (by omega)
   refine⟨l',s4',s5',g1,g2,by omega,?_⟩
   show (Bi Z 4 Jj (.int i) _).turn _=_;rw[st];exact ih
  .rw[AO (by simp[c])]at st
   obtain⟨h1,h2,h3⟩:=ce hp (k%((l.length:Ad)+1)).toNat nf nd nx c;obtain⟨l',s4',s5',g1,g2,g3,ih⟩:=Ox hm hq hp (mo:=mo) m (i+1) _ (si i) (sh (Aj Aa x)) h1 h2 (by omega)
   refine⟨l',s4',s5',g1,g2,by omega,?_⟩
   show (Bi Z 4 Jj (.int i) _).turn _=_;rw[st];exact ih
theorem mP{S RR OO MM:D}{L0:Ac D}{m1 m2 m3 m4 k:Ad}(e1:Z.F 228 [S,.int 1]=.ok (.int m1))(h0:m1%3>0)(et:Z.F 250 [.int p,S,.int 120]=.ok RR)(eo:Z.F 290 [.int p,RR]=.ok OO)(er:Z.F 251 [S,.int 20,OO]=.ok MM)(e2:Z.F 228 [S,.int 2]=.ok (.int m2))(e3:Z.F 228 [S,.int 10]=.ok (.int m3))(hj:0<p+2)(bg:DQ (m2%3) (m3%(p+2))=Aa)(hk:m2%3*(m3%(p+2))=k)(sl:slD MM (Ab k) Af=.ok (.lst L0))(e4:Z.F 228 [S,.int 11]=.ok (.int m4))(rg:CI 0 (m4%4)=.ok RL)(lp:Cq (Bi Z 4 Jj) RL [si p,sh S,Ab (.lst L0,Aa),si (m4%4),Af,Af]=.next [si p,sh S,Ab (.lst L,Aa),si (m4%4),s4,s5]):Kn.run Z [.int p,S]=.ok (.lst L):=by
 simp[Kn,Df.run,Bo,e1,h0,et,eo,er,e2,e3,hj,bg,hk,slE,sl,e4,rg,lp,DR]
theorem mO{S:D}{m1 m4:Ad}(e1:Z.F 228 [S,.int 1]=.ok (.int m1))(h0:¬ m1%3>0)(e4:Z.F 228 [S,.int 11]=.ok (.int m4))(rg:CI 0 (m4%31)=.ok RL)(lp:Cq (Bi Z 4 Jj) RL [si p,sh S,Ab (.lst [],Aa),si (m4%31),Af,Af]=.next [si p,sh S,Ab (.lst L,Aa),si (m4%31),s4,s5]):Kn.run Z [.int p,S]=.ok (.lst L):=by
 simp[Kn,Df.run,Bo,e1,h0,e4,rg,lp,DR]
theorem iQ(M:Ac R3){i:Ad}(h0:0<=i):slD (Au M) (Ab i) Af=.ok (Au (M.drop i.toNat)):=by
 by_cases h1:i.toNat<=M.length
 .exact Q0 M h0 h1
 .show R.ok (D.lst (((M.map (Aj Aa)).drop (Gx (M.map (Aj Aa)).length 0 (Ab i))).take ((M.map (Aj Aa)).length-Gx (M.map (Aj Aa)).length 0 (Ab i))))=_;rw[Qn h0,X2 (by rw[AV];omega),Nat.sub_self,List.take_zero,List.drop_of_length_le (by omega)]
  rfl
structure HL74 (Z:Gam) (ns:Ac Ad):Prop where
 tb:sG Z ns
 ov:dn Z
 ord:sI Z ns
 mix:JY Z 228 ns
 pt:MX Z
theorem pQ(h:HL74 Z ns)(hp:P4 p):∃ l:Ac R3,(∀ x∈l,NF p x)/\l.Nodup/\l.length<=100/\Kn.run Z [.int p,scr ns]=.ok (Au l):=by
 have ph:=hp.hi;have pl:=hp.lo;obtain⟨m1,_,e1⟩:=h.mix 1 (by decide)
 obtain⟨m2,_,e2⟩:=h.mix 2 (by decide)
 obtain⟨m3,_,e3⟩:=h.mix 10 (by decide)
 obtain⟨m4,_,e4⟩:=h.mix 11 (by decide)
 have rk:∀ N:Ad,0<=N->N<=1000->CI 0 N=.ok (CK 0 N.toNat):=λN h1 h2=>by
  have:=K4 (lo:=0) (hi:=N) (by decide) (by decide) (by omega) (by omega)
  rwa [E1]at this
 by_cases h0:m1%3>0
 .obtain⟨a,b,c,G,et⟩:=h.tb p 120 hp (by decide)
  have eo:=h.ov p a b c G;have ll:((Gq p).map λx=>nrm p (ap a b c x)).length<=60:=by rw[AV];exact(kG hp).2
  have nO:∀ x∈((Gq p).map λx=>nrm p (ap a b c x)),NF p x:=λx hx=>by
   obtain⟨w,hw,rfl⟩:=Bb.mp hx;obtain⟨_,l,el⟩:=NR hp hw;obtain⟨k,ek⟩:=ML hp G.nz el CgR.rfl;exact(Lb hp ek).1
  have dO:=oM hp G.nz;obtain⟨M,pm,er⟩:=h.ord 20 _ (by decide) ll
  generalize ((Gq p).map λx=>nrm p (ap a b c x))=OL at *
  have q1:=AJ m2 (show (3:Ad)≠0 by decide)
  have q2:=AF m2 (show (0:Ad)<3 by decide)
  have q3:=AJ m3 (show p+2≠0 by omega)
  have q4:=G1 q1 q3;have sl:=iQ M q4;have bg:DQ (m2%3) (m3%(p+2))=Aa:=G4 (by omega) (by omega)
  have b0:=AJ m4 (show (4:Ad)≠0 by decide)
  have b1:=AF m4 (show (0:Ad)<4 by decide)
  generalize hk:m2%3*(m3%(p+2))=k at *;have ld:(M.drop k.toNat).length<=60:=by rw[Fe,pm.length_eq];omega
  obtain⟨l,s4,s5,g1,g2,g3,lp⟩:=Ox h.mix h.pt hp (mo:=m4%4) (m4%4).toNat 0 (M.drop k.toNat) Af Af (λx hx=>nO x (pm.mem_iff.mp (List.mem_of_mem_drop hx))) ((pm.nodup_iff.mpr dO).sublist (List.drop_sublist _ _)) (by omega)
  exact⟨l,g1,g2,by omega,mP e1 h0 et eo er e2 e3 (by omega) bg hk sl e4 (rk _ b0 (by omega)) (by exact lp)⟩
 .have b0:=AJ m4 (show (31:Ad)≠0 by decide)
  have b1:=AF m4 (show (0:Ad)<31 by decide)
  obtain⟨l,s4,s5,g1,g2,g3,lp⟩:=Ox h.mix h.pt hp (mo:=m4%31) (m4%31).toNat 0 [] Af Af (by simp) (by simp) (by simp;omega)
  exact⟨l,g1,g2,by simp at g3;omega,mO e1 h0 e4 (rk _ b0 (by omega)) (by exact lp)⟩
end
noncomputable def IB:Df:=⟨5,Ae,(.cons (.asg 1 Ae (.call 229 (.cons (.var 0) .nil))) (.cons (.asg 2 Ae (.call 254 (.cons (.var 1) (.cons (.var 0) .nil)))) (.cons (.asg 3 Ae (.bi .list (.cons (.var 2) .nil))) (.cons (.asg 4 Ae (.call 227 (.cons (.var 1) (.cons (.var 3) .nil)))) (.cons (.ife (.or (.cons (.no (.isi (.var 4) [.tuple])) (.cons (.cmp .NotEq (.bi .len (.cons (.var 4) .nil)) (.int 2)) (.cons (.cmp .NotEq (.var 3) (.var 2)) .nil)))) (.cons (.ret (.bl Ae)) .nil) .nil) (.cons (.ife (.cmp .Eq (.idx (.var 4) (.int 0)) (.str (Az "line"))) (.cons (.ret (.call 258 (.cons (.var 1) (.cons (.var 2) (.cons (.idx (.var 4) (.int 1)) .nil))))) .nil) .nil) (.cons (.ife (.or (.cons (.cmp .Gt (.bi .len (.cons (.var 2) .nil)) (.bin .Add (.var 1) (.int 1))) (.cons (.cmp .IsNot (.call 234 (.cons (.var 1) (.cons (.var 2) .nil))) .non) .nil))) (.cons (.ret (.bl Ae)) .nil) .nil) (.cons (.ife (.cmp .Eq (.idx (.var 4) (.int 0)) (.str (Az "curve"))) (.cons (.ret (.call 248 (.cons (.var 1) (.cons (.var 2) (.cons (.idx (.var 4) (.int 1)) .nil))))) .nil) .nil) (.cons (.ife (.cmp .Eq (.idx (.var 4) (.int 0)) (.str (Az "more"))) (.cons (.ife (.or (.cons (.no (.call 237 (.cons (.var 1) (.cons (.idx (.var 4) (.int 1)) (.cons (.int 3) .nil))))) (.cons (.cmp .In (.idx (.var 4) (.int 1)) (.var 2)) (.cons (.cmp .Eq (.bi .len (.cons (.var 2) .nil)) (.bin .Add (.var 1) (.int 1))) .nil)))) (.cons (.ret (.bl Ae)) .nil) .nil) (.cons (.ret (.no (.call 255 (.cons (.var 1) (.cons (.var 2) (.cons (.idx (.var 4) (.int 1)) .nil)))))) .nil)) .nil) (.cons (.ret (.and (.cons (.cmp .Eq (.idx (.var 4) (.int 0)) (.str (Az "ends"))) (.cons (.call 257 (.cons (.var 1) (.cons (.var 2) (.cons (.idx (.var 4) (.int 1)) .nil)))) .nil)))) .nil))))))))))⟩
noncomputable def NY:Df:=⟨3,Ae,(.cons (.asg 2 Ae (.call 65 (.cons (.var 0) (.cons (.var 1) .nil)))) (.cons (.ife (.cmp .IsNot (.var 2) .non) (.cons (.rais 118 (.cons (.var 2) .nil)) .nil) .nil) .nil))⟩
noncomputable def QR:Df:=⟨3,Ae,(.cons (.ret (.comp Nq 2 (.e (.call 69 (.cons (.var 0) .nil))) Np)) .nil)⟩
section
variable{Z:Gam}{p:Ad}{pts:Ac R3}{ns:Ac Ad}
theorem pY(e:Z.F 65 [.int p,PP]=.ok .non):NY.run Z [.int p,PP]=.ok .non:=by
 simp[NY,Df.run,Bo,e]
theorem pV(ht:∀ p,P4 p->Z.F 69 [.int p]=.ok (Au (CM p)))(h2:Rz Z)(hp:P4 p)(np:∀ x∈pts,NF p x)(ha:∀ x∈CM p,x∉pts->∃ q,fpr p pts x=Ab q):QR.run Z [.int p,Au pts]=.ok (Gw p pts):=by
 have e:=ms ht h2 hp np ha;unfold Gw at e ⊢;have k:∀ o:O,∀ L,o.ans Aa=.ok (.lst L)->o.ans Ae=.ok (.lst L):=λo L h=>by
  cases o with
  |ret d b=>
   have h:(if (Aa&&(!b&&isL d))=Aa then R.bad else R.ok d)=_:=h
   show R.ok d=_;by_cases c:(Aa&&(!b&&isL d))=Aa
   .rw[AO c]at h;cases h
   .rw[AW c]at h;exact h
  |_=>simp[O.ans]at h
 exact k _ _ e
theorem bW(l:Ac R3):flD 5 (Au l)=Aa/\eqD (Au l) (Au l)=Aa:=by
 have h:∀ x∈l.map (Aj Aa),flD 4 x=Aa:=λx hx=>by
  obtain⟨r,_,rfl⟩:=Bb.mp hx;rfl
 exact⟨Fd.mpr h,UD 5 (.lst (l.map (Aj Aa))) (Fd.mpr h)⟩
theorem rS(h:Z.F 194 [T]=.ok .non)(e:Z.F 65 [.int p,T]=.ok X)(iX:B9 .IsNot X .non=.ok (.bl Aa)):IE.run Z [.int p,T]=.ok (.tup [.str (Az "line"),X]):=by
 simp[IE,Df.run,Bo,h,e,iX]
theorem rR{L:D}{n:Ad}(h:Z.F 194 [T]=.ok .non)(e:Z.F 65 [.int p,T]=.ok .non)(ln:biD .len [T]=.ok (.int n))(hn:¬ n=p+1)(ef:Z.F 223 [.int p,T]=.ok L)(lm:biD .len [L]=.ok (.int m))(m0:0<m)(ix:B8 L (.int 0)=.ok X):IE.run Z [.int p,T]=.ok (.tup [.str (Az "more"),X]):=by
 simp[IE,Df.run,Bo,h,e,ln,hn,ef,lm,m0,ix]
theorem wds:Az "curve"≠Az "line"/\Az "more"≠Az "line"/\Az "more"≠Az "curve"/\Az "ends"≠Az "line"/\Az "ends"≠Az "curve"/\Az "ends"≠Az "more" := by decide
section
variable{S T X:D}{n:Ad}(e1:Z.F 229 [S]=.ok (.int p))(e2:Z.F 254 [.int p,S]=.ok T)(lT:biD .list [T]=.ok T)(fT:flD 5 T=Aa)(qT:eqD T T=Aa)(ln:biD .len [T]=.ok (.int n))
include e1 e2 lT fT qT
theorem wK(e4:Z.F 227 [.int p,T]=.ok (.tup [.str (Az "line"),X]))(e5:Z.F 258 [.int p,T,X]=.ok (.bl Aa)):IB.run Z [S]=.ok (.bl Aa):=by
 have x0:B8 (.tup [.str (Az "line"),X]) (.int 0)=.ok (.str (Az "line")):=rfl;have x1:B8 (.tup [.str (Az "line"),X]) (.int 1)=.ok X:=rfl;have lw:biD .len [.tup [.str (Az "line"),X]]=.ok (.int 2):=rfl;have iw:FQ Z.up [.tuple] (.tup [.str (Az "line"),X])=.ok (.bl Aa):=rfl;generalize D.tup [.str (Az "line"),X]=W at *;simp[IB,Df.run,Bo,e1,e2,lT,fT,qT,e4,x0,x1,lw,iw,e5]
include ln
theorem wR(hn:n<=p+1)(e3:Z.F 234 [.int p,T]=.ok .non)(e4:Z.F 227 [.int p,T]=.ok (.tup [.str (Az "curve"),X]))(e5:Z.F 248 [.int p,T,X]=.ok (.bl Aa)):IB.run Z [S]=.ok (.bl Aa):=by
 have x0:B8 (.tup [.str (Az "curve"),X]) (.int 0)=.ok (.str (Az "curve")):=rfl;have x1:B8 (.tup [.str (Az "curve"),X]) (.int 1)=.ok X:=rfl;have lw:biD .len [.tup [.str (Az "curve"),X]]=.ok (.int 2):=rfl;have iw:FQ Z.up [.tuple] (.tup [.str (Az "curve"),X])=.ok (.bl Aa):=rfl;have nl:¬ p+1<n:=by omega
 obtain⟨w1,w2,w3,w4,w5,w6⟩:=wds;generalize D.tup [.str (Az "curve"),X]=W at *;simp[w1,w2,w3,w4,w5,w6,IB,Df.run,Bo,e1,e2,lT,fT,qT,ln,nl,e3,e4,x0,x1,lw,iw,e5]
theorem wI(hn:n<=p+1)(hm:¬ n=p+1)(e3:Z.F 234 [.int p,T]=.ok .non)(e4:Z.F 227 [.int p,T]=.ok (.tup [.str (Az "more"),X]))(e5:Z.F 237 [.int p,X,.int 3]=.ok (.bl Aa))(e6:B9 .In X T=.ok (.bl Ae))(e7:Z.F 255 [.int p,T,X]=.ok (.bl Ae)):IB.run Z [S]=.ok (.bl Aa):=by
 have x0:B8 (.tup [.str (Az "more"),X]) (.int 0)=.ok (.str (Az "more")):=rfl;have x1:B8 (.tup [.str (Az "more"),X]) (.int 1)=.ok X:=rfl;have lw:biD .len [.tup [.str (Az "more"),X]]=.ok (.int 2):=rfl;have iw:FQ Z.up [.tuple] (.tup [.str (Az "more"),X])=.ok (.bl Aa):=rfl;have nl:¬ p+1<n:=by omega
 obtain⟨w1,w2,w3,w4,w5,w6⟩:=wds;generalize D.tup [.str (Az "more"),X]=W at *;simp[w1,w2,w3,w4,w5,w6,IB,Df.run,Bo,e1,e2,lT,fT,qT,ln,nl,hm,e3,e4,x0,x1,lw,iw,e5,e6,e7]
theorem wN(hn:n<=p+1)(e3:Z.F 234 [.int p,T]=.ok .non)(e4:Z.F 227 [.int p,T]=.ok (.tup [.str (Az "ends"),X]))(e5:Z.F 257 [.int p,T,X]=.ok (.bl Aa)):IB.run Z [S]=.ok (.bl Aa):=by
 have x0:B8 (.tup [.str (Az "ends"),X]) (.int 0)=.ok (.str (Az "ends")):=rfl;have x1:B8 (.tup [.str (Az "ends"),X]) (.int 1)=.ok X:=rfl;have lw:biD .len [.tup [.str (Az "ends"),X]]=.ok (.int 2):=rfl;have iw:FQ Z.up [.tuple] (.tup [.str (Az "ends"),X])=.ok (.bl Aa):=rfl;have nl:¬ p+1<n:=by omega
 obtain⟨w1,w2,w3,w4,w5,w6⟩:=wds;generalize D.tup [.str (Az "ends"),X]=W at *;simp[w1,w2,w3,w4,w5,w6,IB,Df.run,Bo,e1,e2,lT,fT,qT,ln,nl,e3,e4,x0,x1,lw,iw,e5]
end
structure H74 (Z:Gam) (ns:Ac Ad):Prop where
 pr:∃ p,P4 p/\Z.F 229 [scr ns]=.ok (.int p)
 li:∀ p,P4 p->∃ l:Ac R3,(∀ x∈l,NF p x)/\l.Nodup/\l.length<=100/\Z.F 254 [.int p,scr ns]=.ok (Au l)
 th:∀(p:Ad)(pts:Ac R3),P4 p->(∀ x∈pts,NF p x)->pts.length<=1000->Z.F 234 [.int p,Au pts]=.ok ((z0_ p pts).getD .non)
 ll:∀(p:Ad)(pts:Ac R3)(d:D),P4 p->(∀ x∈pts,NF p x)->pts.Nodup->pts.length<=1000->z0_ p pts=Ab d->Z.F 227 [.int p,Au pts]=.ok (.tup [.str (Az "line"),d])
 lc:∀(p:Ad)(pts:Ac R3),P4 p->N3 p pts->z0_ p pts=Af->(pts.length:Ad)=p+1->∃ C:C6,InC p C/\AX p C.l=Ab 1/\Whl p C/\(∀ x∈pts,vI C x%p=0)/\Z.F 227 [.int p,Au pts]=.ok (.tup [.str (Az "curve"),BW C])
 lm:∀(p:Ad)(pts:Ac R3)(x:R3)(r:Ac R3),P4 p->N3 p pts->pts.length<=1000->z0_ p pts=Af->¬ (pts.length:Ad)=p+1->Im p pts=x::r->Z.F 227 [.int p,Au pts]=.ok (.tup [.str (Az "more"),Aj Aa x])
 le:∀(p:Ad)(pts:Ac R3),P4 p->N3 p pts->pts.length<=1000->z0_ p pts=Af->¬ (pts.length:Ad)=p+1->Im p pts=[]->Z.F 227 [.int p,Au pts]=.ok (.tup [.str (Az "ends"),Gw p pts])
 sl:∀(p:Ad)(pts:Ac R3)(x y z:R3),P4 p->(∀ x∈pts,NF p x)->x∈pts->y∈pts->z∈pts->x≠y->x≠z->y≠z->Al x y z%p=0->Z.F 258 [.int p,Au pts,.tup [Aj Aa x,Aj Aa y,Aj Aa z]]=.ok (.bl Aa)
 sc:∀(p:Ad)(pts:Ac R3)(C:C6),P4 p->(∀ x∈pts,NF p x)->(pts.length:Ad)=p+1->InC p C->AX p C.l=Ab 1->Whl p C->(∀ x∈pts,vI C x%p=0)->Z.F 248 [.int p,Au pts,BW C]=.ok (.bl Aa)
 fd:RC Z
 so:∀(p:Ad)(pts:Ac R3)(x:R3),P4 p->(∀ x∈pts,NF p x)->pts.length<=1000->NF p x->pts.Nodup->(∀ a∈pts,∀ b∈pts,a≠b->Al a b x%p≠0)->Z.F 255 [.int p,Au pts,Aj Aa x]=.ok (.bl Ae)
 se:∀(p:Ad)(pts:Ac R3),P4 p->(∀ x∈pts,NF p x)->pts.Nodup->(pts.length:Ad)<=p->(∀ x∈CM p,x∉pts->∃ q,fpr p pts x=Ab q)->Z.F 257 [.int p,Au pts,Gw p pts]=.ok (.bl Aa)
theorem aw(h:H74 Z ns):IB.run Z [scr ns]=.ok (.bl Aa):=by
 obtain⟨p,hp,e1⟩:=h.pr;obtain⟨l,nf,nd,hl,e2⟩:=h.li p hp;have lT:biD .list [Au l]=.ok (Au l):=rfl;obtain⟨fT,qT⟩:=bW l;have ln:=Iz l;have e3:=h.th p l hp nf (by omega)
 cases z:z0_ p l with
 |some d=>
  obtain⟨x,y,u,hx,hy,hu,n1,n2,n3,dz,rfl⟩:=vR nd z;exact wK e1 e2 lT fT qT (h.ll p l _ hp nf nd (by omega) z) (h.sl p l x y u hp nf hx hy hu n1 n2 n3 dz)
 |none=>
  rw[z]at e3;have n3:=n3Z nd nf z;have hn:(l.length:Ad)<=p+1:=Int.not_lt.mp λc=>by
   have s:=n3.sub (Hz (p+2).toNat l);have:=hp.pos;exact yR hp s (by rw[Ez];omega)
  by_cases c:(l.length:Ad)=p+1
  .obtain⟨C,iC,lC,wC,on,e4⟩:=h.lc p l hp n3 z c;exact wR e1 e2 lT fT qT ln hn e3 e4 (h.sc p l C hp nf c iC lC wC on)
  .cases f:Im p l with
   |cons x r=>
    have mx:x∈Im p l:=by rw[f];exact Ax
    have nx:=(Gp hp).mp (QG mx);have nl:x∉l:=λhx=>Ux mx hx rfl
    exact wI e1 e2 lT fT qT ln hn c e3 (h.lm p l x r hp n3 (by omega) z c f) (h.fd p x hp nx) (by rw[NM,B5 nl]) (h.so p l x hp nf (by omega) nx nd (λa ha b hb ne=>rA mx a b ha hb ne))
   |nil=>exact wN e1 e2 lT fT qT ln hn e3 (h.le p l hp n3 (by omega) z c f) (h.se p l hp nf nd (by omega) (Vv f))
end
noncomputable def aT:Ag->Ac Ag:=λ_=>[]
noncomputable def aR:Ag->Ac D->R Ex:=λ_ _=>.bad
noncomputable def Q74:Prg:=⟨Aa,fun
 |1=>Rk
 |9=>Nm
 |17=>NE
 |23=>PR
 |24=>Ru
 |56=>O9
 |57=>Rv
 |61=>Qu
 |65=>K0
 |194=>Nu
 |109=>NY
 |69=>TD
 |104=>Qw
 |91=>Qt
 |78=>Qh
 |98=>Pw
 |105=>QQ
 |106=>PX
 |122=>Qi
 |123=>Nn
 |126=>MJ
 |128=>Nk
 |131=>Px
 |132=>QP
 |133=>NX
 |110=>QJ
 |111=>PC
 |112=>K1
 |195=>Mk
 |196=>Pf
 |197=>Mj
 |198=>Ng
 |221=>NN
 |222=>PD
 |223=>Nt
 |224=>Kl
 |225=>Mq
 |226=>QR
 |227=>IE
 |228=>Mn
 |229=>Pu
 |288=>PB
 |231=>dM
 |232=>Pv
 |233=>Qv
 |234=>PM
 |250=>PN
 |289=>PY
 |290=>No
 |251=>Kg
 |236=>Pt
 |237=>PZ
 |246=>Nl
 |247=>Nh
 |248=>Mf
 |254=>Kn
 |255=>Mi
 |256=>L7
 |257=>L9
 |258=>Mh
 |259=>IB
 | _=>⟨0,Ae,.nil⟩,λ_=>.non,aT,aR⟩
theorem Z_0(ns:Ac Ad)(hl:ns.length<=63):(gam Q74 9).F 259 [scr ns]=.ok (.bl Aa):=by
 have gF:∀ n i ds,(gam Q74 (n+1)).F i ds=(Q74.defs i).run (gam Q74 n) ds:=λ_ _ _=>rfl
 have d65:Q74.defs 65=K0:=rfl;have d109:Q74.defs 109=NY:=rfl;have d112:Q74.defs 112=K1:=rfl;have d123:Q74.defs 123=Nn:=rfl;have d128:Q74.defs 128=Nk:=rfl;have d133:Q74.defs 133=NX:=rfl;have d194:Q74.defs 194=Nu:=rfl;have d195:Q74.defs 195=Mk:=rfl;have d197:Q74.defs 197=Mj:=rfl;have d198:Q74.defs 198=Ng:=rfl;have d223:Q74.defs 223=Nt:=rfl;have d224:Q74.defs 224=Kl:=rfl;have d225:Q74.defs 225=Mq:=rfl;have d226:Q74.defs 226=QR:=rfl;have d227:Q74.defs 227=IE:=rfl;have d234:Q74.defs 234=PM:=rfl;have d251:Q74.defs 251=Kg:=rfl;have d254:Q74.defs 254=Kn:=rfl;have d290:Q74.defs 290=No:=rfl;have d255:Q74.defs 255=Mi:=rfl;have d256:Q74.defs 256=L7:=rfl;have d257:Q74.defs 257=L9:=rfl;have d258:Q74.defs 258=Mh:=rfl;have d248:Q74.defs 248=Mf:=rfl;have d246:Q74.defs 246=Nl:=rfl;have d247:Q74.defs 247=Nh:=rfl;have fa:∀ n i,(gam Q74 n).fr i=(Q74.defs i).fr:=λn i=>by cases n<;>rfl
 have rs:∀ n,H9 (gam Q74 (n+1)):=λn p m hp=>vU (gam Q74 n) p m hp
 have mi:∀ n,JY (gam Q74 (n+1)) 228 ns:=λn k hk=>wA (gam Q74 n) ns hl k hk
 have tu:∀ n,Qx (gam Q74 (n+2)):=λn p m hp z=>fG (rs n) p m hp z
 have fo:∀ n,NZ (gam Q74 (n+3)):=λn p b xs l t hp e it=>pR (rs (n+1)) (tu n) hp e it
 have me:∀ n,Ho (gam Q74 (n+2)):=λn p q a b c hp ha hb hc=>pM (rs n) p q a b c hp ha hb hc
 have jo:∀ n,Oc (gam Q74 (n+4)):=λn p a b hp ia ib la lb ne=>yZ (λa b ha hb ne=>TQ (gam Q74 (n+2)) a b ha hb ne) (fo n) p a b hp ia ib la lb ne
 have ly:∀ n,V8 (gam Q74 (n+2)):=λn p x y hp ix iy=>yY (rs n) p x y hp ix iy
 have on:∀ n,RB (gam Q74 (n+3)):=λn p x y hp ix iy=>vX (ly n) p x y hp ix iy
 have an:∀ n,Xb (gam Q74 (n+4)):=λn p x ls hp ix hl=>mw (on n) x ls hp ix hl
 have st:∀ n,QW (gam Q74 (n+5)):=λn p pts f left hp np nf ni nl=>lL (jo n) (an n) pts f left hp np nf ni nl
 have tr:∀ n p,P4 p->(gam Q74 (n+1)).F 69 [.int p]=.ok (Au (CM p)):=λn p hp=>mj (gam Q74 n) p hp
 have ft:∀ n,aA (gam Q74 (n+6)):=λn p pts hp np nd hz=>by rw[gF,d223];exact ml (st n) (λp hp=>tr (n+4) p hp) pts hp np nd hz
 have fi:∀ n (p:Ad) (pts:Ac R3),P4 p->(∀ x∈pts,NF p x)->pts.length<=1000->(gam Q74 (n+3)).F 65 [.int p,Au pts]=.ok ((z0_ p pts).getD .non):=λn p pts hp np hz=>by rw[gF,d65];exact jU (me n) hp (λx hx=>(np x hx).1) (by show pts.length<20000;omega)
 have tw2:∀ n,Rz (gam Q74 (n+3)):=λn p pts x hp np ix=>by rw[gF,d225];exact wX (me n) hp np ix
 have ee:∀ n (p:Ad) (pts:Ac R3),P4 p->(∀ x∈pts,NF p x)->(∀ x∈CM p,x∉pts->∃ q,fpr p pts x=Ab q)->(gam Q74 (n+4)).F 226 [.int p,Au pts]=.ok (Gw p pts):=λn p pts hp np ha=>by rw[gF,d226];exact pV (λp hp=>tr (n+2) p hp) (tw2 n) hp np ha
 have tf:∀ n,Ob (gam Q74 (n+4)):=λn p t q a b c hp ha hb hc z l u e it=>wY (me (n+1)) (fo n) p t q a b c hp ha hb hc z l u e it
 have co:∀ n,MQ (gam Q74 (n+1)):=λn=>zA _
 have su:∀ n,RA (gam Q74 (n+2)):=λn=>vT (rs n)
 have cr:∀ n,VW (gam Q74 (n+2)):=λn=>pX (TQ _)
 have ba:∀ n,Oe (gam Q74 (n+5)):=λn=>zE (cr (n+2)) (co (n+3)) (tf n)
 have af:∀ n,QX (gam Q74 (n+5)):=λn=>pZ (co (n+3)) (su (n+2)) (tf n)
 have fq:∀ n,O4 (gam Q74 (n+5)):=λn=>dA (me (n+2)) (gW _) (co (n+3)) (tf n)
 have f4:∀ n,lA (gam Q74 (n+3)):=λn p a b c d hp ha hb hc hd h=>by rw[gF,d65,pT (me n) p a b c d hp ha hb hc hd h]
 have ask:∀ n,Sa (gam Q74 (n+4)):=λn p a b c d hp ha hb hc hd h=>by rw[gF,d109,pY (f4 n p a b c d hp ha hb hc hd h)]
 have cf:∀ n,Od (gam Q74 (n+4)):=λn p b xs l t hp e it=>zC (rs (n+2)) (fo n) hp e it
 have va:∀ n,QV (gam Q74 (n+2)):=λn=>lI (rs n)
 have vb:∀ n,V5 (gam Q74 (n+2)):=λn=>wW (rs n)
 have tw:∀ n,VS (gam Q74 (n+2)):=λn=>lJ (rs n)
 have lm:∀ n,V7 (gam Q74 (n+1)):=λn=>wB _
 have mx:∀ n,V6 (gam Q74 (n+3)):=λn=>vZ (tw n) (su n)
 have un5:∀(pts:Ac R3),pts.Nodup->(gam Q74 5).F 194 [Au pts]=.ok .non:=λpts nd=>WO (Z:=gam Q74 4) pts nd
 have cok:HC74 (gam Q74 6):=by
  refine⟨λp hp=>?_,λp C hp iC=>?_,λp f0 f1 f2 f3 g0 g1 g2 g3 hp F G=>?_,λp C a b c iC lC T=>?_,λp C a b c d e hp iC lC h fp=>?_⟩
  .rw[gF,d123,gX (cf 1) p hp]
  .rw[gF,d128,pF (λp hp=>tr 4 p hp) (va 3) p C hp iC]
  .obtain⟨a,b,c,T,L,e⟩:=gY (ask 1) (fq 0) (ba 0) (af 0) hp F G;exact⟨a,b,c,T,L,by rw[gF,d112,e]⟩
  .obtain⟨E,i,l,q,e⟩:=pK (ba 0) (co 4) (va 3) (mx 2) (cf 1) p C a b c iC lC T;exact⟨E,i,l,q,by rw[gF,d133,e]⟩
  .have e1:=un5 _ h.nd;have e2:(gam Q74 5).F 195 [.int p,Au [a,b,c,d,e]]=.ok .non:=by rw[gF,d195];exact mn (me 2) hp h
   have e3:(gam Q74 5).F 197 [.int p,Au [a,b,c,d,e]]=.ok (BW C):=by rw[gF,d197];exact mr (jo 0) (lm 3) (vb 2) (cf 0) hp iC lC h fp
   rw[gF,d198];rw[P9]at e1 e2 e3 ⊢;exact wZ e1 e2 e3
 have sm:∀ n,Hr (gam Q74 (n+1)):=λn p q q' a x p0 ha hx=>gU (gam Q74 n) p q q' a x p0 ha hx
 have cs:∀ n,HV (gam Q74 (n+1)):=λn p q q' a x p0 ha hx=>jW (gam Q74 n) p q q' a x p0 ha hx
 have fm:∀ n,VU (gam Q74 (n+1)):=λn p b xs l t hp e it=>pS (gam Q74 n) hp e it
 have le:∀ n,UK (gam Q74 (n+2)):=λn p t q q' a b c x G hx lx=>jT (sm n) (fm n) p t q q' a b c x G hx lx
 have pt:∀ n,MX (gam Q74 (n+1)):=λn p m hp=>vV (gam Q74 n) p m hp
 have th:∀ n (p:Ad) (pts:Ac R3),P4 p->(∀ x∈pts,NF p x)->pts.length<=1000->(gam Q74 (n+2)).F 234 [.int p,Au pts]=.ok ((z0_ p pts).getD .non):=λn p pts hp np hz=>by rw[gF,d234];exact gS (cs n) (sm n) hp (λx hx=>(np x hx).1) hz
 have rq:∀ n,VT (gam Q74 (n+1)):=λn p xs hx=>pB (gam Q74 n) p xs hx
 have fd:∀ n (p:Ad) (x:R3),P4 p->NF p x->(gam Q74 (n+2)).F 237 [.int p,Aj Aa x,.int 3]=.ok (.bl Aa):=λn p x hp nx=>U_6 (rq n) p [x.1,x.2.1,x.2.2] hp.pos (by
  obtain⟨⟨h1,h2,h3⟩,_⟩:=nx;intro y hy;simp at hy;rcases hy with rfl|rfl|rfl<;>assumption) nx.2
 have fd6:∀ n,VV (gam Q74 (n+2)):=λn p xs p0 hx l1=>U_6 (rq n) p xs p0 hx l1
 have li:∀ n,HL74 (gam Q74 (n+4)) ns:=λn=>⟨λp at_ hp ha=>vS (mi (n+2)) p at_ hp ha,λp a b c G=>by rw[gF,d290];exact vW (le (n+1)) p a b c G,λat_ L ha hL=>by
  obtain⟨M,pm,e⟩:=pH (mi (n+2)) at_ L ha hL;exact⟨M,pm,by rw[gF,d251];exact e⟩,mi (n+3),pt (n+3)⟩
 have un:∀(pts:Ac R3),pts.Nodup->(gam Q74 7).F 194 [Au pts]=.ok .non:=λpts nd=>WO (Z:=gam Q74 6) pts nd
 refine aw (Z:=gam Q74 8) ⟨pG (mi 6),λp hp=>?_,λp pts hp np hz=>th 6 p pts hp np hz,λp pts d hp np nd hz z=>?_,λp pts hp n3 z hl=>?_,λp pts x r hp n3 hz z hl f=>?_,λp pts hp n3 hz z hl f=>?_,λp pts x y z hp np hx hy hz n1 n2 n3 dz=>?_,λp pts C hp np hl iC lC wC on=>?_,fd 6,λp pts x hp np hz nx nd h=>?_,λp pts hp np nd hl ha=>?_⟩
 .obtain⟨l,nf,nd,hl,e⟩:=pQ (li 3) hp;exact⟨l,nf,nd,hl,by rw[gF 7,d254];exact e⟩
 .have e:=fi 4 p pts hp np hz;rw[z]at e;obtain⟨x,_,y,_,u,_,rfl⟩:=fu z;rw[gF 7,d227];exact rS (un pts nd) e rfl
 .have e:=fi 4 p pts hp n3.nf (by have:=hp.hi;omega)
  rw[z]at e;obtain⟨C,iC,lC,wC,on,eC⟩:=zD cok hp n3 hl;refine⟨C,iC,lC,wC,on,?_⟩;rw[gF 7,d227];exact rV (un pts n3.nd) e (Iz pts) hl (by rw[gF 6,d224];exact eC)
 .have e:=fi 4 p pts hp n3.nf hz;rw[z]at e;have e2:=ft 1 p pts hp n3.nf n3.nd hz;rw[f]at e2;rw[gF 7,d227];exact rR (un pts n3.nd) e (Iz pts) hl e2 (Iz (x::r)) (by rw[BE];omega) (Gs (pts:=x::r) (i:=0) (by simp))
 .have e:=fi 4 p pts hp n3.nf hz;rw[z]at e;have e2:=ft 1 p pts hp n3.nf n3.nd hz;rw[f]at e2;rw[gF 7,d227];exact rT (un pts n3.nd) e (Iz pts) hl e2 rfl (ee 3 p pts hp n3.nf (Vv f))
 .rw[gF 7,d258];exact pP (fd 5) (cs 6) (sm 6) hp np hx hy hz n1 n2 n3 dz
 .rw[gF 7,d248];exact pW (fd6 5) (λp C hp=>by rw[gF 6,d246];exact lK C hp) (λp C x hp iC ix=>by rw[gF 6,d247];exact pO C x hp iC ix) (cs 6) (sm 6) hp np hl iC lC wC on
 .rw[gF 7,d255];exact pJ (cs 6) (sm 6) hp np hz nx nd h
 .rw[gF 7,d257];exact pU (λp pts x a b hp np nx ha hb ne dz=>by rw[gF 6,d256];exact lO (fd 4) (cs 5) (sm 5) hp np nx ha hb ne dz) (pt 6) hp np nd hl ha
end OvC
namespace OvC
open PySem PySem.Spec PyProof.Rows Ov L2
variable{l:Gb}
noncomputable def W7:Ac (An×Ag×Ag):=([("rest",1,2),("turned_over",9,2),("one_form",17,2),("crossed",23,2),("lies",24,3),("on",56,3),("join",57,3),("measure",61,4),("first_three",65,2),("ask_unlike",194,1),("ask_no_three",109,2),("triples",69,1),("columns",104,1),("sums_by",91,3),("table_of",78,2),("crossed_rows",98,1),("after",105,3),("table_back",106,2),("curve_of",122,2),("plain_curve",123,1),("value",126,3),("points_of",128,2),("twice_table",131,2),("mixed",132,4),("moved",133,3),("scaled",110,2),("frame_table",111,2),("frame_move",112,3),("first_four",195,2),("lines_multiplied",196,2)]:Ac (An×Ag×Ag))++([("five_curve",197,2),("curve_through",198,2),("on_any",221,3),("still_fitting",222,4),("fitting",223,2),("curve_on",224,2),("first_two",225,3),("end_rows",226,2),("look",227,2),("_law_mixed",228,2),("_law_prime",229,1),("_law_form",288,2),("_law_point",231,2),("_law_cross",232,3),("_law_sum",233,3),("_law_three",234,2),("_law_table",250,3),("_law_led",289,3),("_law_oval",290,2),("_law_order",251,3),("_law_rests",236,3),("_law_formed",237,3),("_law_twice",246,2),("_law_value",247,3),("_law_curve_stands",248,3),("_law_list",254,2),("_law_on_two",255,3),("_law_row_stands",256,4),("_law_ends_stand",257,3),("_law_line_stands",258,3)]:Ac (An×Ag×Ag))++([("law",259,1)]:Ac (An×Ag×Ag))
noncomputable def SD:Ac An:=["all", "any", "bool", "enumerate", "int", "isinstance", "len", "list", "max", "min", "range", "set", "sum", "tuple", "zip"]
noncomputable def WM:Ac (An×Ag):=[]
noncomputable def WY:Ac (An×Ag):=[]
noncomputable def W3:Ac (An×Ag):=[]
noncomputable abbrev C74(h:Ak)(n:Ag)(N:Ac An)(i d:Ag):Ak:=Ik 80 h W7 SD WM WY W3 (N.take n) N (tp74 i) (Q74.defs d)
theorem ak:C74 Ae 2 ["p", "n"] 10 1=Aa:=by decide+kernel
theorem aj:C74 Ae 2 ["p", "n", "turned"] 11 9=Aa:=by decide+kernel
theorem ah:C74 Ae 2 ["p", "numbers", "rests", "first", "factor", "#5", "#6"] 13 17=Aa:=by decide+kernel
theorem ag:C74 Ae 2 ["one", "other"] 14 23=Aa:=by decide+kernel
theorem bu:C74 Ae 3 ["p", "point", "line"] 15 24=Aa:=by decide+kernel
theorem bt:C74 Ae 3 ["p", "point", "line"] 17 56=Aa:=by decide+kernel
theorem br:C74 Ae 3 ["p", "one", "other"] 18 57=Aa:=by decide+kernel
theorem bq:C74 Ae 4 ["p", "one", "other", "third"] 19 61=Aa:=by decide+kernel
theorem bp:C74 Ae 2 ["p", "points", "i", "one", "j", "k"] 20 65=Aa:=by decide+kernel
theorem bo:C74 Ae 1 ["points", "place", "point"] 21 194=Aa:=by decide+kernel
theorem tM:C74 Ae 2 ["p", "points", "three"] 22 109=Aa:=by decide+kernel
theorem tL:C74 Ae 1 ["p", "told", "z", "y", "#4"] 23 69=Aa:=by decide+kernel
theorem tK:C74 Ae 1 ["rows"] 25 104=Aa:=by decide+kernel
theorem tJ:C74 Ae 3 ["p", "rows", "numbers", "#3"] 26 91=Aa:=by decide+kernel
theorem tI:C74 Ae 2 ["p", "rows", "nine"] 27 78=Aa:=by decide+kernel
theorem tH:C74 Ae 1 ["table"] 28 98=Aa:=by decide+kernel
theorem tG:C74 Ae 3 ["p", "one", "other", "sides", "#4"] 29 105=Aa:=by decide+kernel
theorem tF:C74 Ae 2 ["p", "table"] 30 106=Aa:=by decide+kernel
theorem tE:C74 Ae 2 ["p", "numbers", "rests", "#3"] 32 122=Aa:=by decide+kernel
theorem tD:C74 Ae 1 ["p"] 33 123=Aa:=by decide+kernel
theorem tB:C74 Ae 3 ["p", "curve", "point", "squares", "products"] 34 126=Aa:=by decide+kernel
theorem sZ:C74 Ae 2 ["p", "curve", "#2"] 35 128=Aa:=by decide+kernel
theorem sY:C74 Ae 2 ["p", "curve"] 36 131=Aa:=by decide+kernel
theorem sX:C74 Ae 4 ["p", "curve", "one", "other", "sums"] 37 132=Aa:=by decide+kernel
theorem sW:C74 Ae 3 ["p", "curve", "table", "sides", "squares", "products", "#6"] 38 133=Aa:=by decide+kernel
theorem sV:C74 Ae 2 ["factor", "point", "#2"] 40 110=Aa:=by decide+kernel
theorem sU:C74 Ae 2 ["p", "four", "sides"] 41 111=Aa:=by decide+kernel
theorem sT:C74 Ae 3 ["p", "four", "goals"] 42 112=Aa:=by decide+kernel
theorem sS:C74 Ae 2 ["p", "points", "place", "four"] 44 195=Aa:=by decide+kernel
theorem sR:C74 Ae 2 ["one", "other"] 45 196=Aa:=by decide+kernel
theorem sQ:C74 Ae 2 ["p", "points", "one", "other", "by_one", "by_other", "#6", "#7"] 46 197=Aa:=by decide+kernel
theorem sP:C74 Ae 2 ["p", "points", "four"] 47 198=Aa:=by decide+kernel
theorem sO:C74 Ae 3 ["p", "point", "lines", "line"] 49 221=Aa:=by decide+kernel
theorem sN:C74 Ae 4 ["p", "points", "further_point", "left", "lines", "#5", "#6"] 50 222=Aa:=by decide+kernel
theorem sK:C74 Ae 2 ["p", "points", "left", "place", "point"] 51 223=Aa:=by decide+kernel
theorem uM:C74 Ae 2 ["p", "points", "plain"] 52 224=Aa:=by decide+kernel
theorem uL:C74 Ae 3 ["p", "points", "point", "place", "one", "other"] 53 225=Aa:=by decide+kernel
theorem uK:C74 Ae 2 ["p", "points", "#2"] 54 226=Aa:=by decide+kernel
theorem uJ:C74 Ae 2 ["p", "points", "three", "left"] 55 227=Aa:=by decide+kernel
theorem uI:C74 Ae 2 ["_law_script", "_law_k", "_law_cell", "_law_step"] 57 228=Aa:=by decide+kernel
theorem uH:C74 Ae 1 ["_law_script"] 58 229=Aa:=by decide+kernel
theorem uG:C74 Ae 2 ["_law_p", "_law_numbers", "_law_rests_here", "_law_first", "_law_back", "#5", "#6", "#7", "#8"] 59 288=Aa:=by decide+kernel
theorem uF:C74 Ae 2 ["_law_p", "_law_number"] 60 231=Aa:=by decide+kernel
theorem uE:C74 Ae 3 ["_law_p", "_law_one", "_law_other", "_law_x", "_law_y", "_law_z"] 61 232=Aa:=by decide+kernel
theorem uD:C74 Ae 3 ["_law_p", "_law_one", "_law_other"] 62 233=Aa:=by decide+kernel
theorem uC:C74 Ae 2 ["_law_p", "_law_points", "_law_i", "_law_j", "_law_line", "_law_k"] 63 234=Aa:=by decide+kernel
theorem uB:C74 Ae 3 ["_law_p", "_law_script", "_law_at", "_law_rows", "_law_k", "_law_number", "_law_i", "_law_j", "_law_many", "#9", "#10", "#11"] 65 250=Aa:=by decide+kernel
theorem uA:C74 Ae 3 ["_law_p", "_law_rows", "_law_point_here", "#3"] 66 289=Aa:=by decide+kernel
theorem tZ:C74 Ae 2 ["_law_p", "_law_rows", "_law_points", "_law_t"] 67 290=Aa:=by decide+kernel
theorem tY:C74 Ae 3 ["_law_script", "_law_at", "_law_things", "_law_told", "_law_k", "_law_spot"] 68 251=Aa:=by decide+kernel
theorem tX:C74 Ae 3 ["_law_p", "_law_found", "_law_many", "#3"] 69 236=Aa:=by decide+kernel
theorem tW:C74 Ae 3 ["_law_p", "_law_found", "_law_many", "#3"] 70 237=Aa:=by decide+kernel
theorem tV:C74 Ae 2 ["_law_p", "_law_curve", "_law_a", "_law_b", "_law_c", "_law_d", "_law_e", "_law_f"] 71 246=Aa:=by decide+kernel
theorem tU:C74 Ae 3 ["_law_p", "_law_curve", "_law_point_here", "_law_x", "_law_y", "_law_z", "_law_parts", "#7", "#8"] 72 247=Aa:=by decide+kernel
theorem tT:C74 Ae 3 ["_law_p", "_law_points", "_law_curve", "_law_rows", "#4"] 73 248=Aa:=by decide+kernel
theorem tS:C74 Ae 2 ["_law_p", "_law_script", "_law_points", "_law_more", "_law_k", "_law_point_here"] 74 254=Aa:=by decide+kernel
theorem tR:C74 Ae 3 ["_law_p", "_law_points", "_law_point_here", "_law_i", "_law_j"] 75 255=Aa:=by decide+kernel
theorem tQ:C74 Ae 4 ["_law_p", "_law_points", "_law_point_here", "_law_row", "#4"] 76 256=Aa:=by decide+kernel
theorem tP:C74 Ae 3 ["_law_p", "_law_points", "_law_rows", "_law_left", "#4", "#5", "#6", "#7"] 77 257=Aa:=by decide+kernel
theorem tO:C74 Ae 3 ["_law_p", "_law_points", "_law_three_here", "#3", "#4"] 78 258=Aa:=by decide+kernel
theorem Vo:C74 Ae 1 ["_law_script", "_law_p", "_law_points", "_law_handed", "_law_found"] 79 259=Aa:=by decide+kernel
set_option maxHeartbeats 0 in
theorem all74{w:AH}{K:Fg}{h:AM}{mg:An->Aq Ai}{fa f0 f1 f2 f3 f4 f5 f6 f7 f8 f9 f10 f11 f12 f13 f14 f15 f16 f17 f18 f19 f20 f21 f22 f23 f24 f25 f26 f27 f28 f29 f30 f31 f32 f33 f34 f35 f36 f37 f38 f39 f40 f41 f42 f43 f44 f45 f46 f47 f48 f49 f50 f51 f52 f53 f54 f55 f56 f57 f58 f59 f60:Am}(X:K.In h)(G:h.Ns Bg mg)(hfa:mg "law" = Ab (.ref fa))(a0:FnI K f0 "rest" (tp74 10))(a1:FnI K f1 "turned_over" (tp74 11))(a2:FnI K f2 "one_form" (tp74 13))(a3:FnI K f3 "crossed" (tp74 14))(a4:FnI K f4 "lies" (tp74 15))(a5:FnI K f5 "on" (tp74 17))(a6:FnI K f6 "join" (tp74 18))(a7:FnI K f7 "measure" (tp74 19))(a8:FnI K f8 "first_three" (tp74 20))(a9:FnI K f9 "ask_unlike" (tp74 21))(a10:FnI K f10 "ask_no_three" (tp74 22))(a11:FnI K f11 "triples" (tp74 23))(a12:FnI K f12 "columns" (tp74 25))(a13:FnI K f13 "sums_by" (tp74 26))(a14:FnI K f14 "table_of" (tp74 27))(a15:FnI K f15 "crossed_rows" (tp74 28))(a16:FnI K f16 "after" (tp74 29))(a17:FnI K f17 "table_back" (tp74 30))(a18:FnI K f18 "curve_of" (tp74 32))(a19:FnI K f19 "plain_curve" (tp74 33))(a20:FnI K f20 "value" (tp74 34))(a21:FnI K f21 "points_of" (tp74 35))(a22:FnI K f22 "twice_table" (tp74 36))(a23:FnI K f23 "mixed" (tp74 37))(a24:FnI K f24 "moved" (tp74 38))(a25:FnI K f25 "scaled" (tp74 40))(a26:FnI K f26 "frame_table" (tp74 41))(a27:FnI K f27 "frame_move" (tp74 42))(a28:FnI K f28 "first_four" (tp74 44))(a29:FnI K f29 "lines_multiplied" (tp74 45))(a30:FnI K f30 "five_curve" (tp74 46))(a31:FnI K f31 "curve_through" (tp74 47))(a32:FnI K f32 "on_any" (tp74 49))(a33:FnI K f33 "still_fitting" (tp74 50))(a34:FnI K f34 "fitting" (tp74 51))(a35:FnI K f35 "curve_on" (tp74 52))(a36:FnI K f36 "first_two" (tp74 53))(a37:FnI K f37 "end_rows" (tp74 54))(a38:FnI K f38 "look" (tp74 55))(a39:FnI K f39 "_law_mixed" (tp74 57))(a40:FnI K f40 "_law_prime" (tp74 58))(a41:FnI K f41 "_law_form" (tp74 59))(a42:FnI K f42 "_law_point" (tp74 60))(a43:FnI K f43 "_law_cross" (tp74 61))(a44:FnI K f44 "_law_sum" (tp74 62))(a45:FnI K f45 "_law_three" (tp74 63))(a46:FnI K f46 "_law_table" (tp74 65))(a47:FnI K f47 "_law_led" (tp74 66))(a48:FnI K f48 "_law_oval" (tp74 67))(a49:FnI K f49 "_law_order" (tp74 68))(a50:FnI K f50 "_law_rests" (tp74 69))(a51:FnI K f51 "_law_formed" (tp74 70))(a52:FnI K f52 "_law_twice" (tp74 71))(a53:FnI K f53 "_law_value" (tp74 72))(a54:FnI K f54 "_law_curve_stands" (tp74 73))(a55:FnI K f55 "_law_list" (tp74 74))(a56:FnI K f56 "_law_on_two" (tp74 75))(a57:FnI K f57 "_law_row_stands" (tp74 76))(a58:FnI K f58 "_law_ends_stand" (tp74 77))(a59:FnI K f59 "_law_line_stands" (tp74 78))(a60:FnI K f60 "law" (tp74 79))(z0:BZ K Bg "all" = Ab Af)(z1:BZ K Bg "any" = Ab Af)(z2:BZ K Bg "bool" = Ab Af)(z3:BZ K Bg "enumerate" = Ab Af)(z4:BZ K Bg "int" = Ab Af)(z5:BZ K Bg "isinstance" = Ab Af)(z6:BZ K Bg "len" = Ab Af)(z7:BZ K Bg "list" = Ab Af)(z8:BZ K Bg "max" = Ab Af)(z9:BZ K Bg "min" = Ab Af)(z10:BZ K Bg "range" = Ab Af)(z11:BZ K Bg "set" = Ab Af)(z12:BZ K Bg "sum" = Ab Af)(z13:BZ K Bg "tuple" = Ab Af)(z14:BZ K Bg "zip" = Ab Af):
    ∃ fd:CA,(∀(s:As)(v:Ai),HF s fd ⟨[v],[]⟩ [("_law_script",v)])/\∀ base:AM,K.In base->base.Ns Bg mg->FnOk l.prog w K mg base (CXR l.prog w) 9 fa fd ["_law_script"] (MU K):=by
  obtain⟨_,F,e⟩:=a60;obtain⟨_,_,_,_,_,_,_,_,_,rfl,_,_⟩:=F.ex;cases hfa.symm.trans (JC X G e);have T:Tab K mg (λ_=>Af) W7 SD WM WY W3 Q74 80:=⟨mX λ_ _=>rfl,all_cons (BN X G z0) (all_cons (BN X G z1) (all_cons (BN X G z2) (all_cons (BN X G z3) (all_cons (BN X G z4) (all_cons (BN X G z5) (all_cons (BN X G z6) (all_cons (BN X G z7) (all_cons (BN X G z8) (all_cons (BN X G z9) (all_cons (BN X G z10) (all_cons (BN X G z11) (all_cons (BN X G z12) (all_cons (BN X G z13) (all_cons (BN X G z14) (QT))))))))))))))),QT,all_cons (DW 2 1 X G a0 rfl ak λ_ _ _ _ _ _ _ _=>rfl) (all_cons (DW 2 9 X G a1 rfl aj λ_ _ _ _ _ _ _ _=>rfl) (all_cons (DW 2 17 X G a2 rfl ah λ_ _ _ _ _ _ _ _=>rfl) (all_cons (DW 2 23 X G a3 rfl ag λ_ _ _ _ _ _ _ _=>rfl) (all_cons (EO 3 24 X G a4 rfl bu λ_ _ _ _ _ _ _ _ _=>rfl) (all_cons (EO 3 56 X G a5 rfl bt λ_ _ _ _ _ _ _ _ _=>rfl) (all_cons (EO 3 57 X G a6 rfl br λ_ _ _ _ _ _ _ _ _=>rfl) (all_cons (ON 4 61 X G a7 rfl bq λ_ _ _ _ _ _ _ _ _ _=>rfl) (all_cons (DW 2 65 X G a8 rfl bp λ_ _ _ _ _ _ _ _=>rfl) (all_cons (KF 1 194 X G a9 rfl bo λ_ _ _ _ _ _ _=>rfl) (all_cons (DW 2 109 X G a10 rfl tM λ_ _ _ _ _ _ _ _=>rfl) (all_cons (KF 1 69 X G a11 rfl tL λ_ _ _ _ _ _ _=>rfl) (all_cons (KF 1 104 X G a12 rfl tK λ_ _ _ _ _ _ _=>rfl) (all_cons (EO 3 91 X G a13 rfl tJ λ_ _ _ _ _ _ _ _ _=>rfl) (all_cons (DW 2 78 X G a14 rfl tI λ_ _ _ _ _ _ _ _=>rfl) (all_cons (KF 1 98 X G a15 rfl tH λ_ _ _ _ _ _ _=>rfl) (all_cons (EO 3 105 X G a16 rfl tG λ_ _ _ _ _ _ _ _ _=>rfl) (all_cons (DW 2 106 X G a17 rfl tF λ_ _ _ _ _ _ _ _=>rfl) (all_cons (DW 2 122 X G a18 rfl tE λ_ _ _ _ _ _ _ _=>rfl) (all_cons (KF 1 123 X G a19 rfl tD λ_ _ _ _ _ _ _=>rfl) (all_cons (EO 3 126 X G a20 rfl tB λ_ _ _ _ _ _ _ _ _=>rfl) (all_cons (DW 2 128 X G a21 rfl sZ λ_ _ _ _ _ _ _ _=>rfl) (all_cons (DW 2 131 X G a22 rfl sY λ_ _ _ _ _ _ _ _=>rfl) (all_cons (ON 4 132 X G a23 rfl sX λ_ _ _ _ _ _ _ _ _ _=>rfl) (all_cons (EO 3 133 X G a24 rfl sW λ_ _ _ _ _ _ _ _ _=>rfl) (all_cons (DW 2 110 X G a25 rfl sV λ_ _ _ _ _ _ _ _=>rfl) (all_cons (DW 2 111 X G a26 rfl sU λ_ _ _ _ _ _ _ _=>rfl) (all_cons (EO 3 112 X G a27 rfl sT λ_ _ _ _ _ _ _ _ _=>rfl) (all_cons (DW 2 195 X G a28 rfl sS λ_ _ _ _ _ _ _ _=>rfl) (all_cons (DW 2 196 X G a29 rfl sR λ_ _ _ _ _ _ _ _=>rfl) (all_cons (DW 2 197 X G a30 rfl sQ λ_ _ _ _ _ _ _ _=>rfl) (all_cons (DW 2 198 X G a31 rfl sP λ_ _ _ _ _ _ _ _=>rfl) (all_cons (EO 3 221 X G a32 rfl sO λ_ _ _ _ _ _ _ _ _=>rfl) (all_cons (ON 4 222 X G a33 rfl sN λ_ _ _ _ _ _ _ _ _ _=>rfl) (all_cons (DW 2 223 X G a34 rfl sK λ_ _ _ _ _ _ _ _=>rfl) (all_cons (DW 2 224 X G a35 rfl uM λ_ _ _ _ _ _ _ _=>rfl) (all_cons (EO 3 225 X G a36 rfl uL λ_ _ _ _ _ _ _ _ _=>rfl) (all_cons (DW 2 226 X G a37 rfl uK λ_ _ _ _ _ _ _ _=>rfl) (all_cons (DW 2 227 X G a38 rfl uJ λ_ _ _ _ _ _ _ _=>rfl) (all_cons (DW 2 228 X G a39 rfl uI λ_ _ _ _ _ _ _ _=>rfl) (all_cons (KF 1 229 X G a40 rfl uH λ_ _ _ _ _ _ _=>rfl) (all_cons (DW 2 288 X G a41 rfl uG λ_ _ _ _ _ _ _ _=>rfl) (all_cons (DW 2 231 X G a42 rfl uF λ_ _ _ _ _ _ _ _=>rfl) (all_cons (EO 3 232 X G a43 rfl uE λ_ _ _ _ _ _ _ _ _=>rfl) (all_cons (EO 3 233 X G a44 rfl uD λ_ _ _ _ _ _ _ _ _=>rfl) (all_cons (DW 2 234 X G a45 rfl uC λ_ _ _ _ _ _ _ _=>rfl) (all_cons (EO 3 250 X G a46 rfl uB λ_ _ _ _ _ _ _ _ _=>rfl) (all_cons (EO 3 289 X G a47 rfl uA λ_ _ _ _ _ _ _ _ _=>rfl) (all_cons (DW 2 290 X G a48 rfl tZ λ_ _ _ _ _ _ _ _=>rfl) (all_cons (EO 3 251 X G a49 rfl tY λ_ _ _ _ _ _ _ _ _=>rfl) (all_cons (EO 3 236 X G a50 rfl tX λ_ _ _ _ _ _ _ _ _=>rfl) (all_cons (EO 3 237 X G a51 rfl tW λ_ _ _ _ _ _ _ _ _=>rfl) (all_cons (DW 2 246 X G a52 rfl tV λ_ _ _ _ _ _ _ _=>rfl) (all_cons (EO 3 247 X G a53 rfl tU λ_ _ _ _ _ _ _ _ _=>rfl) (all_cons (EO 3 248 X G a54 rfl tT λ_ _ _ _ _ _ _ _ _=>rfl) (all_cons (DW 2 254 X G a55 rfl tS λ_ _ _ _ _ _ _ _=>rfl) (all_cons (EO 3 255 X G a56 rfl tR λ_ _ _ _ _ _ _ _ _=>rfl) (all_cons (ON 4 256 X G a57 rfl tQ λ_ _ _ _ _ _ _ _ _ _=>rfl) (all_cons (EO 3 257 X G a58 rfl tP λ_ _ _ _ _ _ _ _ _=>rfl) (all_cons (EO 3 258 X G a59 rfl tO λ_ _ _ _ _ _ _ _ _=>rfl) (all_cons (KF 1 259 X G ⟨_,F,e⟩ rfl Vo λ_ _ _ _ _ _ _=>rfl) (QT)))))))))))))))))))))))))))))))))))))))))))))))))))))))))))))⟩
  exact⟨_,λs v=>.of_eq rfl,λbase _ _=>rZ (Wt T (Rg T 8) (W4 F) rfl Vo) Z_0⟩
theorem walk74{q:AU}{loose:Ac An}{XP:(An->Aq Ai)->AM->Prop}{YP:AH->AM->Prop}{d:DefRec}{K:LZ->Fg}(hn:l.most=Ab 63)(hdf:d.params.defaults=[])(hY:∀(w:AH)(h:AM),YP w h->(K w.params).In h)(F:∀(w:AH)(mg:An->Aq Ai)(fa:Am)(h:AM),(K w.params).In h->h.Ns Bg mg->mg d.name=Ab (.ref fa) ->
   ∃ fd:CA,(∀(s:As)(u:Ai),HF s fd ⟨[u],[]⟩ [("_law_script",u)])/\∀ base:AM,(K w.params).In base->base.Ns Bg mg->FnOk l.prog w (K w.params) mg base (CXR l.prog w) 9 fa fd ["_law_script"] (MU (K w.params))):Zo q loose XP YP l.row.toRowW d [] (λf vs=>KO f vs):=
 L2.walk_of (n:=63) (k:=9) (x := "_law_script") (CX:=λw=>CXR l.prog w) (sp:=λw=>MU (K w.params)) hn (by decide) hdf ⟨rfl,by decide,by decide,rfl⟩ hY F (λ_ H a ns hl _ hS=>⟨a,ns,rfl,hl,hS,λ_ _ z=>z⟩) λ_ _ _ _ _ z=>b8 z
end OvC
open PySem PySem.W PyProof.Rows
set_option hygiene false
set_option maxRecDepth 100000 in
set_option maxHeartbeats 0 in
theorem PySem.Challenge.cw_ovalfield_k74_whole_one_of_four_holds : PySem.Challenge.rw_ovalfield_k74_whole_one_of_four.Holds := by
 refine OvC.hold74.go OvC.reck74_1 OvC.reck74_2 OvC.reck74_3 OvC.reck74_4 OvC.reck74_5 OvC.reck74_6 OvC.reck74_7 OvC.reck74_8 OvC.reck74_9 OvC.reck74_10 OvC.reck74_11 ?_;intro said;refine OvC.walk74 (l:=PySem.Challenge.rw_ovalfield_k74_whole_one_of_four) rfl rfl (λw h Y_=>Zq Y_) ?F
 case F=>
  intro w mg fa h KX G hmg
  refine' OvC.all74 KX G hmg ?a0 ?a1 ?a2 ?a3 ?a4 ?a5 ?a6 ?a7 ?a8 ?a9 ?a10 ?a11 ?a12 ?a13 ?a14 ?a15 ?a16 ?a17 ?a18 ?a19 ?a20 ?a21 ?a22 ?a23 ?a24 ?a25 ?a26 ?a27 ?a28 ?a29 ?a30 ?a31 ?a32 ?a33 ?a34 ?a35 ?a36 ?a37 ?a38 ?a39 ?a40 ?a41 ?a42 ?a43 ?a44 ?a45 ?a46 ?a47 ?a48 ?a49 ?a50 ?a51 ?a52 ?a53 ?a54 ?a55 ?a56 ?a57 ?a58 ?a59 ?a60 ?z0 ?z1 ?z2 ?z3 ?z4 ?z5 ?z6 ?z7 ?z8 ?z9 ?z10 ?z11 ?z12 ?z13 ?z14
  case a0|a1|a2|a3|a4|a5|a6|a7|a8|a9|a10|a11|a12|a13|a14|a15|a16|a17|a18|a19|a20|a21|a22|a23|a24|a25|a26|a27|a28|a29|a30|a31|a32|a33|a34|a35|a36|a37|a38|a39|a40|a41|a42|a43|a44|a45|a46|a47|a48|a49|a50|a51|a52|a53|a54|a55|a56|a57|a58|a59|a60=>(refine' Ov.fni ?a ?l ?c ?k;(case a=>k_is);(case l=>k_is);(case c=>k_is);(case k=>k_is))
  case z0|z1|z2|z3|z4|z5|z6|z7|z8|z9|z10|z11|z12|z13|z14=>k_is
import PyProof.Rows.All
import Wide.All
import OpenK.AllK
import Wide.FinOn
import PyProof.EqAt
import KE.KSortTup
import PyProof.EqKinds
import PyProof.TupleCall
import Lean
import KE.KRevIter
import PyProof.ListRange
import PyProof.CollectIter
import PySem.Challenge.RW_ovalfield_k72_whole_curve_of_a_set
set_option Elab.async false
set_option linter.all false
set_option maxRecDepth 100000
set_option maxHeartbeats 4000000
open Bool renaming true→Aa,false→Af,and_eq_true→Aq,false_ne_true→AW,not_eq_true'→Cr,or_eq_true→C3,eq_iff_iff→DZ,or_false→Fh,false_eq_true→FA,and_false→FJ,and_true→Wr
open Option renaming some→Ab,none→Ae,bind_eq_some_iff→DM,map_some→D5,map→GC,getD_none→WZ
open _root_ renaming List→Ac,Int→Ad,Nat→Ag,Bool→Aj,Option→Ap,if_pos→AI,if_neg→AV,Array→AY,decide_eq_true_eq→Bl,False→Bz,beq_iff_eq→BD,or_false→BO,of_decide_eq_true→BX,dif_neg→CG,decide_eq_false→CM,String→Dj,beq_eq_false_iff_ne→DQ,not_or→DR,beq_self_eq_true→Ew,if_false→Gn,Decidable→Gp,True→GL,not_false_eq_true→Hz,if_true→HG,Unit→IY,and_true→Jl,bne_iff_ne→KC,eq_true→Ly,beq_false_of_ne→cv
open PySem renaming wpAny_bind→Ah,Value→Ai,Str→Al,Addr→Am,Expr→An,Shared→As,wpAny_pure→Av,wpAny→AB,World→AE,starEach→AF,Heap→AJ,Program→AT,Pos→A7,Around→Bc,mainGlobals→Bf,wpAny_field→Bh,Stmt→Bx,wpAny_seqItems→BW,wpAny_setField_rec→B7,wpAny_callSpecial?_slot→Ca,wpAny_holding→Ck,rawInt→Co,Scope→Cq,FuncData→Cs,binaryOp→Ct,assignEach→Cz,cLine→CH,wpAny_newObj_type→CI,wpAny_call_entry→CN,wpAny_mono→CO,Env→CU,compareOp→CW,foldedSetIterable→CY,wpAny_truthy_bool→CZ,mem_of_lookup→C0,backTo→C4,Obj→Dg,bootBuiltins→Dr,cellsFrom→Dy,CmpOp→DA,Tok→DF,swapsWith→DJ,wpAny_onRaise→DK,sizeLine_eq→DT,pyNext→Ed,wpAny_pyIter_list→Ee,NameKind→Eu,Keyword→EH,wpAny_updateSeq→EK,IsPair→EZ,builtinLookup_eq_fast→E1,GenState→Fb,wpAny_attempt→Fj,sliceBounds→Fl,wpAny_letGo→Fm,codeAny_builtin→Fv,wpAny_passesOwn→Fw,wpAny_specialOf→Fx,wpAny_pyIter_tuple→FD,codeAny→FP,wpAny_setField→FQ,attributeBase→F9,plainId_quiet→Ga,swappedStores→Gb,Operator→Ge,PassesOwn→Gu,IsZip→GE,letOwnedTupleGo→GH,typeLookup_type→GI,wpAny_rule→GJ,wpAny_updateSeq_pair→GK,pushCells→Hd,seqIndex?→He,wpAny_Call_Name_kw→Hf,Sem→Hh,behindInMarks→Hi,swapsWithSole→Hj,wpAny_standAt→Hk,typeLookup→HA,BindsTo→HB,callerA→HC,IsPart→HL,Paired→HM,wpAny_isInstance→HN,pushCells_keeps→Il,updateSeq→Im,keywordEach→Iq,OsState→IK,isTrue→IM,newFunctionEnv→IN,notedBy→IP,wpAny_newTuple→IQ,Drawn→IS,bindC→IT,bindL→IU,builtinsNs→IV,call_meets→IW,numAt→IX,Comprehension→Jo,Result→Ju,callType_new→Jw,codeAny_mono→Jx,concat_meets→Jy,lastMarks→Jz,noteFrame→JA,preSum→JB,seqIndex_neg→JC,Model→JR,UnaryOp→JS,getItem→JT,standAt→JU,seqIndex_of→JW,backToKw→JX,call→Ky,pyIter→Kz,sysModules→KA,wpAny_Name→KB,IntMulOk→LD,Params→LF,bindArgs→LG,intItems→LH,callType_codes→Yt,call_sum_walkG→Yu,checkBuiltinCall→Yv,firstArgMember→Yw,isSubtype_stop→Yx,noFill_tuple_add→Yy,recursionLimit→Yz,slot_list_getitem→YA,wpAny_assign_Name→YB,wpAny_comprehension_free→YC,wpAny_execs_nil→YD,wpAny_pyIter_enum→YE,wpAny_pyIter_zip→YF,wpAny_pyNext_list_end→YG,wpAny_pyNext_list_item→YH
open PySem.Heap renaming get?_push_of_some→Ar,get?_push_size→Aw,lt_size→Ax,size_push→Bm,get?_update_other→B6,get?_update_self→B8,SameBut→EY,get?_none_of_le→GD,ExtBut→Ip,get?_push_cases→X2
open List renaming mem_cons→At,mem_cons_of_mem→Au,mem_cons_self→Az,size_toArray→AC,not_mem_nil→AR,getElem?_eq_some_iff→AX,length_map→AZ,mem_range→A3,range→A4,length_set→Bj,mem_append_right→BE,mem_map→BL,map_cons→BP,getElem?_eq_getElem→BS,length_cons→BU,nodup_cons→BZ,lookup_cons→B4,length_append→Ch,mem_singleton→Ci,exists_of_findSome?_eq_some→Cn,getElem?_set_self→CA,getElem_mem→CB,findSome?_eq_none_iff→CT,length_erase_of_mem→Da,append_nil→Do,map_map→DC,mem_of_getElem?→DD,getElem?_map→DH,getElem_of_mem→DO,map_congr_left→DP,forIn_nil→DS,forIn_cons→D4,getD_eq_getElem?_getD→D7,drop_eq_getElem_cons→Eg,isEmpty_eq_false_iff→Eh,filter_cons→Eo,getElem?_cons_succ→Ez,getElem?_cons_zero→EA,mem_filter→EJ,range_succ_eq_map→EL,take_of_length_le→EM,length_singleton→ET,isEmpty_iff→E7,length_take→E8,getElem?_append_left→Fs,nodup_nil→FK,getElem?_set_self'→FR,ext_getElem?→FU,reverse_cons→FV,drop_eq_nil_of_le→F3,all_eq_true→Gc,zipIdx_cons→Gd,getElem?_eq_none→Gq,getElem?_toArray→Gr,take_append_drop→Gs,getElem?_set_ne→Gx,map_nil→Gy,mem_append_left→Gz,toArray→GA,zipIdx_nil→GB,filterMap_cons→GS,findSome?_cons→GU,length_reverse→GV,replicate→GZ,zip_cons_cons→Ha,all_cons→Hg,getElem?_set→Hu,length_range→Hv,take_sublist→Hw,getElem_inj→HI,set_set→HJ,map_append→Ii,of_mem_zip→Ik,any_cons→Jm,map→LB,any_eq_true→WB,contains_eq_mem→WC,drop_zero→WD,getElem?_append_right→WE,getElem?_of_mem→WF,getElem?_replicate→WG,getElem_set→WH,length→WI,length_drop→WJ,length_replicate→WK,lookup→WL,lookup_cons_self→WM,mem_append→WN,mem_erase_of_ne→WO,mem_of_mem_take→WP,mem_or_eq_of_mem_set→WQ,nodup_append→WR,nodup_iff_pairwise_ne→WS,pairwise_iff_getElem→WT
open Int renaming emod_eq_of_lt→AD,emod_lt_of_pos→AG,emod_nonneg→AK,emod_emod_of_dvd→AQ,mul_emod→Bg,dvd_refl→Bs,zero_emod→Bt,mul_comm→BK,mul_zero→Cw,one_mul→CK,zero_add→C9,mul_one→DB,zero_mul→FB,toNat_natCast→FT,mul_assoc→F7,sub_zero→Gw,mul_nonneg→GY,le_refl→G9,le_trans→Jr,mul_pos→JV,add_emod→Ws,ediv_nonneg→Wt,mul_le_mul→Wu,ne_of_gt→Wv,sub_emod→Ww,toNat_of_nonneg→Wx,zero_sub→Wy
open Nat renaming lt_of_lt_of_le→AH,ne_of_lt→A1,le_refl→A6,lt_irrefl→Bu,le_trans→Cb,ne_of_gt→CJ,lt_succ_of_lt→DI,lt_of_le_of_lt→DU,zero_le→Em,ble→En,le_add_right→Ep,ble_eq_true_of_le→EU,le_of_ble_eq_true→EV,le_of_lt→EW,lt_succ_self→E9,pow_le_pow_right→Fa,not_lt_zero→Ft,zero_add→FC,not_lt→FM,add_le_add_left→GW,lt_or_gt_of_ne→Hb,le_succ→Io,le_of_eq→Js,lt_of_succ_lt_succ→WU,lt_trans→WV,min_eq_left→WW,min_self→WX,succ_le_succ→WY
open PySem.Str renaming ofString→AN
open PySem.Builtin.SmallTypes renaming nextOf→A2,ownedTupleIsFree→A5,ownedTupleHandOut→Db
open PySem.W.Fast renaming te10274390034422433532→A8,te14082659384304107361→A9,te14289696077712309145→Ba,te14364793385576792824→Bb,te1435165496053646825→Be
open Prod renaming ext→Bo
open Ne renaming symm→BA
open PySem.W renaming mg_none_of→BF,nsIn→BY,findIn→CV,fencedOpening→De,emptyDict→Dk,keepIn→Dx,fnOf→DV,instObj→D6,openEnds→EN,topFrom→Fk,codeIn→FO,OpenLaw→F6,methodObj→Hy,lookIn→IL,mg_of→Jp,WalkO→Ym,cellsFrom_some→Yn,kIn_of→Yo,kitOne→Yp,plainGet→Yq,subIn→Yr
open Array renaming getElem?_eq_getElem→BN,length_toList→DN,getElem?_eq_some_iff→Ff,getElem?_toList→Go,toArray_toList→Gv,getElem?_push→GR,toList→Jq,forIn_toList→Wo,mem_toList_iff→Wp,size_push→Wq
open PyProof.Rows renaming callWith_type1→BR,envOfC→Fi,AllBare→FN,boot_tuple→FS,boot_list→F4,IntsAre→IJ,Call_→IR,IsTup→JQ,boot_zip→W1,slicePart_none→W2,slot_tuple_getitem→W3,subscriptTail_builtinR→W4
open Option.some renaming inj→BV,injEq→Cc
open PySem.NameKind renaming cell→B9,free→D9
open PySem.Obj renaming mapSeq→Cd,data_mapFields→Dv,isFreed_of_fields→E0,mapFields→F8,cls_mapFields→X3
open List.Nodup renaming mem_erase_iff→Cm
open PySem.F renaming slot_zip_next→Cy,slot_tuple_iterator_next→D8,args_zip_next_1→Ec,entry_zip_next→Et,plain_extend_loop→Ey,plainAttrs_list→EB,slot_list_extend→EX,args_list_extend_2→XF,args_object_init_2→XG,args_tuple_add_2→XH,args_tuple_iterator_next_1→XI,called_zip→XJ,entry_extend_loop→XM,entry_list_extend→XN,entry_tuple_add→XO,entry_tuple_iterator_next→XQ,entry_zip_new→XS,plain_list_iadd→XU,plain_tuple_new→XV,slot_tuple_add→XX,slot_zip_iter→XY,type_list_extend→XZ
open PySem.Builtin.Tuple renaming tupleExact→Dc
open PySem.Builtin.List renaming listExtendWith→Dp,listTooLong→DE,listSameRef→Er,listItems→W7,listLengthHint→W8
open PySem.Value renaming ref→Dq,none→Dt,type→Ek,bool→Yh,int→Yi,str→Yj
open Classical renaming byContradiction→Dz,choose_spec→D0,choose→HH
open False renaming elim→Ef
open PySem.Around renaming under_plainId→Ei
open PySem.Builtin.Slice renaming slicePlaces→Ej,sliceAdjust→Fu,sliceApplied→W9
open ForInStep renaming yield→EI
open PySem.Shared renaming heap→F5
open PySem.SeqAt renaming EqAt→GF,RcNeAt→Jv,RcAt→Kw
open PySem.Heap.SameBut renaming update→GX,refl→X1
open PySem.Calls renaming spliced_cons→Hc,spliced_nil→Hx,Name_function_global→Xa
open Function renaming comp_def→Ht
open Sum renaming inl→HE,inr→HF
open Nat.succ renaming inj→HK
open List.cons renaming injEq→Ih
open Prod.mk renaming injEq→Jn
open PyProof.Rows.IsTup renaming new→Jt
open PySem.Walks renaming list→Kx,tuple→Ys
open NeZero renaming ne→Lz
open PySem.Data renaming cell→LA,seq→LC
open Eq renaming symm→Ms
open List.Perm renaming cons→Wz,refl→WA
open PySem.AutoSeq1 renaming wpAny_loadPart'→W5
open PySem.Builtin.Int renaming intBits→W6
open PySem.EntryCells renaming newEntry→Xb
open PySem.Expr renaming Attribute→Xc,BinOp→Xe,BoolOp→Xg,Call→Xi,Compare→Xk,Constant→Xm,List→Xo,ListComp→Xq,Name→Xs,Slice→Xv,Subscript→Xy,Tuple→XB,UnaryOp→XD
open PySem.Expr.Attribute renaming elim→Xd
open PySem.Expr.BinOp renaming elim→Xf
open PySem.Expr.BoolOp renaming elim→Xh
open PySem.Expr.Call renaming elim→Xj
open PySem.Expr.Compare renaming elim→Xl
open PySem.Expr.Constant renaming elim→Xn
open PySem.Expr.List renaming elim→Xp
open PySem.Expr.ListComp renaming elim→Xr
open PySem.Expr.Name renaming elim→Xu
open PySem.Expr.Slice renaming elim→Xx
open PySem.Expr.Subscript renaming elim→Xz
open PySem.Expr.Tuple renaming elim→XC
open PySem.Expr.UnaryOp renaming elim→XE
open PySem.Heap.IsRevIter renaming typeIs→X0
open PySem.Paired renaming length→X4
open PySem.SeqAt.EqAt renaming of_refs→X5,same→X6
open PySem.Stmt renaming Assign→X7,Expr→X9,Return→Ye
open PySem.Stmt.Assign renaming elim→X8
open PySem.Stmt.Expr renaming elim→Yb
open PySem.Stmt.For renaming elim→Yc
open PySem.Stmt.If renaming elim→Yd
open PySem.Stmt.Return renaming elim→Yg
open PySem.W.WData renaming int→Yk
open PySem.W.WShape renaming has→Yl
abbrev Fg:=PySem.W.Frag
abbrev Pn:=Ac (PySem.Addr×PySem.Obj)
abbrev Vq:=PySem.Value->PySem.Shared->Prop
set_option genSizeOfSpec false
section
open PySem PySem.W PyProof.Rows
namespace OvC
set_option genInjectivity false in
structure Eleven (P:Prop) where
 (α1 α2 α3 α4 α5 α6 α7 α8 α9 α10 α11:Type)
 (l1 r1:AE->α1)
 (l2 r2:AE->α2)
 (l3 r3:AE->α3)
 (l4 r4:AE->α4)
 (l5 r5:AE->α5)
 (l6 r6:AE->α6)
 (l7 r7:AE->α7)
 (l8 r8:AE->α8)
 (l9 r9:AE->α9)
 (l10 r10:AE->α10)
 (l11 r11:AE->α11)
 X:Prop
 go:(∀ w,l1 w=r1 w)->(∀ w,l2 w=r2 w)->(∀ w,l3 w=r3 w)->(∀ w,l4 w=r4 w)->(∀ w,l5 w=r5 w)->(∀ w,l6 w=r6 w)->(∀ w,l7 w=r7 w)->(∀ w,l8 w=r8 w)->(∀ w,l9 w=r9 w)->(∀ w,l10 w=r10 w)->(∀ w,l11 w=r11 w)->X->P
theorem map_pair{Z α β:Type}{A:Z->α}{B:Z->β}{r:Ap Z}{a:α}{b:β}(h1:GC A r=Ab a)(h2:GC B r=Ab b):GC (λs=>(A s,B s)) r=Ab (a,b):=by
 cases r with
 |none=>cases h1
 |some s=>cases h1;cases h2;rfl
theorem map_take{Z α:Type}{B:Z->Ac α}{r:Ap Z}{v:Ac α}(n:Ag)(h1:GC (λs=>(B s).take n) r=Ab (v.take n))(h2:GC (λs=>(B s).drop n) r=Ab (v.drop n)):GC B r=Ab v:=by
 cases r with
 |none=>cases h1
 |some s=>
  have e1:(B s).take n=v.take n:=by injection h1
  have e2:(B s).drop n=v.drop n:=by injection h2
  show Ab (B s)=Ab v;rw[<-Gs n (B s),<-Gs n v,e1,e2]
end OvC
namespace OvC
noncomputable def tp72(i:Ag):Bx:=PySem.Challenge.pw_ovalfield_k72_whole_curve_of_a_set.main.body.getD i (.Pass ⟨0,0,0,0⟩)
end OvC
noncomputable def OvC.view72:PySem.Program:={ PySem.Challenge.pw_ovalfield_k72_whole_curve_of_a_set with main:={PySem.Challenge.pw_ovalfield_k72_whole_curve_of_a_set.main with body:=[OvC.tp72 1,OvC.tp72 2,OvC.tp72 3,OvC.tp72 4,OvC.tp72 5,OvC.tp72 6,OvC.tp72 7,OvC.tp72 8,OvC.tp72 10,OvC.tp72 11,OvC.tp72 13,OvC.tp72 14,OvC.tp72 15,OvC.tp72 17,OvC.tp72 18,OvC.tp72 19,OvC.tp72 20,OvC.tp72 21,OvC.tp72 22,OvC.tp72 23,OvC.tp72 25,OvC.tp72 26,OvC.tp72 27,OvC.tp72 28,OvC.tp72 29,OvC.tp72 30,OvC.tp72 32,OvC.tp72 33,OvC.tp72 34,OvC.tp72 35,OvC.tp72 36,OvC.tp72 37,OvC.tp72 38,OvC.tp72 40,OvC.tp72 41,OvC.tp72 42,OvC.tp72 44,OvC.tp72 45,OvC.tp72 46,OvC.tp72 47,OvC.tp72 49,OvC.tp72 50,OvC.tp72 51,OvC.tp72 52,OvC.tp72 53,OvC.tp72 54,OvC.tp72 55,OvC.tp72 57,OvC.tp72 58,OvC.tp72 59,OvC.tp72 60,OvC.tp72 61,OvC.tp72 62,OvC.tp72 63,OvC.tp72 64,OvC.tp72 65,OvC.tp72 66,OvC.tp72 67,OvC.tp72 68,OvC.tp72 69,OvC.tp72 70,OvC.tp72 71,OvC.tp72 72,OvC.tp72 73,OvC.tp72 74]} }
set_option hygiene false
local macro_rules | `(tactic| o_head $H)=>`(tactic| refine holds_open (q:=OvC.view72) (loose:=[]) (Xt:=fun s=>xlAt OvC.view72 [] s&&recOk (RowW.records (OpenRow.toRowW (PySem.Challenge.rw_ovalfield_k72_whole_curve_of_a_set.row))) s) (XP:=XL OvC.view72 []) (Yf:=Hook.obs $H) (Ya:=Hook.val $H) (YP:=Hook.says $H) (N:=7158) ?hl (Hook.of $H) (Hook.keeps $H) (fun s e=>xl_of s (Bool.and_eq_true_iff.mp e).1) XL.keeps (by rfl) (by rfl) (by rfl) (fun s e=>recFacts_of (Bool.and_eq_true_iff.mp e).2) (by rfl) (by first|assumption|decide +kernel) (by decide +kernel) ⟨rfl,rfl,rfl,rfl,rfl,by decide +kernel⟩ ?hw ?hc)
set_option maxRecDepth 100000 in
set_option maxHeartbeats 0 in
noncomputable def OvC.hold72:OvC.Eleven PySem.Challenge.rw_ovalfield_k72_whole_curve_of_a_set.Holds:=by
 refine' ⟨_,_,_,_,_,_,_,_,_,_,_,_,_,_,_,_,_,_,_,_,_,_,_,_,_,_,_,_,_,_,_,_,_,_,λg1 g2 g3 g4 g5 g6 g7 g8 g9 g10 g11 x=>_⟩
 rotate_right
 w_on;refine holds_law (by decide+kernel) λsaid=>?_;k_head
 (case hl=>intro w;refine OvC.map_pair ?p1 (OvC.map_take 100 ?p2 ?p3);(case p1=>rw[PySem.W.Fast.te4187177175401517315];unfold PySem.W.Fast.tw4187177175401517315 openGood;refine OvC.map_pair ?q1 (OvC.map_pair ?q2 (OvC.map_pair ?q3 (OvC.map_pair ?q4 (OvC.map_pair ?q5 (OvC.map_pair ?q6 (OvC.map_pair ?q7 (OvC.map_pair ?q8 ?q9)))))));(case q1=>unfold EN De Fk;rw[A8,Bb,Be,Ba,A9];exact g1 w);(case q2=>unfold EN De Fk;rw[A8,Bb,Be,Ba,A9];exact g2 w);(case q3=>unfold EN De Fk;rw[A8,Bb,Be,Ba,A9];exact g3 w);(case q4=>unfold EN De Fk;rw[A8,Bb,Be,Ba,A9];exact g4 w);(case q5=>unfold EN De Fk;rw[A8,Bb,Be,Ba,A9];exact g5 w);(case q6=>unfold EN De Fk;rw[A8,Bb,Be,Ba,A9];exact g6 w);(case q7=>unfold EN De Fk;rw[A8,Bb,Be,Ba,A9];exact g7 w);(case q8=>unfold EN De Fk;rw[A8,Bb,Be,Ba,A9];exact g8 w);(case q9=>unfold EN De Fk;rw[A8,Bb,Be,Ba,A9];exact g9 w);skip);(case p2=>unfold EN De Fk;rw[A8,Bb,Be,Ba,A9];exact g10 w);(case p3=>unfold EN De Fk;rw[A8,Bb,Be,Ba,A9];exact g11 w))
 (case hw=>w_witness2)
 k_fill
 revert said
 exact x
theorem OvC.reck72_1(w:AE):OvC.hold72.l1 w=OvC.hold72.r1 w:=by kernel_rfl
theorem OvC.reck72_2(w:AE):OvC.hold72.l2 w=OvC.hold72.r2 w:=by kernel_rfl
theorem OvC.reck72_3(w:AE):OvC.hold72.l3 w=OvC.hold72.r3 w:=by kernel_rfl
theorem OvC.reck72_4(w:AE):OvC.hold72.l4 w=OvC.hold72.r4 w:=by kernel_rfl
theorem OvC.reck72_5(w:AE):OvC.hold72.l5 w=OvC.hold72.r5 w:=by kernel_rfl
theorem OvC.reck72_6(w:AE):OvC.hold72.l6 w=OvC.hold72.r6 w:=by kernel_rfl
theorem OvC.reck72_7(w:AE):OvC.hold72.l7 w=OvC.hold72.r7 w:=by kernel_rfl
theorem OvC.reck72_8(w:AE):OvC.hold72.l8 w=OvC.hold72.r8 w:=by kernel_rfl
theorem OvC.reck72_9(w:AE):OvC.hold72.l9 w=OvC.hold72.r9 w:=by kernel_rfl
theorem OvC.reck72_10(w:AE):OvC.hold72.l10 w=OvC.hold72.r10 w:=by kernel_rfl
theorem OvC.reck72_11(w:AE):OvC.hold72.l11 w=OvC.hold72.r11 w:=by kernel_rfl
end
-- CHANGE: your row's module here,as the last of these rows
namespace L2
open PySem PySem.Spec PyProof.Rows
abbrev Key:=Sum Ad Al
noncomputable def VZ:Key->Ai->Aj
 |.inl k,v=>Value.isInt k v
 |.inr x,v=>Value.isStrOf x v
noncomputable def YY(w:AE):Key->Ad
 |.inl k=>hashInt k
 |.inr x=>hashStr w x
theorem Ja:∀{k:Key}{v:Ai},VZ k v=Aa->(∃ i t,k=HE i/\v=Yi i t)\/(∃ x t,k=HF x/\v=Yj x t)
 |.inl i,v,h=>by
  obtain⟨t,e⟩:=Value.isInt_shape (k:=i) (v:=v) h;exact .inl ⟨i,t,rfl,e⟩
 |.inr x,v,h=>by
  obtain⟨t,e⟩:=Value.isStrOf_shape (x:=x) (v:=v) h;exact .inr ⟨x,t,rfl,e⟩
theorem tQ(a b:Ad):decide ((HE a:Key)=HE b)=(a==b):=by
 by_cases e:a=b
 .subst e;simp
 .have h:¬ (HE a:Key)=HE b:=λq=>e (Sum.inl.inj q)
  rw[CM h];exact(DQ.mpr e).symm
theorem tN(a b:Al):decide ((HF a:Key)=HF b)=decide (a=b):=by
 by_cases e:a=b
 .subst e;simp
 .have h:¬ (HF a:Key)=HF b:=λq=>e (Sum.inr.inj q)
  rw[CM h,CM e]
theorem tP(a:Ad)(b:Al):decide ((HE a:Key)=HF b)=Af:=CM (λq=>nomatch q)
theorem tO(a:Al)(b:Ad):decide ((HF a:Key)=HE b)=Af:=CM (λq=>nomatch q)
noncomputable def PJ(prog:AT)(w:AE):PySem.KeyKind prog w Key where
 is:=VZ
 hash:=YY w
 inj:=λv a b ha hb=>by
  rcases Ja ha with ⟨i,t,rfl,rfl⟩|⟨x,t,rfl,rfl⟩
  .rcases Ja hb with ⟨j,u,rfl,e⟩|⟨y,u,rfl,e⟩
   .injection e with e1 _;rw[e1]
   .exact nomatch e
  .rcases Ja hb with ⟨j,u,rfl,e⟩|⟨y,u,rfl,e⟩
   .exact nomatch e
   .injection e with e1 _;rw[e1]
 byValue:=λk v h=>by
  rcases Ja h with ⟨i,t,rfl,rfl⟩|⟨x,t,rfl,rfl⟩<;>rfl
 pyHash:=λhv h=>by
  rcases Ja hv with ⟨i,t,rfl,rfl⟩|⟨x,t,rfl,rfl⟩
  .exact wpAny_pyHash_int h
  .exact wpAny_pyHash_str h
 eqBool:=λhu hv h=>by
  rcases Ja hu with ⟨i,t,rfl,rfl⟩|⟨x,t,rfl,rfl⟩
  .rcases Ja hv with ⟨j,u,rfl,rfl⟩|⟨y,u,rfl,rfl⟩
   .rw[tQ]at h;exact wpAny_eqBool_int h
   .rw[tP]at h;exact SeqAt.EqAt.int_str i t y u _ _ _ _ h
  .rcases Ja hv with ⟨j,u,rfl,rfl⟩|⟨y,u,rfl,rfl⟩
   .rw[tO]at h;exact SeqAt.EqAt.str_int x t j u _ _ _ _ h
   .rw[tN]at h;exact wpAny_eqBool_str h
 «strs»:=λk x t v h=>by
  rcases Ja h with ⟨i,u,rfl,e⟩|⟨y,u,rfl,e⟩
  .exact nomatch e
  .injection e with e1 _
   subst e1;cases v<;>rfl
end L2
namespace L2
open PySem PySem.Spec PyProof.Rows
variable{us:Ac Ai}{a b it dx:Am}{P:AT}{h:AJ}{o:Dg}{g':AY Fb}{t' i k n:Ag}{d':IS}{ch fp:Ac Am}{x qual:Al}{M:JR}{u:Ai}{Q:IY->As->Prop}{e tg:An}{s:As}{pos p:A7}{pI:Pn}{es:Ac An}{body:Ac Bx}{f:Ai->Ai->Hh Ai}{g:Ad->Ad->Ad}{op:DA}{mA:Al->Ap Ai}{fd:Cs}{ps:Ac Al}{scope:Cq}
inductive V where
 |non|bl (b:Aj)|int (i:Ad)|str (x:Al)|byt (b:AY UInt8)|flt (b:UInt64)|ref (a:Am)|ty (n:Dj)
 deriving DecidableEq
variable{xs vs:Ac V}{v:V}
def B5:V->Ai->Prop
 |.non,u=>u=Dt
 |.bl b,u=>u=Yh b
 |.int i,u=>∃ t,u=Yi i t
 |.str x,u=>∃ t,u=Yj x t
 |.byt b,u=>∃ t,u=Value.bytes b t
 |.flt b,u=>∃ t,u=Value.float b t
 |.ref a,u=>u=Dq a
 |.ty n,u=>u=Ek n
noncomputable abbrev Bi:Ac V->Ac Ai->Prop:=HM B5
theorem Bi.length(r:Bi xs us):xs.length=us.length:=X4 r
theorem Bi.get:∀{xs:Ac V}{us:Ac Ai}{i:Ag}{x:V},Bi xs us->xs[i]?=Ab x->∃ u,us[i]?=Ab u/\B5 x u
 |_,_,_,_,.nil,e=>by simp at e
 |_,_,0,_,.cons r _,e=>by simp at e;subst e;exact⟨_,rfl,r⟩
 |_,_,i+1,x,.cons _ t,e=>by
  obtain⟨u,h1,h2⟩:=Bi.get (i:=i) (x:=x) t (by simpa using e)
  exact⟨u,by simpa using h1,h2⟩
theorem Bi.set{x:V}{u:Ai}(r:B5 x u):∀{xs:Ac V}{us:Ac Ai}(i:Ag),Bi xs us->Bi (xs.set i x) (us.set i u)
 |_,_,_,.nil=>.nil
 |_,_,0,.cons _ t=>.cons r t
 |_,_,i+1,.cons q t=>.cons q (Bi.set r i t)
theorem Bi.append:∀{xs ys:Ac V}{us ws:Ac Ai},Bi xs us->Bi ys ws->Bi (xs++ys) (us++ws)
 |_,_,_,_,.nil,s=>s
 |_,_,_,_,.cons r t,s=>.cons r (Bi.append t s)
theorem Bi.take:∀{xs:Ac V}{us:Ac Ai}(n:Ag),Bi xs us->Bi (xs.take n) (us.take n)
 |_,_,0,_=>.nil
 |_,_,_+1,.nil=>.nil
 |_,_,n+1,.cons r t=>.cons r (Bi.take n t)
theorem Bi.drop:∀{xs:Ac V}{us:Ac Ai}(n:Ag),Bi xs us->Bi (xs.drop n) (us.drop n)
 |_,_,0,r=>r
 |_,_,_+1,.nil=>.nil
 |_,_,n+1,.cons _ t=>Bi.drop n t
def RU:Ap V->Ap Ai->Prop
 |some v,Ab u=>B5 v u
 |none,Ae=>GL
 |_,_=>Bz
def KV{κ:Type}:Ac (κ×V)->Ac (κ×Ai)->Prop:=HM fun(p:κ×V)(q:κ×Ai)=>p.1=q.1/\B5 p.2 q.2
noncomputable def kV:Key->V
 |.inl i=>.int i
 |.inr x=>.str x
inductive HO where
 /-- a list -/
 |lst (xs:Ac V)
 /-- a tuple (never changes) -/
 |tup (xs:Ac V)
 /-- a dict whose keys are ints and texts;one whose keys are tuples of ints and texts (the empty one is both) -/
 |dK (kvs:Ac (Key×V))|dT (kvs:Ac (Ac Key×V))
 /-- a set of ints: its members,its size -/
 |set (S:Ad->Aj) (n:Ag)
 /-- an instance of the class at C,its dict at dx,its attributes -/
 |ins (C dx:Am) (fs:Ac (Al×V))
 /-- the dict of the instance at x -/
 |own (x:Am)
 /-- the dict of an exception -/
 |xd (fs:Ac (Al×V))
 /-- a bound method,f of x -/
 |met (f x:Am)
 /-- a range object lo,lo+1,.. below hi -/
 |rng (lo hi:Ad)
 /-- a thing that is known to the object (the script;a dict while a loop walks it): read,never written while it is so -/
 |frz (o:Dg) (u:HO)
 /-- a code object's table -/
 |tbl (ps:AY Ai)
 /-- any other thing,by what is Aa of its one object (a def of one's own: SetO a S n:=HO.ext fun h=>..) -/
 |ext (φ:AJ->Prop)
abbrev Hp:=Am->Ap HO
variable{H:Hp}
noncomputable def upd(H:Hp)(a:Am)(o:HO):Hp:=λb=>if b=a then Ab o else H b
theorem Ix{o:HO}:upd H a o a=Ab o:=by unfold upd;rw[AI rfl]
theorem Dl{o:HO}(h:b≠a):upd H a o b=H b:=by unfold upd;rw[AV h]
theorem Gf{o:HO}(h:H a=Ab o)(h':H b=Ae):a≠b:=by
 intro e;subst e;rw[h]at h';cases h'
section
variable(P:AT)(w:AE)
def ObjOk(H:Hp)(h:AJ)(a:Am):HO->Prop
  |.lst xs=>xs.length<=sizeLine/\∃(its:Ac Ai)(n:Ag),Bi xs its/\h.get? a=Ab { cls:=.type "list",data:=.seq its.toArray n }
  |.tup xs=>xs.length<=sizeLine/\∃ its:Ac Ai,Bi xs its/\JQ h a its.toArray
  |.dK kvs=>kvs.length<=sizeLine/\(a==KA)=Af/\∃ vs,KV kvs vs/\h.DictOf (PJ P w) a vs
  |.dT kvs=>kvs.length<=sizeLine/\(a==KA)=Af/\∃ xs:Ac (Ac Key×Am×Ai),
      HM (fun(p:Ac Key×V)(q:Ac Key×Am×Ai)=>p.1=q.1/\H q.2.1=Ab (.tup (p.1.map kV))/\B5 p.2 q.2.2) kvs xs /\
      ∃ o es ep,h.get? a=Ab o/\o.ExactDict/\o.data=.dict es ep/\es.toList=xs.map (entryOfKey (tupleKind (PJ P w)))/\(xs.map (·.1)).Nodup
  |.set S n=>h.SetOf (intKind P w) a S n
  |.ins C dx fs=>H dx=Ab (.own a)/\fs.length<=1000/\dx≠a/\h.get? a=Ab (D6 C dx) /\
      ∃ mA,h.Ns1 dx mA/\(∀ f,RU (fs.lookup f) (mA f))/\PySem.Within mA (fs.map (·.1))
  |.own _=>∃ o,h.get? a=Ab o
  |.xd fs=>∃ mA,h.Ns1 a mA/\∀ f,RU (fs.lookup f) (mA f)
  |.rng lo hi=>∃ t u v,h.get? a=Ab { cls:=.type "range",data:=.fields #[.int lo t,.int hi u,.int 1 v] }
  |.frz o u=>h.get? a=Ab o/\ObjOk H h a u
  |.tbl ps=>h.get? a=Ab {cls:=.none,data:=.fields ps}
  |.met f x=>h.get? a=Ab (Hy (.ref f) (.ref x))
  |.ext φ=>φ h/\(∃ o,h.get? a=Ab o)/\∀ h1 h2:AJ,φ h1->(∀ o,h1.get? a=Ab o->h2.get? a=Ab o)->φ h2
def HOk(H:Hp)(h:AJ):Prop:=∀ a o,H a=Ab o->ObjOk P w H h a o
end
section
variable{P:AT}{w:AE}{H H':Hp}{h h':AJ}{a:Am}{o:HO}
theorem ObjOk.lt(x:ObjOk P w H h a o):a<h.objs.size:=by
 cases o with
 |lst xs=>obtain⟨_,_,_,_,e⟩:=x;exact Ax e
 |tup xs=>obtain⟨_,_,_,p⟩:=x;exact p.lt
 |dK kvs=>obtain⟨_,_,_,_,o,_,_,e,_⟩:=x;exact Ax e
 |dT kvs=>obtain⟨_,_,_,_,o,_,_,e,_⟩:=x;exact Ax e
 |set S n=>obtain⟨o,_,_,_,e,_⟩:=x;exact Ax e
 |ins C dx fs=>obtain⟨_,_,_,e,_⟩:=x;exact Ax e
 |own y=>obtain⟨_,e⟩:=x;exact Ax e
 |xd fs=>obtain⟨_,⟨_,_,_,e,_⟩,_⟩:=x;exact Ax e
 |rng lo hi=>obtain⟨_,_,_,e⟩:=x;exact Ax e
 |frz ob u=>obtain⟨e,_⟩:=x;exact Ax e
 |tbl ps=>exact Ax (show h.get? a=Ab _ from x)
 |met f y=>exact Ax (show h.get? a=Ab _ from x)
 |ext φ=>obtain⟨_,⟨_,e⟩,_⟩:=x;exact Ax e
theorem HM.mapP{α β:Type}{F G:α->β->Prop}:∀{l₁:Ac α}{l₂:Ac β},HM F l₁ l₂->(∀ a b,F a b->G a b)->HM G l₁ l₂
 |_,_,.nil,_=>.nil
 |_,_,.cons r t,f=>.cons (f _ _ r) (HM.mapP t f)
theorem ObjOk.stay(x:ObjOk P w H h a o)(k:∀ b u,(b=a\/H b=Ab (.own a))->h.get? b=Ab u->h'.get? b=Ab u)(ho:∀ b,H b=Ab (.own a)->H' b=Ab (.own a))(ht:∀ b xs,H b=Ab (.tup xs)->H' b=Ab (.tup xs)):ObjOk P w H' h' a o:=by
 induction o with
 |lst xs=>obtain⟨z,its,n,r,e⟩:=x;exact⟨z,its,n,r,k _ _ (.inl rfl) e⟩
 |tup xs=>obtain⟨z,its,r,ob,e,c⟩:=x;exact⟨z,its,r,ob,k _ _ (.inl rfl) e,c⟩
 |dK kvs=>obtain⟨z,y,vs,r,ob,es,ep,e,c⟩:=x;exact⟨z,y,vs,r,ob,es,ep,k _ _ (.inl rfl) e,c⟩
 |dT kvs=>
  obtain⟨z,y,xs,r,ob,es,ep,e,c⟩:=x;exact⟨z,y,xs,HM.mapP r λp q z=>⟨z.1,ht _ _ z.2.1,z.2.2⟩,ob,es,ep,k _ _ (.inl rfl) e,c⟩
 |set S n=>obtain⟨ob,es,ep,t,e,c⟩:=x;exact⟨ob,es,ep,t,k _ _ (.inl rfl) e,c⟩
 |ins C dx fs=>
  obtain⟨d,z,ne,e,mA,⟨od,es,ep,e2,c⟩,r⟩:=x;exact⟨ho _ d,z,ne,k _ _ (.inl rfl) e,mA,⟨od,es,ep,k _ _ (.inr d) e2,c⟩,r⟩
 |own y=>obtain⟨ob,e⟩:=x;exact⟨ob,k _ _ (.inl rfl) e⟩
 |xd fs=>obtain⟨mA,⟨od,es,ep,e,c⟩,r⟩:=x;exact⟨mA,⟨od,es,ep,k _ _ (.inl rfl) e,c⟩,r⟩
 |rng lo hi=>obtain⟨t,u,v,e⟩:=x;exact⟨t,u,v,k _ _ (.inl rfl) e⟩
 |frz ob u ih=>obtain⟨e,q⟩:=x;exact⟨k _ _ (.inl rfl) e,ih q⟩
 |tbl ps=>
  have e:h.get? a=Ab {cls:=.none,data:=.fields ps}:=x;show h'.get? a=Ab {cls:=.none,data:=.fields ps};exact k a _ (.inl rfl) e
 |met f y=>
  have e:h.get? a=Ab (Hy (.ref f) (.ref y)):=x;show h'.get? a=Ab (Hy (.ref f) (.ref y));exact k a _ (.inl rfl) e
 |ext φ=>obtain⟨p,⟨o,e⟩,st⟩:=x;exact⟨st _ _ p λo q=>k _ _ (.inl rfl) q,⟨o,k _ _ (.inl rfl) e⟩,st⟩
theorem HOk.lt(x:HOk P w H h)(e:H a=Ab o):a<h.objs.size:=(x a o e).lt
theorem HOk.fresh(x:HOk P w H h)(e:h.objs.size<=a):H a=Ae:=by
 cases q:H a with
 |none=>rfl
 |some u=>exact absurd (AH (x.lt q) e) (Bu _)
theorem HOk.kept(x:HOk P w H h)(k:∀ b u,h.get? b=Ab u->h'.get? b=Ab u):HOk P w H h':=λa o e=>
 (x a o e).stay (λb u _ q=>k b u q) (λ_ q=>q) λ_ _ q=>q
theorem HOk.laid(x:HOk P w H h)(k:∀ b u,h.get? b=Ab u->h'.get? b=Ab u)(hp:h.objs.size<=a)(new:ObjOk P w (upd H a o) h' a o):HOk P w (upd H a o) h':=λb u e=>by
 have hn:=x.fresh hp;by_cases hb:b=a
 .subst hb;rw[Ix]at e;cases e;exact new
 .rw[Dl hb]at e;exact(x b u e).stay (λc v _ q=>k c v q) (λc q=>by rw[Dl (Gf q hn)];exact q) λc xs q=>by rw[Dl (Gf q hn)];exact q
end
def Rd(H:Hp)(a:Am)(u:HO):Prop:=H a=Ab u\/∃ o,H a=Ab (.frz o u)
theorem Rd.ok{w:AE}{u:HO}(r:Rd H a u)(x:HOk P w H h):ObjOk P w H h a u:=by
 rcases r with r|⟨o,r⟩
 .exact x a u r
 .obtain⟨_,q⟩:=x a _ r;exact q
def Mut:Ap HO->Prop
 |some (.lst _)=>GL
 |some (.dK _)=>GL
 |some (.dT _)=>GL
 |some (.set _ _)=>GL
 |some (.ins _ _ _)=>GL
 |some (.ext _)=>GL
 |_=>Bz
section
variable{P:AT}{w:AE}{H:Hp}{h h':AJ}{x e:Am}{o':HO}
theorem HOk.write(ok:HOk P w H h)(mu:Mut (H x))(he:e=x\/H e=Ab (.own x))(k:∀ b u,b≠e->h.get? b=Ab u->h'.get? b=Ab u)(heo:∃ u,h'.get? e=Ab u)(new:ObjOk P w (upd H x o') h' x o'):HOk P w (upd H x o') h':=λb u q=>by
 have nown:∀ c y,H c=Ab (.own y)->c≠x:=λc y r z=>by subst z;rw[r]at mu;exact mu
 have ntup:∀ c xs,H c=Ab (.tup xs)->c≠x:=λc xs r z=>by subst z;rw[r]at mu;exact mu
 by_cases hb:b=x
 .subst hb;rw[Ix]at q;cases q;exact new
 .rw[Dl hb]at q;by_cases hbe:b=e
  .have q':H b=Ab (.own x):=by
    rcases he with z|z
    .exact absurd (hbe.trans z) hb
    .rw[hbe];exact z
   rw[q]at q';cases q';obtain⟨v,hv⟩:=heo;exact⟨v,by rw[hbe];exact hv⟩
  .refine(ok b u q).stay (λc v hc r=>k c v ?_ r) (λc r=>by rw[Dl (nown c b r)];exact r) λc xs r=>by rw[Dl (ntup c xs r)];exact r
   rcases hc with rfl|hc
   .exact hbe
   .rintro rfl;rcases he with z|z
    .exact nown c b hc z
    .rw[hc]at z;cases z;exact hb rfl
end
structure Un (fs ex:Ac Am) (H H':Hp) (h h':AJ):Prop where
 keep:∀ b o,h.get? b=Ab o->H b=Ae->b∉fs->b∉ex->h'.get? b=Ab o
 slot:∀ b o,h.get? b=Ab o->H b=Ae->b∈fs->b∉ex->∃ sl,h'.get? b=Ab {o with slots:=sl}
 free:∀ b o,h.get? b=Ab o->H b=Ae->b∉ex->H' b=Ae
 there:∀ b o,h.get? b=Ab o->b∉ex->∃ o',h'.get? b=Ab o'
 tups:∀ b xs,H b=Ab (.tup xs)->H' b=Ab (.tup xs)
 frzs:∀ b o u,H b=Ab (.frz o u)->H' b=Ab (.frz o u)
 tbls:∀ b ps,H b=Ab (.tbl ps)->∃ more,H' b=Ab (.tbl (ps++more))
section
variable{fs fs' ex ex':Ac Am}{H H1 H2:Hp}{h h1 h2 h':AJ}{a x e:Am}{o:HO}
theorem Un.any(u:Un fs ex H H1 h h1){ob:Dg}(q:h.get? b=Ab ob)(n:H b=Ae)(hx:b∉ex):∃ sl,h1.get? b=Ab {ob with slots:=sl}:=by
 by_cases hb:b∈fs
 .exact u.slot b ob q n hb hx
 .exact⟨ob.slots,u.keep b ob q n hb hx⟩
theorem Un.kept(k:∀ b u,h.get? b=Ab u->h'.get? b=Ab u):Un fs ex H H h h':=
 ⟨λb ob q _ _ _=>k b ob q,λb ob q _ _ _=>⟨ob.slots,k b ob q⟩,λ_ _ _ n _=>n,λb ob q _=>⟨ob,k b ob q⟩,λ_ _ q=>q,λ_ _ _ q=>q,λ_ ps q=>⟨#[],by rw[q];simp⟩⟩
theorem Un.refl:Un fs ex H H h h:=Un.kept λ_ _ q=>q
theorem Un.laid(k:∀ b u,h.get? b=Ab u->h'.get? b=Ab u)(hp:h.objs.size<=a)(hn:H a=Ae):Un fs ex H (upd H a o) h h' where
 keep:=λb u q _ _ _=>k b u q
 slot:=λb u q _ _ _=>⟨u.slots,k b u q⟩
 free:=λb u q n _=>by rw[Dl (A1 (AH (Ax q) hp))];exact n
 there:=λb u q _=>⟨u,k b u q⟩
 tups:=λb xs q=>by rw[Dl (Gf q hn)];exact q
 frzs:=λb u xs q=>by rw[Dl (Gf q hn)];exact q
 tbls:=λb ps q=>⟨#[],by rw[Dl (Gf q hn),q];simp⟩
theorem Un.write(mu:Mut (H x))(he:e=x\/H e=Ab (.own x))(k:∀ b u,b≠e->h.get? b=Ab u->h'.get? b=Ab u)(heo:∃ u,h'.get? e=Ab u):Un fs ex H (upd H x o) h h':=by
 have hx:∀ b,H b=Ae->b≠x:=λb n z=>by subst z;rw[n]at mu;exact mu
 have hb:∀ b,H b=Ae->b≠e:=λb n z=>by
  subst z;rcases he with r|r
  .exact hx b n r
  .rw[n]at r;cases r
 have hm:∀ b u,H b=Ab u->¬ Mut (Ab u)->b≠x:=λb u q nm z=>by subst z;rw[q]at mu;exact nm mu
 refine⟨λb u q n _ _=>k b u (hb b n) q,λb u q n _ _=>⟨u.slots,k b u (hb b n) q⟩,λb u q n _=>by rw[Dl (hx b n)];exact n,λb u q _=>?_,
  λb xs q=>by rw[Dl (hm b _ q λz=>z)];exact q,λb u xs q=>by rw[Dl (hm b _ q λz=>z)];exact q,λb ps q=>⟨#[],by rw[Dl (hm b _ q λz=>z),q];simp⟩⟩
 by_cases hbe:b=e
 .subst hbe;exact heo
 .exact⟨u,k b u hbe q⟩
end
noncomputable def trk(h:AJ)(H:Hp):Ac Am:=(A4 h.objs.size).filter λa=>(H a).isSome
noncomputable def Jj(h:AJ)(H:Hp):AJ:=PySem.W.hideAll h (trk h H)
theorem aG(h:AJ)(H:Hp):(Jj h H).objs.size=h.objs.size:=PySem.W.hideAll_size _ _
theorem eS(e:h.get? b=Ab o)(n:H b=Ae):(Jj h H).get? b=Ab o:=
 PySem.W.hideAll_get _ e λhm=>by
  have q:(H b).isSome=Aa:=(EJ.mp hm).2;rw[n]at q;simp at q
theorem mE(e:(Jj h H).get? b=Ab o):h.get? b=Ab o/\H b=Ae:=by
 have e':h.get? b=Ab o:=PySem.W.of_hideAll (trk h H) e;refine⟨e',?_⟩;cases q:H b with
 |none=>rfl
 |some x=>
  have hm:b∈trk h H:=EJ.mpr ⟨A3.mpr (Ax e'),by simp[q]⟩
  have z:(Jj h H).get? b=Ae:=PySem.W.hideAll_none (trk h H) hm;rw[z]at e;cases e
noncomputable def nI(g h:AJ)(L:Am):Pn:=(A4 h.objs.size).filterMap λa=>if a=L\/(g.get? a).isSome=Aa then Ae else (h.get? a).map λo=>(a,o)
noncomputable def rest(g h:AJ)(L d:Am):Pn:=(nI g h L).filter λp=>decide (p.1≠d)
structure Mod (K:Fg) (mg:Al->Ap Ai) (base:AJ):Prop where
 kin:K.In base
 glob:base.Ns Bf mg
 blt:∃ mb,base.Ns IV mb/\∀ x:Al,x≠"__name__"->mb x=Dr x
 nolimit:base.NoLimit
structure Cx where
 prog:AT
 w:AE
 K:Fg
 mg:Al->Ap Ai
 base:AJ
 A:Bc
 N:Ac Al
 s₀:As
 H₀:Hp
 env:CU
 outer:Ac CU
 stack:Ac CU
 ex:Ac Am
 fn:Al->Aj
 calm:Aj
 pn:Pn
 xe:Ai->As->Prop
variable{X:Cx}
noncomputable def frs(l:Ac CU):Ac Am:=l.filterMap (·.frame)
noncomputable abbrev Cx.fs(X:Cx):Ac Am:=frs X.outer
def Vis(sc:Cq)(x:Al):Prop:=sc.names.lookup x=Ab .local\/sc.names.lookup x=Ab .cell\/sc.names.lookup x=Ab .free
def Loc(sc:Cq)(x:Al):Prop:=sc.names.lookup x=Ab .local\/sc.names.lookup x=Ab .cell
noncomputable def Zu(env:CU)(h:AJ)(m:Al->Ap Ai)(x:Al)(u:Ai):Prop:=
 (env.kindOf x=Ab .local/\m x=Ab u)\/((env.kindOf x=Ab .cell\/env.kindOf x=Ab .free)/\∃ c,env.cells.lookup x=Ab c/\h.IsCell c (Ab u))
structure Cx.Ok (X:Cx):Prop where
 mod:Mod X.K X.mg X.base
 kind:X.env.scope.kind=.function
 glob:X.env.globals=Bf
 blt:X.env.builtins=IV
 above:X.s₀.heap.objs.size<=X.env.locals
 inj:∀ x y c,X.env.cells.lookup x=Ab c->X.env.cells.lookup y=Ab c->x=y
 has:∀ x,(X.env.kindOf x=Ab .cell\/X.env.kindOf x=Ab .free)->∃ c,X.env.cells.lookup x=Ab c
 cab:∀ x c,X.fn x=Aa->X.env.cells.lookup x=Ab c->X.s₀.heap.objs.size<=c
 hd:X.calm=Aa->X.A.handled=Ae
 frames:X.A.frames=Ab X.stack
 stk:X.stack=X.outer\/(X.stack=X.env::X.outer/\X.env.frame=Ab X.env.locals)
 exf:∀ b∈X.ex,b≠X.env.locals/\∀ x c,X.env.cells.lookup x=Ab c->c≠b
 bs:∀ b o,X.base.get? b=Ab o->X.s₀.heap.get? b=Ab o/\X.H₀ b=Ae
 bsz:X.base.objs.size<=X.s₀.heap.objs.size
 noex:∀ b o,X.base.get? b=Ab o->b∉X.ex
 exfs:∀ b∈X.ex,b∉X.fs
 funs:X.s₀.heap.FunFrames X.base X.outer
 frf:∀ b∈X.fs,X.H₀ b=Ae
structure Inv (X:Cx) (pI:Pn) (Z:Ac (Ap V)) (H:Hp) (s:As):Prop where
 ok:X.Ok
 os:s.os=X.s₀.os
 bare:FN s.gens
 base:Un X.fs X.ex X.H₀ H X.s₀.heap s.heap
 loc:∃ m,s.heap.Ns X.env.locals m/\∀(i:Ag)(x:Al)(v:V),X.N[i]?=Ab x->Z[i]?=Ab (Ab v)->Vis X.env.scope x->∃ u,B5 v u/\Zu X.env s.heap m x u
 cell:∀ x c,X.env.cells.lookup x=Ab c->∃ v,s.heap.IsCell c v
 free:H X.env.locals=Ae
 freeC:∀ x c,X.env.cells.lookup x=Ab c->H c=Ae
 pin:∀ p∈X.pn++pI,s.heap.get? p.1=Ab p.2/\H p.1=Ae/\p.1≠X.env.locals/\p.1∉X.fs/\∀ v,p.2.data≠.cell v
 hok:HOk X.prog X.w H s.heap
 len:Z.length=X.N.length
section
variable{X:Cx}{pI:Pn}{Z:Ac (Ap V)}{H H':Hp}{s:As}{h':AJ}
theorem Cx.Ok.nofr(ok:X.Ok)(e:X.base.get? b=Ab o):b∉X.fs:=λhb=>by
 have:=(ok.funs.mem hb).1;rw[e]at this;cases this
theorem Inv.bs(I:Inv X pI Z H s):∀ b o,X.base.get? b=Ab o->s.heap.get? b=Ab o/\H b=Ae:=λb o e=>
 ⟨I.base.keep b o (I.ok.bs b o e).1 (I.ok.bs b o e).2 (I.ok.nofr e) (I.ok.noex b o e),I.base.free b o (I.ok.bs b o e).1 (I.ok.bs b o e).2 (I.ok.noex b o e)⟩
theorem Inv.bk(I:Inv X pI Z H s):∀ b o,X.base.get? b=Ab o->s.heap.get? b=Ab o:=λb o e=>(I.bs b o e).1
theorem Inv.mod(I:Inv X pI Z H s):Mod X.K X.mg X.base:=I.ok.mod
theorem Inv.kIn(I:Inv X pI Z H s):X.K.In s.heap:=I.ok.mod.kin.keeps I.bk
theorem Inv.lt(I:Inv X pI Z H s):X.env.locals<s.heap.objs.size:=let ⟨_,hn,_⟩:=I.loc;hn.lt
theorem Inv.sz(I:Inv X pI Z H s):X.s₀.heap.objs.size<=s.heap.objs.size:=Cb I.ok.above (EW I.lt)
theorem Inv.nofs(I:Inv X pI Z H s)(h:s.heap.objs.size<=a):a∉X.fs:=λhb=>by
 obtain⟨_,o,ho,_⟩:=I.ok.funs.mem hb;exact absurd (AH (Ax ho) (Cb I.sz h)) (Bu _)
theorem Inv.cne(I:Inv X pI Z H s):∀ x c,X.env.cells.lookup x=Ab c->c≠X.env.locals:=λx c e z=>by
 obtain⟨v,o,ho,hd⟩:=I.cell x c e;obtain⟨m,⟨o',es,ep,ho',hd',_⟩,_⟩:=I.loc;rw[z,ho']at ho;cases ho;rw[hd']at hd;cases hd
theorem Inv.funs(I:Inv X pI Z H s):s.heap.FunFrames X.base X.outer:=by
 have all:∀(l:Ac CU),(∀ b∈frs l,b∈X.fs)->X.s₀.heap.FunFrames X.base l->s.heap.FunFrames X.base l:=by
  intro l
  induction l with
  |nil=>intro _ _;trivial
  |cons env r ih=>
   intro hs hl;obtain⟨hk,⟨L,o,hf,hn,ho,hd⟩,hr⟩:=hl;have hL:L∈X.fs:=hs L (by unfold frs;rw[GS,hf];exact Az)
   obtain⟨sl,e⟩:=I.base.slot L o ho (I.ok.frf L hL) hL λz=>I.ok.exfs L z hL
   exact⟨hk,⟨L,_,hf,hn,e,hd⟩,ih (λb hb=>hs b (by unfold frs;rw[GS,hf];exact Au _ hb)) hr⟩
 exact all X.outer (λ_ hb=>hb) I.ok.funs
theorem Inv.stack(I:Inv X pI Z H s):s.heap.FunFrames X.base X.stack:=by
 rcases I.ok.stk with e|⟨e,hf⟩
 .rw[e];exact I.funs
 .rw[e];obtain⟨m,hn,_⟩:=I.loc;refine .cons (by rw[I.ok.kind];decide) hf hn ?_ I.funs
  exact GD (Cb I.ok.bsz I.ok.above)
theorem Inv.stkSub(I:Inv X pI Z H s):∀ b∈frs X.stack,b∈X.env.locals::X.fs:=λb hb=>by
 rcases I.ok.stk with e|⟨e,hf⟩
 .rw[e]at hb;exact Au _ hb
 .rw[e]at hb;unfold frs at hb;rw[GS,hf]at hb;exact hb
theorem Inv.stkFree(I:Inv X pI Z H s):∀ b∈frs X.stack,H b=Ae:=λb hb=>by
 rcases At.mp (I.stkSub b hb) with e|hb
 .rw[e];exact I.free
 .obtain⟨_,o,ho,_⟩:=I.ok.funs.mem hb;exact I.base.free b o ho (I.ok.frf b hb) λz=>I.ok.exfs b z hb
theorem Inv.step(I:Inv X pI Z H s)(hch:∀ b∈ch,(b∈X.ex\/X.s₀.heap.objs.size<=b)/\b≠X.env.locals/\(∀ x c,X.env.cells.lookup x=Ab c->c≠b)/\∀ p∈X.pn++pI,p.1≠b)(keep:∀ b o,b≠X.env.locals->b∉X.fs->b∉ch->s.heap.get? b=Ab o->H b=Ae->h'.get? b=Ab o)(slot:∀ b o,b≠X.env.locals->b∈X.fs->b∉ch->s.heap.get? b=Ab o->H b=Ae->∃ sl,h'.get? b=Ab {o with slots:=sl})(free:∀ b o,b∉ch->s.heap.get? b=Ab o->H b=Ae->H' b=Ae)(there:∀ b o,b∉ch->s.heap.get? b=Ab o->∃ o',h'.get? b=Ab o')(tups:∀ b xs,H b=Ab (.tup xs)->H' b=Ab (.tup xs))(frzs:∀ b o u,H b=Ab (.frz o u)->H' b=Ab (.frz o u))(tbls:∀ b ps,H b=Ab (.tbl ps)->∃ more,H' b=Ab (.tbl (ps++more)))(ns:∀ m,s.heap.Ns X.env.locals m->h'.Ns X.env.locals m)(hok:HOk X.prog X.w H' h')(hg:FN g'):Inv X pI Z H' {s with heap:=h',gens:=g',drawn:=d',toks:=t'}:=by
 have neL:∀ b o,X.s₀.heap.get? b=Ab o->b≠X.env.locals:=λb o e=>A1 (AH (Ax e) I.ok.above)
 have neC:∀ b o,X.s₀.heap.get? b=Ab o->b∉X.ex->b∉ch:=λb o e hx hb=>by
  rcases (hch b hb).1 with z|z
  .exact hx z
  .exact absurd (AH (Ax e) z) (Bu _)
 have cellK:∀ x c,X.env.cells.lookup x=Ab c->∀ v,s.heap.IsCell c v->h'.IsCell c v:=λx c e v ⟨o,ho,hd⟩=>by
  have nch:c∉ch:=λz=>(hch c z).2.2.1 x c e rfl
  by_cases hc:c∈X.fs
  .obtain⟨sl,q⟩:=slot c o (I.cne x c e) hc nch ho (I.freeC x c e);exact⟨_,q,hd⟩
  .exact⟨o,keep c o (I.cne x c e) hc nch ho (I.freeC x c e),hd⟩
 refine⟨I.ok,I.os,hg,⟨λb o e n hb hx=>?_,λb o e n hb hx=>?_,λb o e n hx=>?_,λb o e hx=>?_,λb xs e=>tups b xs (I.base.tups b xs e),λb o xs e=>frzs b o xs (I.base.frzs b o xs e),λb ps e=>?_⟩,?_,λx c e=>?_,?_,λx c e=>?_,λp hp=>?_,hok,I.len⟩
 .exact keep b o (neL b o e) hb (neC b o e hx) (I.base.keep b o e n hb hx) (I.base.free b o e n hx)
 .obtain⟨sl,e1⟩:=I.base.slot b o e n hb hx;obtain⟨sl',e2⟩:=slot b _ (neL b o e) hb (neC b o e hx) e1 (I.base.free b o e n hx);exact⟨sl',e2⟩
 .obtain⟨o',e1⟩:=I.base.there b o e hx;exact free b o' (neC b o e hx) e1 (I.base.free b o e n hx)
 .obtain⟨o',e1⟩:=I.base.there b o e hx;exact there b o' (neC b o e hx) e1
 .obtain⟨m1,e1⟩:=I.base.tbls b ps e;obtain⟨m2,e2⟩:=tbls b _ e1;exact⟨m1++m2,by rw[e2,Array.append_assoc]⟩
 .obtain⟨m,hn,hl⟩:=I.loc;refine⟨m,ns m hn,λi x v e1 e2 e3=>?_⟩
  obtain⟨u,r,l⟩:=hl i x v e1 e2 e3;refine⟨u,r,?_⟩;rcases l with l|⟨k,c,e,z⟩
  .exact .inl l
  .exact .inr ⟨k,c,e,cellK x c e _ z⟩
 .obtain⟨v,z⟩:=I.cell x c e;exact⟨v,cellK x c e v z⟩
 .obtain⟨m,⟨o,_,_,ho,_⟩,_⟩:=I.loc;exact free _ o (λz=>(hch _ z).2.1 rfl) ho I.free
 .obtain⟨v,o,ho,hd⟩:=I.cell x c e;exact free c o (λz=>(hch c z).2.2.1 x c e rfl) ho (I.freeC x c e)
 .obtain⟨e,n,ne,nf,d⟩:=I.pin p hp;have nch:p.1∉ch:=λz=>(hch p.1 z).2.2.2 p hp rfl
  exact⟨keep p.1 p.2 ne nf nch e n,free p.1 p.2 nch e n,ne,nf,d⟩
theorem Inv.un(I:Inv X pI Z H s)(u:Un X.fs [] H H' s.heap h')(hok:HOk X.prog X.w H' h'):Inv X pI Z H' {s with heap:=h',toks:=t'}:=by
 obtain⟨m,⟨o,es,ep,ho,r⟩,_⟩:=id I.loc;obtain⟨sl,hL⟩:=u.any ho I.free (by simp)
 exact I.step (g':=s.gens) (d':=s.drawn) (ch:=[]) (λ_ z=>nomatch z) (λb o _ hb _ e n=>u.keep b o e n hb (by simp)) (λb o _ hb _ e n=>u.slot b o e n hb (by simp)) (λb o _ e n=>u.free b o e n (by simp)) (λb o _ e=>u.there b o e (by simp)) u.tups u.frzs u.tbls (λm' hm=>by
  obtain⟨o',es',ep',ho',r'⟩:=hm;rw[ho]at ho';cases ho';exact⟨_,es',ep',hL,r'⟩) hok I.bare
theorem Inv.call(I:Inv X pI Z H s)(u:Un (frs X.stack) ch H H' s.heap h')(hok:HOk X.prog X.w H' h')(hg:FN g')(hch:∀ b∈ch,(b∈X.ex\/X.s₀.heap.objs.size<=b)/\b≠X.env.locals/\(∀ x c,X.env.cells.lookup x=Ab c->c≠b)/\∀ p∈X.pn++pI,p.1≠b):Inv X pI Z H' {s with heap:=h',gens:=g',drawn:=d',toks:=t'}:=by
 obtain⟨m,⟨o,es,ep,ho,r⟩,_⟩:=id I.loc;obtain⟨sl,hL⟩:=u.any ho I.free λz=>(hch _ z).2.1 rfl
 exact I.step (ch:=ch) hch (λb o hL hb hc e n=>u.keep b o e n (λz=>(At.mp (I.stkSub b z)).elim hL hb) hc) (λb o _ _ hc e n=>u.any e n hc) (λb o hc e n=>u.free b o e n hc) (λb o hc e=>u.there b o e hc) u.tups u.frzs u.tbls (λm' hm=>by
  obtain⟨o',es',ep',ho',r'⟩:=hm;rw[ho]at ho';cases ho';exact⟨_,es',ep',hL,r'⟩) hok hg
theorem Inv.turned(I:Inv X pI Z H s)(k:∀ b o,b≠it->s.heap.get? b=Ab o->h'.get? b=Ab o)(hn:H it=Ae)(hL:it≠X.env.locals)(h1:it∈X.ex\/X.s₀.heap.objs.size<=it)(h2:∀ x c,X.env.cells.lookup x=Ab c->c≠it)(h3:∀ p∈X.pn++pI,p.1≠it):Inv X pI Z H {s with heap:=h',toks:=t'}:=by
 have nit:∀ b u,H b=Ab u->b≠it:=λb u e z=>by rw[z,hn]at e;cases e
 refine I.step (g':=s.gens) (d':=s.drawn) (ch:=[it]) (λb hb=>?_) (λb o _ _ hc e _=>k b o (λz=>hc (by simp[z])) e) (λb o _ _ hc e _=>⟨o.slots,k b o (λz=>hc (by simp[z])) e⟩) (λ_ _ _ _ n=>n)
  (λb o hc e=>⟨o,k b o (λz=>hc (by simp[z])) e⟩) (λ_ _ e=>e) (λ_ _ _ e=>e) (λb ps e=>⟨#[],by rw[e];simp⟩) (λm hm=>?_) (λb u e=>?_) I.bare
 .have e:b=it:=by simpa using hb
  subst e;exact⟨h1,hL,h2,h3⟩
 .obtain⟨o,es,ep,ho,r⟩:=hm;exact⟨o,es,ep,k _ o (BA hL) ho,r⟩
 .refine(I.hok b u e).stay (λc v hc q=>k c v ?_ q) (λ_ q=>q) λ_ _ q=>q
  rcases hc with z|z
  .rw[z];exact nit b u e
  .exact nit c _ z
theorem Inv.tok(I:Inv X pI Z H s)(t:Ag):Inv X pI Z H {s with toks:=t}:=I.un (h':=s.heap) (t':=t) Un.refl I.hok
theorem Inv.kept{t':Ag}(I:Inv X pI Z H s)(k:∀ b u,s.heap.get? b=Ab u->h'.get? b=Ab u):Inv X pI Z H {s with heap:=h',toks:=t'}:=I.un (Un.kept k) (I.hok.kept k)
theorem Inv.laid{a:Am}{o:HO}{t':Ag}(I:Inv X pI Z H s)(k:∀ b u,s.heap.get? b=Ab u->h'.get? b=Ab u)(hp:s.heap.objs.size<=a)(new:ObjOk X.prog X.w (upd H a o) h' a o):Inv X pI Z (upd H a o) {s with heap:=h',toks:=t'}:=I.un (Un.laid k hp (I.hok.fresh hp)) (I.hok.laid k hp new)
theorem Inv.write{x e:Am}{o:HO}{t':Ag}(I:Inv X pI Z H s)(mu:Mut (H x))(he:e=x\/H e=Ab (.own x))(k:∀ b u,b≠e->s.heap.get? b=Ab u->h'.get? b=Ab u)(heo:∃ u,h'.get? e=Ab u)(new:ObjOk X.prog X.w (upd H x o) h' x o):Inv X pI Z (upd H x o) {s with heap:=h',toks:=t'}:=I.un (Un.write mu he k heo) (I.hok.write mu he k heo new)
theorem Inv.pins_of{pins':Pn}(I:Inv X pI Z H s)(h:∀ p∈pins',s.heap.get? p.1=Ab p.2/\H p.1=Ae/\p.1≠X.env.locals/\p.1∉X.fs/\∀ v,p.2.data≠.cell v):Inv X pins' Z H s:=
 ⟨I.ok,I.os,I.bare,I.base,I.loc,I.cell,I.free,I.freeC,λp hp=>(WN.mp hp).elim (λz=>I.pin p (Gz _ z)) (h p),I.hok,I.len⟩
theorem TV{N:Ac Al}(hN:N.Nodup){j:Ag}(a:N[i]?=Ab x)(b:N[j]?=Ab x):i=j:=by
 obtain⟨h1,e1⟩:=AX.mp a;obtain⟨h2,e2⟩:=AX.mp b;exact(HI hN).mp (e1.trans e2.symm)
theorem Sh{A:Bc}{E:Vq}(I:Inv X pI Z H s)(hN:X.N.Nodup)(hi:X.N[i]?=Ab x)(hx:Loc X.env.scope x)(r:B5 v u)(h:∀ s',Inv X pI (Z.set i (Ab v)) H s'->(∃ a,EY a s.heap s'.heap/\(a=X.env.locals\/X.env.cells.lookup x=Ab a))->Q () s')(hf:X.fn x=Aa\/X.env.scope.names.lookup x=Ab .local:=by first|exact .inl rfl|exact .inr rfl|assumption):AB M A (storeName X.env x u) Q E s:=by
 obtain⟨m,hn,hl⟩:=id I.loc;have hcls:(X.env.scope.kind==.class||(X.env.scope.kind==.module&&X.env.locals != X.env.globals))=Af:=by rw[I.ok.kind];rfl
 have hiσ:i<Z.length:=by rw[I.len];exact(AX.mp hi).1
 have cne:=I.cne;have tracked:∀{a:Am}{h':AJ},(∃ o,s.heap.get? a=Ab o/\H a=Ae)->EY a s.heap h'->HOk X.prog X.w H h':=λ{a h'} ha hs b ob e=>by
  obtain⟨_,_,hfree⟩:=ha;refine(I.hok b ob e).stay (λc w' hc q=>(hs.2 c ?_).trans q) (λ_ q=>q) λ_ _ q=>q
  rintro rfl;rcases hc with rfl|hc
  .rw[hfree]at e;cases e
  .rw[hfree]at hc;cases hc
 rcases hx with hk|hk
 .refine wpAny_storeName_local hk hn (λh' hn' hs=>?_) hcls
  obtain⟨oL,_,_,hoL,_⟩:=id hn;refine h _ ⟨I.ok,I.os,I.bare,⟨λb o e n hb hx=>?_,λb o e n hb hx=>?_,I.base.free,λb o e hx=>?_,I.base.tups,I.base.frzs,I.base.tbls⟩,⟨_,hn',λj y v' e1 e2 e3=>?_⟩,λy c e=>?_,I.free,I.freeC,λp hp=>?_,tracked ⟨oL,hoL,I.free⟩ hs,by simpa using I.len⟩ ⟨_,hs,.inl rfl⟩
  .exact(hs.2 b (A1 (AH (Ax e) I.ok.above))).trans (I.base.keep b o e n hb hx)
  .obtain⟨sl,e1⟩:=I.base.slot b o e n hb hx;exact⟨sl,(hs.2 b (A1 (AH (Ax e) I.ok.above))).trans e1⟩
  .obtain⟨o',e1⟩:=I.base.there b o e hx;exact⟨o',(hs.2 b (A1 (AH (Ax e) I.ok.above))).trans e1⟩
  .by_cases hj:j=i
   .subst hj;rw[hi]at e1;cases e1;rw[CA hiσ]at e2;cases e2;exact⟨u,r,.inl ⟨hk,by simp⟩⟩
   .rw[Gx (BA hj)]at e2;obtain⟨u',r',q⟩:=hl j y v' e1 e2 e3;refine⟨u',r',?_⟩;rcases q with ⟨k,e⟩|⟨k,c,e,z⟩
    .refine .inl ⟨k,?_⟩;have:y≠x:=λe=>hj (TV hN e1 (e ▸ hi))
     simp[this,e]
    .exact .inr ⟨k,c,e,z.sameBut hs (cne y c e)⟩
  .obtain⟨w',z⟩:=I.cell y c e;exact⟨w',z.sameBut hs (cne y c e)⟩
  .obtain⟨e,n,ne,nf,d⟩:=I.pin p hp;exact⟨(hs.2 p.1 ne).trans e,n,ne,nf,d⟩
 .have hfn:X.fn x=Aa:=by
   rcases hf with z|z
   .exact z
   .rw[z]at hk;cases hk
  obtain⟨c,hc⟩:=I.ok.has x (.inl hk);obtain⟨w',z⟩:=I.cell x c hc;refine wpAny_storeName_cell I.ok.kind hk hc z (λh' hc' hs=>?_)
  obtain⟨oc,hoc,hocd⟩:=id z;refine h {s with heap:=h'} ⟨I.ok,I.os,I.bare,⟨λb o e n hb hx=>?_,λb o e n hb hx=>?_,I.base.free,λb o e hx=>?_,I.base.tups,I.base.frzs,I.base.tbls⟩,⟨m,hn.sameBut hs (BA (cne x c hc)),λj y v' e1 e2 e3=>?_⟩,λy c' e=>?_,I.free,I.freeC,λp hp=>?_,tracked ⟨oc,hoc,I.freeC x c hc⟩ hs,by simpa using I.len⟩ ⟨c,hs,.inr hc⟩
  .exact(hs.2 b (A1 (AH (Ax e) (I.ok.cab x c hfn hc)))).trans (I.base.keep b o e n hb hx)
  .obtain⟨sl,e1⟩:=I.base.slot b o e n hb hx;exact⟨sl,(hs.2 b (A1 (AH (Ax e) (I.ok.cab x c hfn hc)))).trans e1⟩
  .obtain⟨o',e1⟩:=I.base.there b o e hx;exact⟨o',(hs.2 b (A1 (AH (Ax e) (I.ok.cab x c hfn hc)))).trans e1⟩
  .by_cases hj:j=i
   .subst hj;rw[hi]at e1;cases e1;rw[CA hiσ]at e2;cases e2;exact⟨u,r,.inr ⟨.inl hk,c,hc,hc'⟩⟩
   .rw[Gx (BA hj)]at e2;obtain⟨u',r',q⟩:=hl j y v' e1 e2 e3;refine⟨u',r',?_⟩;rcases q with q|⟨k,c',e,z'⟩
    .exact .inl q
    .refine .inr ⟨k,c',e,z'.sameBut hs ?_⟩;rintro rfl;exact hj (TV hN e1 (I.ok.inj _ _ _ e hc ▸ hi))
  .by_cases hcc:c'=c
   .subst hcc;exact⟨_,hc'⟩
   .obtain⟨w2,z2⟩:=I.cell y c' e;exact⟨w2,z2.sameBut hs hcc⟩
  .obtain⟨e,n,ne,nf,d⟩:=I.pin p hp;refine⟨(hs.2 p.1 ?_).trans e,n,ne,nf,d⟩;intro q;rw[q,hoc]at e;have q':oc=p.2:=BV e;exact d w' (by rw[<-q'];exact hocd)
theorem Ue{A:Bc}{E:Vq}(I:Inv X pI Z H s)(hN:X.N.Nodup)(hi:X.N[i]?=Ab x)(hx:Loc X.env.scope x)(r:B5 v u)(h:∀ s',Inv X pI (Z.set i (Ab v)) H s'->Q () s')(hf:X.fn x=Aa\/X.env.scope.names.lookup x=Ab .local:=by first|exact .inl rfl|exact .inr rfl|assumption):AB M A (storeName X.env x u) Q E s:=
 Sh I hN hi hx r (λs' I' _=>h s' I') hf
theorem Inv.call'{s':As}(I:Inv X pI Z H s)(ho:s'.os=s.os)(u:Un (frs X.stack) ch H H' s.heap s'.heap)(hok:HOk X.prog X.w H' s'.heap)(hg:FN s'.gens)(hch:∀ b∈ch,(b∈X.ex\/X.s₀.heap.objs.size<=b)/\b≠X.env.locals/\(∀ x c,X.env.cells.lookup x=Ab c->c≠b)/\∀ p∈X.pn++pI,p.1≠b):Inv X pI Z H' s':=by
 obtain⟨h',g',d',t',o'⟩:=s';have e:o'=s.os:=ho;subst e;exact I.call (g':=g') (t':=t') (d':=d') u hok hg hch
end
abbrev XK:=Ai->Ap Am->Hp->Prop
abbrev St:=Ac (Ap V)
variable{Z:St}
abbrev VK:=V->Hp->Prop
abbrev TE:=St->Hp->VK->Prop
variable{te:TE}
abbrev TT:=St->Hp->(Aj->Hp->Prop)->Prop
abbrev TA:=St->Hp->(Ac V->Hp->Prop)->Prop
variable{ta:TA}
structure Ends where
 nx:St->Hp->Prop
 rt:VK
 bk:St->Hp->Prop:=λ_ _=>Bz
 ct:St->Hp->Prop:=λ_ _=>Bz
abbrev TS:=Ends->St->Hp->Prop
def EP(X:Cx)(pI:Pn)(Z:St)(Q:VK)(u:Ai)(s':As):Prop:=∃ v H',Inv X pI Z H' s'/\B5 v u/\Q v H'
def TP(X:Cx)(pI:Pn)(Z:St)(Q:Aj->Hp->Prop)(b:Aj)(s':As):Prop:=∃ H',Inv X pI Z H' s'/\Q b H'
def AP(X:Cx)(pI:Pn)(Z:St)(Q:Ac V->Hp->Prop)(us:Ac Ai)(s':As):Prop:=∃ vs H',Inv X pI Z H' s'/\Bi vs us/\Q vs H'
noncomputable def SP(X:Cx)(pI:Pn)(D:Ends)(f:Flow)(s':As):Prop:=
  match f with
  |.next=>∃ Z' H',Inv X pI Z' H' s'/\D.nx Z' H'
  |.brk=>∃ Z' H',Inv X pI Z' H' s'/\D.bk Z' H'
  |.cont=>∃ Z' H',Inv X pI Z' H' s'/\D.ct Z' H'
  |.ret u=>∃ v Z' H',Inv X pI Z' H' s'/\B5 v u/\D.rt v H'
noncomputable def PE(X:Cx)(e:An)(t:TE):Prop:=
 ∀(pI:Pn)(s:As)(Z:St)(H:Hp)(Q:VK),Inv X pI Z H s->t Z H Q->AB (model X.prog X.w) X.A (eval e X.env) (EP X pI Z Q) X.xe s
noncomputable def PT(X:Cx)(e:An)(t:TT):Prop:=
 ∀(pI:Pn)(s:As)(Z:St)(H:Hp)(Q:Aj->Hp->Prop),Inv X pI Z H s->t Z H Q->AB (model X.prog X.w) X.A (IM e X.env (eval e X.env)) (TP X pI Z Q) X.xe s
noncomputable def PW(X:Cx)(e:An)(t:TT):Prop:=
 ∀(whole:Hh Ai)(pI:Pn)(s:As)(Z:St)(H:Hp)(Q:Aj->Hp->Prop),Inv X pI Z H s->t Z H Q->AB (model X.prog X.w) X.A (IM e X.env whole) (TP X pI Z Q) X.xe s
theorem PW.pt{t:TT}(h:PW X e t):PT X e t:=h _
noncomputable def PA(X:Cx)(es:Ac An)(t:TA):Prop:=
 ∀(pos:A7)(pI:Pn)(s:As)(Z:St)(H:Hp)(Q:Ac V->Hp->Prop),Inv X pI Z H s->t Z H Q->AB (model X.prog X.w) X.A (spliced (C4 pos (AF es X.env))) (AP X pI Z Q) X.xe s
noncomputable def PS(X:Cx)(st:Bx)(t:TS):Prop:=
 ∀(pI:Pn)(s:As)(Z:St)(H:Hp)(D:Ends),Inv X pI Z H s->t D Z H->AB (model X.prog X.w) X.A (exec st X.env) (SP X pI D) X.xe s
noncomputable def PSs(X:Cx)(st:Ac Bx)(t:TS):Prop:=
 ∀(pI:Pn)(s:As)(Z:St)(H:Hp)(D:Ends),Inv X pI Z H s->t D Z H->AB (model X.prog X.w) X.A (execs st X.env) (SP X pI D) X.xe s
theorem thn{α:Type}{t:Hh α}{Q Q':α->As->Prop}{A:Bc}{E:Vq}(h:AB M A t Q E s)(hQ:∀ a s,Q a s->Q' a s):AB M A t Q' E s:=CO h hQ λ_ _ x=>x
section
variable{X:Cx}
def GP(i:Ag):TE:=λZ H Q=>∃ v,Z[i]?=Ab (Ab v)/\Q v H
def tC(v:V):TE:=λ_ H Q=>Q v H
theorem qU(hN:X.N[i]?=Ab x)(hv:Vis X.env.scope x)(hd:(x==("__debug__" : Al))=Af:=by decide)(hcd:(x==("__classdict__" : Al))=Af:=by decide):PE X (.Name x pos) (GP i):=by
 intro pI s Z H Q I h;obtain⟨v,e,h⟩:=h;obtain⟨m,hn,hl⟩:=I.loc;obtain⟨u,r,l⟩:=hl i x v hN e hv;have fin:EP X pI Z Q u s:=⟨v,H,I,r,h⟩;rcases l with ⟨hk,hm⟩|⟨hk,c,hc,hcell⟩
 .exact KB (wpAny_loadName_local I.ok.kind hk hn hm fin) hd
 .rcases hk with hk|hk
  .exact KB (wpAny_loadName_cell I.ok.kind hk hc hcell fin) hd
  .exact KB (wpAny_loadName_free I.ok.kind hk hc hcell fin hcd) hd
theorem rE{i j pos}:PE X (.Constant (.int i) j pos) (tC (.int i)):=λ_ _ _ H _ I h=>wpAny_Constant_int ⟨.int i,H,I.tok _,⟨_,rfl⟩,h⟩
theorem ah{b j pos}:PE X (.Constant (.bool b) j pos) (tC (.bl b)):=λ_ _ _ H _ I h=>Constant_bool ⟨.bl b,H,I,rfl,h⟩
theorem rB{j pos}:PE X (.Constant .none j pos) (tC .non):=λ_ _ _ H _ I h=>Constant_none ⟨.non,H,I,rfl,h⟩
theorem qX{x j pos}:PE X (.Constant (.str x) j pos) (tC (.str x)):=λ_ _ _ H _ I h=>Calls.Constant_str ⟨.str x,H,I.tok _,⟨_,rfl⟩,h⟩
def Gl(X:Cx)(x:Al):Prop:=X.env.kindOf x=Ab .globalImplicit
theorem mQ{E:Vq}{Q:Vq}(I:Inv X pI Z H s)(hg:Gl X x)(hm:X.mg x=Ab u)(h:Q u s)(hd:(x==("__debug__" : Al))=Af:=by decide):AB (model X.prog X.w) X.A (eval (.Name x pos) X.env) Q E s:=
 Xa I.ok.kind hg (Calls.loadGlobal_global (by rw[I.ok.glob];exact I.mod.glob.keeps I.bk) hm h) hd
theorem HW{E:Vq}{Q:Vq}(I:Inv X pI Z H s)(hg:Gl X x)(hm:X.mg x=Ae)(hv:Dr x=Ab u)(h:Q u s)(hn:x≠"__name__" := by decide)(hd:(x==("__debug__" : Al))=Af:=by decide):AB (model X.prog X.w) X.A (eval (.Name x pos) X.env) Q E s:=by
 obtain⟨mb,h1,h2⟩:=I.mod.blt;exact Xa I.ok.kind hg (Calls.loadGlobal_builtin (by rw[I.ok.glob];exact I.mod.glob.keeps I.bk) hm (by rw[I.ok.blt];exact h1.keeps I.bk) ((h2 x hn).trans hv) h) hd
theorem jD(hg:Gl X x)(hm:X.mg x=Ae)(hv:Dr x=Ab u)(r:B5 v u)(hn:x≠"__name__" := by decide)(hd:(x==("__debug__" : Al))=Af:=by decide):PE X (.Name x pos) (tC v):=
 λ_ _ _ H _ I h=>HW I hg hm hv ⟨v,H,I,r,h⟩ hn hd
variable{a b:An}{ta tb:TE}{pos:A7}
variable{tA tB':TT}{rest:Ac An}
def YS(t u:TT):TT:=λZ H Q=>t Z H λc H1=>if c=Aa then u Z H1 Q else Q Af H1
def tOr(t u:TT):TT:=λZ H Q=>t Z H λc H1=>if c=Aa then Q Aa H1 else u Z H1 Q
def Zg(t:TT):TT:=λZ H Q=>t Z H λc H1=>Q (!c) H1
theorem kP(ha:PT X a tA):PW X (.BoolOp .And [a] pos) tA:=by
 intro wh pI s Z H Q I h;refine isTrue_and (thn (ha pI s Z H Q I h) λc s1 e=>?_)
 cases c with
 |true=>exact isTrue_and_nil e
 |false=>exact e
theorem rX(ha:PT X a tA):PW X (.BoolOp .Or [a] pos) tA:=by
 intro wh pI s Z H Q I h;refine isTrue_or (thn (ha pI s Z H Q I h) λc s1 e=>?_)
 cases c with
 |false=>exact isTrue_or_nil e
 |true=>exact e
theorem rY(ha:PT X a tA)(hb:PW X (.BoolOp .And (b::rest) pos) tB'):PW X (.BoolOp .And (a::b::rest) pos) (YS tA tB'):=by
 intro wh pI s Z H Q I h;refine isTrue_and (thn (ha pI s Z H _ I h) λc s1 ⟨H1,I1,q1⟩=>?_)
 cases c with
 |true=>exact hb wh pI s1 Z H1 Q I1 q1
 |false=>exact⟨H1,I1,q1⟩
theorem xJ(ha:PT X a tA)(hb:PW X (.BoolOp .Or (b::rest) pos) tB'):PW X (.BoolOp .Or (a::b::rest) pos) (tOr tA tB'):=by
 intro wh pI s Z H Q I h;refine isTrue_or (thn (ha pI s Z H _ I h) λc s1 ⟨H1,I1,q1⟩=>?_)
 cases c with
 |true=>exact⟨H1,I1,q1⟩
 |false=>exact hb wh pI s1 Z H1 Q I1 q1
theorem rZ(ha:PT X a tA):PT X (.UnaryOp .Not a pos) (Zg tA):=by
 intro pI s Z H Q I h;exact isTrue_not (ha pI s Z H (λc H1=>Q (!c) H1) I h)
def wN(ta tb:TE):TE:=λZ H Q=>ta Z H λx H1=>∃ c,x=.bl c/\if c=Aa then tb Z H1 Q else Q (.bl Af) H1
def Zf(ta tb:TE):TE:=λZ H Q=>ta Z H λx H1=>∃ c,x=.bl c/\if c=Aa then Q (.bl Aa) H1 else tb Z H1 Q
def wJ(ta:TE):TE:=λZ H Q=>ta Z H λx H1=>∃ c,x=.bl c/\Q (.bl (!c)) H1
theorem qY{op}{t:TE}(h:PE X a t):PE X (.BoolOp op [a] pos) t:=λpI s Z H Q I hw=>BoolOp_one (h pI s Z H Q I hw)
theorem uH(ha:PE X a ta)(hb:PE X (.BoolOp .And (b::rest) pos) tb):PE X (.BoolOp .And (a::b::rest) pos) (wN ta tb):=by
 intro pI s Z H Q I h;refine BoolOp_and (thn (ha pI s Z H _ I h) λv s1 ⟨x,H1,I1,r1,q1⟩=>?_)
 obtain⟨c,rfl,q1⟩:=q1;cases r1;refine CZ ?_;cases c with
 |true=>exact hb pI s1 Z H1 Q I1 q1
 |false=>exact⟨.bl Af,H1,I1,rfl,q1⟩
theorem ae(ha:PE X a ta)(hb:PE X (.BoolOp .Or (b::rest) pos) tb):PE X (.BoolOp .Or (a::b::rest) pos) (Zf ta tb):=by
 intro pI s Z H Q I h;refine BoolOp_or (thn (ha pI s Z H _ I h) λv s1 ⟨x,H1,I1,r1,q1⟩=>?_)
 obtain⟨c,rfl,q1⟩:=q1;cases r1;refine CZ ?_;cases c with
 |false=>exact hb pI s1 Z H1 Q I1 q1
 |true=>exact⟨.bl Aa,H1,I1,rfl,q1⟩
theorem qZ(ha:PE X a ta):PE X (.UnaryOp .Not a pos) (wJ ta):=by
 intro pI s Z H Q I h;refine UnaryOp_ (thn (ha pI s Z H _ I h) λv s1 ⟨x,H1,I1,r1,q1⟩=>?_)
 obtain⟨c,rfl,q1⟩:=q1;cases r1;exact not_of (CZ ⟨.bl (!c),H1,I1,rfl,q1⟩)
end
noncomputable def SqL(K:Fg)(H:Hp)(a:Am)(xs:Ac V):Prop:=
 Rd H a (.lst xs) \/
  ∃(o:Dg)(its:AY Ai)(n:Ag),K.lookup a=Ab o/\o.cls=.type "list"/\o.dict=Ae/\o.data=.seq its n/\its.size<=sizeLine/\Bi xs its.toList
noncomputable def SqT(K:Fg)(H:Hp)(a:Am)(xs:Ac V):Prop:=
 Rd H a (.tup xs) \/
  ∃(o:Dg)(its:AY Ai)(n:Ag),K.lookup a=Ab o/\o.cls=.type "tuple"/\o.data=.seq its n/\its.size<=sizeLine/\Bi xs its.toList
noncomputable def Zo:Ai->Ap V
 |.none=>Ab .non
 |.bool b=>Ab (.bl b)
 |.int i _=>Ab (.int i)
 |.str x _=>Ab (.str x)
 |.bytes b _=>Ab (.byt b)
 |.float b _=>Ab (.flt b)
 |.ref a=>Ab (.ref a)
 |.type n=>Ab (.ty n)
 |_=>Ae
theorem B5.abs{x:V}(r:B5 x u):Zo u=Ab x:=by
 cases x with
 |non=>cases r;rfl
 |bl _=>cases r;rfl
 |int _=>obtain⟨t,rfl⟩:=r;rfl
 |str _=>obtain⟨t,rfl⟩:=r;rfl
 |byt _=>obtain⟨t,rfl⟩:=r;rfl
 |flt _=>obtain⟨t,rfl⟩:=r;rfl
 |ref _=>cases r;rfl
 |ty _=>cases r;rfl
theorem B5.inj{x y:V}(r:B5 x u)(q:B5 y u):x=y:=BV (r.abs.symm.trans q.abs)
theorem Bi.inj:∀{xs ys:Ac V}{us:Ac Ai},Bi xs us->Bi ys us->xs=ys
 |_,_,_,.nil,.nil=>rfl
 |_,_,_,.cons r t,.cons r' t'=>by rw[r.inj r',Bi.inj t t']
section
variable{X:Cx}{pI:Pn}{Z:St}{H:Hp}{s:As}{a:Am}{xs ys:Ac V}
theorem SqL.of{K:Fg}(h:H a=Ab (.lst xs)):SqL K H a xs:=.inl (.inl h)
theorem SqT.of{K:Fg}(h:H a=Ab (.tup xs)):SqT K H a xs:=.inl (.inl h)
theorem Inv.list(I:Inv X pI Z H s)(h:SqL X.K H a xs):∃ its:Ac Ai,Bi xs its/\PlainL s.heap a its.toArray/\xs.length<=sizeLine:=by
 rcases h with h|⟨o,its,n,hk,hc,hd,hs,hz,r⟩
 .obtain⟨z,its,n,r,e⟩:=h.ok I.hok;exact⟨its,r,⟨_,n,e,rfl,rfl,rfl⟩,z⟩
 .refine⟨its.toList,r,⟨o,n,I.kIn a o hk,hc,hd,by simpa using hs⟩,?_⟩
  have e:=r.length;simp only[DN]at e;omega
theorem Inv.tuple(I:Inv X pI Z H s)(h:SqT X.K H a xs):∃ its:Ac Ai,Bi xs its/\JQ s.heap a its.toArray/\xs.length<=sizeLine:=by
 rcases h with h|⟨o,its,n,hk,hc,hs,hz,r⟩
 .obtain⟨z,its,r,p⟩:=h.ok I.hok;exact⟨its,r,p,z⟩
 .refine⟨its.toList,r,⟨o,I.kIn a o hk,hc,n,by simpa using hs⟩,?_⟩
  have e:=r.length;simp only[DN]at e;omega
theorem Inv.list_inj(I:Inv X pI Z H s)(h:SqL X.K H a xs)(h':SqL X.K H a ys):xs=ys:=by
 obtain⟨its,r,⟨o,n,e,_,_,d⟩,_⟩:=I.list h;obtain⟨its',r',⟨o',n',e',_,_,d'⟩,_⟩:=I.list h';rw[e]at e';cases e';rw[d]at d'
 injection d' with d1 _
 have:its=its':=by simpa using congrArg Jq d1
 subst this;exact r.inj r'
theorem Inv.tuple_inj(I:Inv X pI Z H s)(h:SqT X.K H a xs)(h':SqT X.K H a ys):xs=ys:=by
 obtain⟨its,r,⟨o,e,_,n,d⟩,_⟩:=I.tuple h;obtain⟨its',r',⟨o',e',_,n',d'⟩,_⟩:=I.tuple h';rw[e]at e';cases e';rw[d]at d'
 injection d' with d1 _
 have:its=its':=by simpa using congrArg Jq d1
 subst this;exact r.inj r'
end
noncomputable abbrev Cx.wish(X:Cx)(E:Vq):Cx:={X with xe:=E}
noncomputable abbrev Cx.nox(X:Cx):Cx:=X.wish λ_ _=>Bz
theorem Cx.Ok.wish(ok:X.Ok)(E:Vq):(X.wish E).Ok:=
 ⟨ok.mod,ok.kind,ok.glob,ok.blt,ok.above,ok.inj,ok.has,ok.cab,ok.hd,ok.frames,ok.stk,ok.exf,ok.bs,ok.bsz,ok.noex,ok.exfs,ok.funs,ok.frf⟩
theorem Cx.Ok.unwish{E:Vq}(ok:(X.wish E).Ok):X.Ok:=
 ⟨ok.mod,ok.kind,ok.glob,ok.blt,ok.above,ok.inj,ok.has,ok.cab,ok.hd,ok.frames,ok.stk,ok.exf,ok.bs,ok.bsz,ok.noex,ok.exfs,ok.funs,ok.frf⟩
section
variable{X:Cx}{pI:Pn}{Z:St}{H:Hp}{s:As}{E:Vq}
theorem Inv.wish(I:Inv X pI Z H s)(E:Vq):Inv (X.wish E) pI Z H s:=⟨I.ok.wish E,I.os,I.bare,I.base,I.loc,I.cell,I.free,I.freeC,I.pin,I.hok,I.len⟩
theorem Inv.unwish(I:Inv (X.wish E) pI Z H s):Inv X pI Z H s:=⟨I.ok.unwish,I.os,I.bare,I.base,I.loc,I.cell,I.free,I.freeC,I.pin,I.hok,I.len⟩
theorem SP.unwish{D:Ends}{f:Flow}{s':As}(h:SP (X.wish E) pI D f s'):SP X pI D f s':=by
 cases f with
 |next=>obtain⟨Z',H',I,q⟩:=h;exact⟨Z',H',I.unwish,q⟩
 |brk=>obtain⟨Z',H',I,q⟩:=h;exact⟨Z',H',I.unwish,q⟩
 |cont=>obtain⟨Z',H',I,q⟩:=h;exact⟨Z',H',I.unwish,q⟩
 |ret u=>obtain⟨v,Z',H',I,r,q⟩:=h;exact⟨v,Z',H',I.unwish,r,q⟩
theorem PSs.nox{st:Ac Bx}{t:TS}(h:PSs X.nox st t):PSs X st t:=λpI s Z H D I hw=>
 CO (h pI s Z H D (I.wish _) hw) (λ_ _ q=>q.unwish) λ_ _ z=>Ef z
end
section
variable{X:Cx}{st:Bx}{rest:Ac Bx}{t u:TS}{e:An}{te:TE}{pos:A7}
def wK:TS:=λD Z H=>D.nx Z H
def Zd(t u:TS):TS:=λD Z H=>t {D with nx:=u D} Z H
theorem iW:PSs X [] wK:=λ_ _ Z H _ I h=>YD ⟨Z,H,I,h⟩
theorem eI(h1:PS X st t)(h2:PSs X rest u):PSs X (st::rest) (Zd t u):=by
 intro pI s Z H D I h;refine wpAny_execs_cons (thn (h1 pI s Z H {D with nx:=u D} I h) λf s1 q=>?_)
 cases f with
 |next=>
  obtain⟨Z',H',I',q⟩:=q;exact h2 pI s1 Z' H' D I' q
 |ret v=>exact q
 |brk=>exact q
 |cont=>exact q
theorem Inv.quiet(I:Inv X pI Z H s):interactive X.env=Af:=by simp[interactive,I.ok.kind]
def wL(te:TE):TS:=λD Z H=>te Z H λ_ H1=>D.nx Z H1
theorem Nh(he:PE X e te)(hs:DJ e Ae pos.line X.env=pure Af:=by rfl):PS X (.Expr e pos) (wL te):=by
 intro pI s Z H D I h;exact wpAny_Expr_any (thn (he pI s Z H _ I h) λv s1 ⟨x,H1,I1,r1,q1⟩=>⟨Z,H1,I1,q1⟩) I.quiet hs
def Ze(te:TE):TS:=λD Z H=>te Z H D.rt
theorem Qm(he:PE X e te):PS X (.Return (Ab e) pos) (Ze te):=by
 intro pI s Z H D I h;exact wpAny_Return_some (thn (he pI s Z H _ I h) λv s1 ⟨x,H1,I1,r1,q1⟩=>⟨x,Z,H1,I1,r1,q1⟩)
def Zj(c:TT)(t u:TS):TS:=λD Z H=>c Z H λb H1=>if b=Aa then t D Z H1 else u D Z H1
theorem xL{c:An}{a b:Ac Bx}{tc:TT}(hc:PT X c tc)(ha:PSs X a t)(hb:PSs X b u):PS X (.If c a b pos) (Zj tc t u):=by
 intro pI s Z H D I h;refine wpAny_If (thn (hc pI s Z H _ I h) λd s1 ⟨H1,I1,q1⟩=>?_)
 cases d with
 |true=>exact ha pI s1 Z H1 D I1 q1
 |false=>exact hb pI s1 Z H1 D I1 q1
end
abbrev TG:=V->St->Hp->(St->Hp->Prop)->Prop
abbrev TGs:=Ac V->St->Hp->(St->Hp->Prop)->Prop
noncomputable def PG(X:Cx)(target:An)(t:TG):Prop:=
 ∀(pI:Pn)(s:As)(Z:St)(H:Hp)(v:V)(u:Ai)(Q:St->Hp->Prop),Inv X pI Z H s->B5 v u->t v Z H Q ->
  AB (model X.prog X.w) X.A (assign target X.env u) (λ_ s'=>∃ Z' H',Inv X pI Z' H' s'/\Q Z' H') X.xe s
noncomputable def PGs(X:Cx)(ts:Ac An)(t:TGs):Prop:=
 ∀(pI:Pn)(s:As)(Z:St)(H:Hp)(vs:Ac V)(us:Ac Ai)(Q:St->Hp->Prop),Inv X pI Z H s->Bi vs us->t vs Z H Q ->
  AB (model X.prog X.w) X.A (assignInOrder ((Cz ts X.env).map (·.2)) us) (λ_ s'=>∃ Z' H',Inv X pI Z' H' s'/\Q Z' H') X.xe s
abbrev Ro:=V->V->V->Hp->(Hp->Prop)->Prop
noncomputable def RV(X:Cx)(t:Ro):Prop:=
 ∀(pI:Pn)(s:As)(Z:St)(H:Hp)(o i v:V)(ov iv u:Ai)(Q:Hp->Prop),Inv X pI Z H s->B5 o ov->B5 i iv->B5 v u->t o i v H Q ->
  AB (model X.prog X.w) X.A (setItem ov iv u) (λ_ s'=>∃ H',Inv X pI Z H' s'/\Q H') X.xe s
section
variable{X:Cx}{pos:A7}
def ED(i:Ag):TG:=λv Z H Q=>Q (Z.set i (Ab v)) H
theorem L8(hN:X.N.Nodup)(hi:X.N[i]?=Ab x)(hx:Loc X.env.scope x)(hf:X.fn x=Aa\/X.env.scope.names.lookup x=Ab .local:=by first|exact .inl rfl|exact .inr rfl|assumption):PG X (.Name x pos) (ED i):=by
 intro pI s Z H v u Q I r h;exact YB (Ue I hN hi hx r (λs' I'=>⟨_,H,I',h⟩) hf)
def Ic:TGs:=λvs Z H Q=>vs=[]/\Q Z H
def Ib(t:TG)(u:TGs):TGs:=λvs Z H Q=>∃ v r,vs=v::r/\t v Z H λZ' H'=>u r Z' H' Q
theorem Us:PGs X [] Ic:=by
 intro pI s Z H vs us Q I r h;obtain⟨e,h⟩:=h;subst e;cases r;exact assignInOrder_nil ⟨Z,H,I,h⟩
theorem TD{t:TG}{u:TGs}(h1:PG X e t)(h2:PGs X es u)(hs:(Cz (e::es) X.env).map (·.2)=assign e X.env::(Cz es X.env).map (·.2):=by rfl):PGs X (e::es) (Ib t u):=by
 intro pI s Z H vs us Q I r h;obtain⟨v,vr,e1,h⟩:=h;subst e1;cases r with
 |cons r rr=>
  rw[hs];refine assignInOrder_cons (thn (h1 pI s Z H _ _ _ I r h) λ_ s1 ⟨Z1,H1,I1,q1⟩=>?_)
  exact h2 pI s1 Z1 H1 _ _ Q I1 rr q1
def Lr(K:Fg)(n:Ag)(t:TGs):TG:=λv Z H Q=>∃ a xs,v=.ref a/\SqT K H a xs/\xs.length=n/\t xs Z H Q
theorem Qf{t:TGs}(hc:X.calm=Aa)(h:PGs X es t)(hn:(Cz es X.env).length=n:=by rfl)(hst:(Cz es X.env).findIdx? (·.1)=Ae:=by rfl):PG X (.Tuple es k pos) (Lr X.K n t):=by
 intro pI s Z H v u Q I r hw;obtain⟨a,xs,e1,hq,hl,hw⟩:=hw;subst e1;cases r;obtain⟨its,rv,ht,hz⟩:=I.tuple hq;refine assign_Tuple_tuple (I.ok.hd hc) ht (by simp[hn,<-hl,rv.length]) hst λh' hx=>?_
 have I1:Inv X pI Z H {s with heap:=h'}:=I.kept (t':=s.toks) λb o e=>hx b o (A1 (Ax e)) e
 exact h pI _ Z H xs _ Q I1 (by simpa using rv) hw
def YI(to ti:TE)(t:Ro):TG:=λv Z H Q=>to Z H λo H1=>ti Z H1 λi H2=>t o i v H2 λH3=>Q Z H3
theorem sI{o i:An}{to ti:TE}{t:Ro}(ho:PE X o to)(hi:PE X i ti)(hs:RV X t)(ha:∀ v,assign (.Subscript o i pos) X.env v=(do
   let ov <-holding [v] (eval o X.env)
   let iv <-holding [v,ov] (eval i X.env)
   JU pos
   holding [v,ov,iv] (setItem ov iv v)
   release [v,ov,iv] []):=by intro _;rfl):PG X (.Subscript o i pos) (YI to ti t):=by
 intro pI s Z H v u Q I r h;rw[ha];refine Ah (Ck (thn (ho pI s Z H _ I h) λov s1 ⟨x,H1,I1,r1,q1⟩=>?_))
 refine Ah (Ck (thn (hi pI s1 Z H1 _ I1 q1) λiv s2 ⟨y,H2,I2,r2,q2⟩=>?_))
 refine Ah (Hk (Ah (Ck (thn (hs pI s2 Z H2 x y v ov iv u _ I2 r1 r2 r q2) λ_ s3 ⟨H3,I3,q3⟩=>?_))))
 exact wpAny_release ⟨Z,H3,I3,q3⟩
def Mo(te:TE)(g:TG):TS:=λD Z H=>te Z H λx H1=>g x Z H1 D.nx
theorem Vt{g:TG}(he:PE X e te)(hg:PG X tg g)(hs:Hj [tg] e pos.line X.env=pure Af:=by rfl)(hw:Gb [tg] e X.env=pure Ae:=by rfl)(h1:(Cz [tg] X.env).map (·.2)=[assign tg X.env]:=by rfl):PS X (.Assign [tg] e pos) (Mo te g):=by
 intro pI s Z H D I h;refine wpAny_Assign_stores (thn (he pI s Z H _ I h) λv s1 ⟨x,H1,I1,r1,q1⟩=>?_) hs hw
 rw[h1];exact thn (hg pI s1 Z H1 x v _ I1 r1 q1) λ_ s2 q=>q
theorem Vs{pos':A7}(hN:X.N.Nodup)(hi:X.N[i]?=Ab x)(hx:Loc X.env.scope x)(he:PE X e te)(hs:DJ e (Ab (.Name x pos')) pos.line X.env=pure Af:=by rfl)(hf:X.fn x=Aa\/X.env.scope.names.lookup x=Ab .local:=by first|exact .inl rfl|exact .inr rfl|assumption):PS X (.Assign [.Name x pos'] e pos) (Mo te (ED i)):=by
 intro pI s Z H D I h;refine wpAny_Assign_Name (thn (he pI s Z H _ I h) λv s1 ⟨y,H1,I1,r1,q1⟩=>?_) hs
 exact Ue I1 hN hi hx r1 (λs2 I2=>⟨_,H1,I2,q1⟩) hf
end
section
variable{X:Cx}{pos:A7}
end
structure It where
 go:Ag->Hp->Prop
 yld:Ag->Hp->V->Hp->Prop
 stop:Ag->Hp->Prop
noncomputable def G6(X:Cx)(pI:Pn)(H:Hp)(b:Am):Prop:=
 H b=Ae/\b≠X.env.locals/\b∉X.fs/\(b∈X.ex\/X.s₀.heap.objs.size<=b)/\(∀ x c,X.env.cells.lookup x=Ab c->c≠b)/\∀ p∈X.pn++pI,p.1≠b
theorem Inv.fpOk{H':Hp}(I:Inv X pI Z H s)(hb:s.heap.objs.size<=b)(hn:H' b=Ae):G6 X pI H' b:=by
 refine⟨hn,CJ (AH I.lt hb),I.nofs hb,.inr (Cb I.sz hb),λx c e z=>?_,λp hp z=>?_⟩
 .obtain⟨v,q⟩:=I.cell x c e;exact absurd (AH q.lt (by rw[z];exact hb)) (Bu _)
 .exact absurd (AH (Ax (I.pin p hp).1) (by rw[z];exact hb)) (Bu _)
structure Turn (P:AT) (w:AE) (K:Fg) (tg:An) (J:It) (fp:Ac Am) (it:Am) (tn:Ag->AJ->Prop):Prop where
 mem:it∈fp
 obj:∀ i h,tn i h->∀ b∈fp,∃ o,h.get? b=Ab o/\∀ v,o.data≠.cell v
 keep:∀ i h h',tn i h->(∀ b∈fp,∀ o,h.get? b=Ab o->h'.get? b=Ab o)->tn i h'
 item:∀(X:Cx),X.prog=P->X.w=w->X.K=K->X.calm=Aa->∀(i:Ag)(pI:Pn)(s:As)(Z:St)(H:Hp)(E:Vq),Inv X pI Z H s->(∀ b∈fp,G6 X pI H b)->tn i s.heap->J.go i H ->
  AB (model P w) X.A (Ed (.ref it)) (λr s1=>∃ u,r=Ab u /\
   AB (model P w) X.A (GH tg (.ref it) u) (λ_ s2=>∃ x H',Inv X pI Z H' s2/\B5 x u/\J.yld i H x H'/\tn (i+1) s2.heap/\∀ b∈fp,H' b=Ae) E s1) E s
 done:∀(X:Cx),X.prog=P->X.w=w->X.K=K->X.calm=Aa->∀(i:Ag)(pI:Pn)(s:As)(Z:St)(H:Hp)(E:Vq),Inv X pI Z H s->(∀ b∈fp,G6 X pI H b)->tn i s.heap->J.stop i H ->
  AB (model P w) X.A (Ed (.ref it)) (λr s1=>r=Ae/\Inv X pI Z H s1) E s
 self:∀(A:Bc)(i:Ag)(s:As)(Q:Vq)(E:Vq),tn i s.heap->Q (.ref it) s->AB (model P w) A (Kz (.ref it)) Q E s
abbrev TI:=St->Hp->(It->Hp->Prop)->Prop
noncomputable def PIE(X:Cx)(pI:Pn)(Z:St)(tg:An)(R:It->Hp->Prop)(itv:Ai)(s2:As):Prop:=
 ∃(it:Am)(fp:Ac Am)(tn:Ag->AJ->Prop)(J:It)(H':Hp),itv=.ref it/\Inv X pI Z H' s2/\Turn X.prog X.w X.K tg J fp it tn/\tn 0 s2.heap/\(∀ b∈fp,G6 X pI H' b)/\R J H'
noncomputable def PI(X:Cx)(tg iter:An)(wi:TI):Prop:=
 ∀(pI:Pn)(s:As)(Z:St)(H:Hp)(R:It->Hp->Prop),Inv X pI Z H s->wi Z H R ->
  AB (model X.prog X.w) X.A (eval iter X.env) (λv s1=>AB (model X.prog X.w) X.A (Kz v) (PIE X pI Z tg R) X.xe s1) X.xe s
theorem QP{A:Bc}{E:Vq}{n:Dj}{vs:AY Ai}(ho:s.heap.get? it=Ab o)(hc:o.cls=.type n)(hd:o.data=.fields vs)(hn:["enumerate", "zip", "dict_itemiterator", "dict_reverseitemiterator", "odict_iterator", "itertools.zip_longest", "itertools.pairwise"].contains n=Af)(hQ:Q () s):AB M A (GH tg (.ref it) u) Q E s:=by
  unfold GH;cases tg<;>first
    |exact Av hQ
    | (cases u<;>first
        |exact Av hQ
        | (refine Ah (wpAny_load ho ?_)
           rw[hc,hd];show AB M A (if (["enumerate", "zip", "dict_itemiterator", "dict_reverseitemiterator", "odict_iterator", "itertools.zip_longest", "itertools.pairwise"].contains n&&vs[0]? == Ab (Co _))=Aa then _ else _) Q E s
           rw[AV (by intro h;rw[hn,Bool.false_and]at h;cases h)]
           exact Av hQ))
noncomputable def Itl(K:Fg)(a:Am):It:=
 ⟨λi H=>∃ xs x,SqL K H a xs/\xs[i]?=Ab x,λi H x H'=>H'=H/\∀ xs,SqL K H a xs->xs[i]?=Ab x,λi H=>∃ xs,SqL K H a xs/\xs.length<=i⟩
noncomputable def Itt(K:Fg)(a:Am):It:=
 ⟨λi H=>∃ xs x,SqT K H a xs/\xs[i]?=Ab x,λi H x H'=>H'=H/\∀ xs,SqT K H a xs->xs[i]?=Ab x,λi H=>∃ xs,SqT K H a xs/\xs.length<=i⟩
noncomputable def Itr(lo:Ad)(n:Ag):It:=⟨λi _=>i<n,λi H x H'=>H'=H/\x=.int (lo+i),λi _=>n<=i⟩
theorem ZQ{w:AE}{K:Fg}(a it:Am):Turn P w K tg (Itl K a) [it] it (λi h=>h.IsListIter it a i) where
  mem:=by simp
  obj:=λi h st b hb=>by
    have e:b=it:=by simpa using hb
    subst e;obtain⟨o,e,c,d⟩:=st;exact⟨o,e,λv z=>by rw[d]at z;cases z⟩
  keep:=λi h h' st k=>st.at λo e=>k it (by simp) o e
  item:=by
    intro X hP hw hK hc i pI s Z H E I hf st hg;subst hP hw hK;obtain⟨xs,x,hq,hx⟩:=hg;obtain⟨its,rv,p,hz⟩:=I.list hq;obtain⟨u,hu,ru⟩:=rv.get hx;obtain⟨f0,f1,f2,f3,f4,f5⟩:=hf it (by simp)
    refine YH st p.isList (x:=u) (by simpa using hu) λh' st' sb=>?_
    have I1:Inv X pI Z H {s with heap:=h'}:=I.turned (t':=s.toks) (λb o hb e=>(sb.2 b hb).trans e) f0 f1 f3 f4 f5
    obtain⟨o,e,c,d⟩:=id st';exact⟨u,rfl,QP (s:={s with heap:=h'}) e c d (by decide) ⟨x,H,I1,ru,⟨rfl,λys hy=>by rw[I.list_inj hy hq];exact hx⟩,st',λb hb=>(hf b hb).1⟩⟩
  done:=by
    intro X hP hw hK hc i pI s Z H E I hf st hg;subst hP hw hK;obtain⟨xs,hq,hx⟩:=hg;obtain⟨its,rv,p,hz⟩:=I.list hq;obtain⟨f0,f1,f2,f3,f4,f5⟩:=hf it (by simp)
    have hl:=rv.length;exact YG (I.ok.hd hc) st p.isList (by simp;omega) λh' eb=>⟨rfl,I.turned (t':=s.toks) (λb o hb e=>eb b o hb e) f0 f1 f3 f4 f5⟩
  self:=λ_ _ _ _ _ st h=>wpAny_pyIter_listiter st h
theorem Z_9{w:AE}{K:Fg}(a it:Am):Turn P w K tg (Itt K a) [it] it (λi h=>h.IsTupleIter it a i) where
  mem:=by simp
  obj:=λi h st b hb=>by
    have e:b=it:=by simpa using hb
    subst e;obtain⟨o,e,c,d⟩:=st;exact⟨o,e,λv z=>by rw[d]at z;cases z⟩
  keep:=λi h h' st k=>st.at λo e=>k it (by simp) o e
  item:=by
    intro X hP hw hK hc i pI s Z H E I hf st hg;subst hP hw hK;obtain⟨xs,x,hq,hx⟩:=hg;obtain⟨its,rv,p,hz⟩:=I.tuple hq;obtain⟨u,hu,ru⟩:=rv.get hx;obtain⟨f0,f1,f2,f3,f4,f5⟩:=hf it (by simp)
    refine wpAny_pyNext_tuple_item st (show s.heap.IsTuple a its.toArray from p) (x:=u) (by simpa using hu) λh' st' sb=>?_
    have I1:Inv X pI Z H {s with heap:=h'}:=I.turned (t':=s.toks) (λb o hb e=>(sb.2 b hb).trans e) f0 f1 f3 f4 f5
    obtain⟨o,e,c,d⟩:=id st';exact⟨u,rfl,QP (s:={s with heap:=h'}) e c d (by decide) ⟨x,H,I1,ru,⟨rfl,λys hy=>by rw[I.tuple_inj hy hq];exact hx⟩,st',λb hb=>(hf b hb).1⟩⟩
  done:=by
    intro X hP hw hK hc i pI s Z H E I hf st hg;subst hP hw hK;obtain⟨xs,hq,hx⟩:=hg;obtain⟨its,rv,p,hz⟩:=I.tuple hq;obtain⟨f0,f1,f2,f3,f4,f5⟩:=hf it (by simp)
    have hl:=rv.length;exact wpAny_pyNext_tuple_end (I.ok.hd hc) st (show s.heap.IsTuple a its.toArray from p) (by simp;omega) λh' eb=>⟨rfl,I.turned (t':=s.toks) (λb o hb e=>eb b o hb e) f0 f1 f3 f4 f5⟩
  self:=λ_ _ _ _ _ st h=>wpAny_pyIter_tupleiter st h
theorem aA{w:AE}{K:Fg}(it:Am)(lo:Ad)(n:Ag):Turn P w K tg (Itr lo n) [it] it (λi h=>IsRangeIter h it (lo+(i:Ag)*1) ((n:Ad)-(i:Ag)) 1) where
  mem:=by simp
  obj:=λi h st b hb=>by
    have e:b=it:=by simpa using hb
    subst e;exact⟨_,st,λv z=>by
      have z':Data.fields _=LA v:=z;cases z'⟩
  keep:=λi h h' st k=>k it (by simp) _ st
  item:=by
    intro X hP hw hK hc i pI s Z H E I hf st hg;subst hP hw hK;obtain⟨f0,f1,f2,f3,f4,f5⟩:=hf it (by simp)
    have W:=Walks.range (prog:=X.prog) (w:=X.w) (I.ok.hd hc) it lo 1 n;refine W.item i s _ _ hg st λv h' tk hv st' kk=>?_
    obtain⟨t,rfl⟩:=hv;have I1:Inv X pI Z H {s with heap:=h',toks:=tk}:=I.turned (λb o hb e=>kk b o (by simpa using hb) e) f0 f1 f3 f4 f5
    refine⟨_,rfl,QP (s:={s with heap:=h',toks:=tk}) (n := "range_iterator") st' rfl rfl (by decide) ⟨.int (lo+i),H,I1,⟨t,?_⟩,⟨rfl,rfl⟩,st',λb hb=>(hf b hb).1⟩⟩
    rw[DB]
  done:=by
    intro X hP hw hK hc i pI s Z H E I hf st hg;subst hP hw hK;obtain⟨f0,f1,f2,f3,f4,f5⟩:=hf it (by simp)
    exact wpAny_pyNext_range_end (I.ok.hd hc) st (by have:n<=i:=hg;omega) λh' eb=>⟨rfl,I.turned (t':=s.toks) (λb o hb e=>eb b o hb e) f0 f1 f3 f4 f5⟩
  self:=λ_ _ _ _ _ st h=>wpAny_pyIter_rangeiter st h
section
variable{X:Cx}{tg:An}
theorem TC{R:It->Hp->Prop}{E:Vq}{lo hi:Ad}{t u v:DF}{tk:Ag}(I:Inv X pI Z H s)(h1:-(2 ^ 62)<=lo)(h2:lo<2 ^ 62)(h3:-(2 ^ 62)<=hi)(h4:hi<2 ^ 62)(q:R (Itr lo (hi-lo).toNat) H):AB (model X.prog X.w) X.A (Kz (.ref s.heap.objs.size)) (PIE X pI Z tg R) E { s with heap:=s.heap.push { cls:=.type "range",data:=.fields #[.int lo t,.int hi u,.int 1 v] },toks:=tk }:=by
 refine wpAny_pyIter_range (IsRange.new ..) (small_one h1 h2 h3 h4) ?_;have I1:Inv X pI Z H { s with heap:=s.heap.push { cls:=.type "range",data:=.fields #[.int lo t,.int hi u,.int 1 v] },toks:=tk }:=I.kept λb o e=>Ar _ e
 refine⟨(s.heap.push { cls:=.type "range",data:=.fields #[.int lo t,.int hi u,.int 1 v] }).objs.size,[(s.heap.push { cls:=.type "range",data:=.fields #[.int lo t,.int hi u,.int 1 v] }).objs.size],_,_,H,rfl,
  I1.kept (t':=tk) λb o e=>Ar _ e,aA _ lo (hi-lo).toNat,?_,λb hb=>?_,q⟩
 .have e1:lo+((0:Ag):Ad)*1=lo:=by simp
  have e2:(((hi-lo).toNat:Ag):Ad)-((0:Ag):Ad)=Builtin.Range.rangeSize lo hi 1:=by rw[rangeSize_one];split<;>omega
  show IsRangeIter _ _ (lo+((0:Ag):Ad)*1) ((((hi-lo).toNat:Ag):Ad)-((0:Ag):Ad)) 1;rw[e1,e2];exact Aw _ rfl
 .have e:b=(s.heap.push { cls:=.type "range",data:=.fields #[.int lo t,.int hi u,.int 1 v] }).objs.size:=by simpa using hb
  subst e;exact I1.fpOk (A6 _) (I1.hok.fresh (A6 _))
def zY(ta:TA):TI:=λZ H R=>ta Z H λvs H1=>∃ j:Ad,vs=[.int j]/\-(2 ^ 62)<=j/\j<2 ^ 62/\R (Itr 0 j.toNat) H1
def zX(ta:TA):TI:=λZ H R=>ta Z H λvs H1=>∃ i j:Ad,vs=[.int i,.int j]/\(-(2 ^ 62)<=i/\i<2 ^ 62/\-(2 ^ 62)<=j/\j<2 ^ 62)/\R (Itr i (j-i).toNat) H1
theorem aH{a:An}(hg:Gl X "range")(hm:X.mg "range" = Ae)(ha:PA X [a] ta)(hs:AF [a] X.env=[(Af,eval a X.env)]:=by rfl):PI X tg (.Call (.Name "range" p) [a] [] pos) (zY ta):=by
 intro pI s Z H R I h;refine IR (HW I hg hm boot_range (BR (thn (ha pos pI s Z H _ I h) λus s1 ⟨vs,H1,I1,r1,q1⟩=>?_) hs rfl))
 obtain⟨j,e,q1,q2,q⟩:=q1;subst e;cases r1 with
 |cons r rr=>
  cases rr;obtain⟨t,rfl⟩:=r;exact call_range_1 (TC I1 (by omega) (by omega) q1 q2 (by simpa using q))
theorem bB{a b:An}(hg:Gl X "range")(hm:X.mg "range" = Ae)(ha:PA X [a,b] ta)(hs:AF [a,b] X.env=[(Af,eval a X.env),(Af,eval b X.env)]:=by rfl)(hs2:AF [b] X.env=[(Af,eval b X.env)]:=by rfl):
  PI X tg (.Call (.Name "range" p) [a,b] [] pos) (zX ta):=by
 intro pI s Z H R I h;refine IR (HW I hg hm boot_range (BR (thn (ha pos pI s Z H _ I h) λus s1 ⟨vs,H1,I1,r1,q1⟩=>?_) (by rw[hs,hs2]) (by rw[hs2];rfl)))
 obtain⟨i,j,e,⟨q1,q2,q3,q4⟩,q⟩:=q1;subst e;cases r1 with
 |cons r rr=>
  cases rr with
  |cons r' rr=>
   cases rr;obtain⟨t,rfl⟩:=r;obtain⟨t',rfl⟩:=r';exact call_range_2 (TC I1 q1 q2 q3 q4 q)
def YQ(wi:TI)(g:TG)(tb:TS):TS:=λD Z H=>wi Z H λJ H1=>∃ W:Ag->Ag->St->Hp->Prop,(∃ m,W 0 m Z H1)/\∀ i m Z H,W i m Z H ->
 (J.stop i H/\D.nx Z H)\/(J.go i H/\∃ N:St->Hp->Prop,(∀ Z' H',N Z' H'->∃ m',m'<m/\W (i+1) m' Z' H')/\∀ x H',J.yld i H x H'->g x Z H' λZ2 H2=>tb {D with nx:=N,ct:=N,bk:=D.nx} Z2 H2)
noncomputable def Kk(fp:Ac Am)(h:AJ):Pn:=fp.filterMap λb=>(h.get? b).map λo=>(b,o)
theorem MF(hb:b∈fp)(e:h.get? b=Ab o):(b,o)∈Kk fp h:=List.mem_filterMap.mpr ⟨b,hb,by rw[e];rfl⟩
theorem S6{p:Am×Dg}(hp:p∈Kk fp h):p.1∈fp/\h.get? p.1=Ab p.2:=by
 obtain⟨b,hb,e⟩:=List.mem_filterMap.mp hp;cases q:h.get? b with
 |none=>rw[q]at e;cases e
 |some o=>
  rw[q]at e;have e':(b,o)=p:=BV e;subst e';exact⟨hb,q⟩
theorem Inv.pinned(I:Inv X pI Z H s)(hf:∀ b∈fp,G6 X pI H b)(ho:∀ b∈fp,∃ o,s.heap.get? b=Ab o/\∀ v,o.data≠.cell v):Inv X (pI++Kk fp s.heap) Z H s:=
 I.pins_of λp hp=>(WN.mp hp).elim (λz=>I.pin p (BE _ z)) λz=>by
  obtain⟨hb,e⟩:=S6 z;obtain⟨f0,f1,f2,_⟩:=hf p.1 hb;obtain⟨o,e',d⟩:=ho p.1 hb;rw[e]at e';cases e';exact⟨e,f0,f1,f2,d⟩
theorem Inv.unpinned{pI pl:Pn}(I:Inv X (pI++pl) Z H s):Inv X pI Z H s:=I.pins_of λp hp=>I.pin p (BE _ (Gz _ hp))
theorem sB{iter:An}{wi:TI}{g:TG}{tb:TS}(hp:Gu (model X.prog X.w) X.A X.env X.xe)(hc:X.calm=Aa)(hi:PI X tg iter wi)(hg:PG X tg g)(hb:PSs X body tb)(hs:∀ x,CY iter X.env x=pure x:=by intro _;rfl):PS X (.For tg iter body [] pos) (YQ wi g tb):=by
 intro pI s Z H D I h;refine wpAny_For (thn (hi pI s Z H _ I h) λv s1 h1=>thn h1 λitv s2 h2=>?_) hs
 obtain⟨it,fp,tn,J,H2,e,I2,T,st2,f2,W,⟨m0,w0⟩,turn⟩:=h2;subst e
 -- what stays Aa of the iterator's objects through the loop
 have stat:∀{H':Hp},(∀ b∈fp,H' b=Ae)->∀ b∈fp,G6 X pI H' b:=λhn b hb=>⟨hn b hb,(f2 b hb).2⟩
 refine codeAny_forLoop_any (λn s'=>∃ i Z' H',Inv X pI Z' H' s'/\tn i s'.heap/\(∀ b∈fp,H' b=Ae)/\W i n Z' H') ?_ m0 ⟨0,Z,H2,I2,st2,λb hb=>(f2 b hb).1,w0⟩
 rintro n s3 ⟨i,Z3,H3,I3,st3,fr3,w3⟩;rcases turn i n Z3 H3 w3 with ⟨stop,qn⟩|⟨go,N,hN,step⟩
 .refine Fw hp (thn (T.done X rfl rfl rfl hc i pI s3 Z3 H3 X.xe I3 (stat fr3) st3 stop) λr s4 ⟨hr,I4⟩=>?_)
  subst hr;exact YD ⟨Z3,H3,I4,qn⟩
 .refine Fw hp (thn (T.item X rfl rfl rfl hc i pI s3 Z3 H3 X.xe I3 (stat fr3) st3 go) λr s4 ⟨u,hr,h4⟩=>?_)
  subst hr;refine Fw hp (thn h4 λ_ s5 ⟨x,H5,I5,r5,y5,st5,fr5⟩=>?_)
  have I5':=I5.pinned (stat fr5) (T.obj _ _ st5);refine Fw hp (thn (hg _ s5 Z3 H5 x u _ I5' r5 (step x H5 y5)) λ_ s6 ⟨Z6,H6,I6,q6⟩=>?_)
  refine Fw hp (thn (hb _ s6 Z6 H6 _ I6 q6) λf s7 q7=>?_)
  have again:∀{Z7:St}{H7:Hp},Inv X (pI++Kk fp s5.heap) Z7 H7 s7->N Z7 H7->∃ m,m<n/\∃ i Z' H',Inv X pI Z' H' s7/\tn i s7.heap/\(∀ b∈fp,H' b=Ae)/\W i m Z' H':=λ{Z7 H7} I7 n7=>by
   obtain⟨m',hm,w7⟩:=hN Z7 H7 n7;refine⟨m',hm,i+1,Z7,H7,I7.unpinned,T.keep _ _ _ st5 λb hb o e=>(I7.pin (b,o) (BE _ (BE _ (MF hb e)))).1,λb hb=>?_,w7⟩
   obtain⟨o,e,d⟩:=T.obj _ _ st5 b hb;exact(I7.pin (b,o) (BE _ (BE _ (MF hb e)))).2.1
  cases f with
  |next=>obtain⟨Z7,H7,I7,n7⟩:=q7;exact again I7 n7
  |cont=>obtain⟨Z7,H7,I7,n7⟩:=q7;exact again I7 n7
  |brk=>obtain⟨Z7,H7,I7,q7⟩:=q7;exact⟨Z7,H7,I7.unpinned,q7⟩
  |ret v=>obtain⟨x7,Z7,H7,I7,r7,q7⟩:=q7;exact⟨x7,Z7,H7,I7.unpinned,r7,q7⟩
end
abbrev R2:=V->V->Hp->VK->Prop
variable{r:R2}
noncomputable def OpR(X:Cx)(f:Ai->Ai->Hh Ai)(r:R2):Prop:=
 ∀(pI:Pn)(s:As)(Z:St)(H:Hp)(x y:V)(v u:Ai)(Q:VK),Inv X pI Z H s->B5 x v->B5 y u->r x y H Q ->
  AB (model X.prog X.w) X.A (f v u) (EP X pI Z Q) X.xe s
noncomputable def UnR(X:Cx)(f:Ai->Hh Ai)(r:V->Hp->VK->Prop):Prop:=
 ∀(pI:Pn)(s:As)(Z:St)(H:Hp)(x:V)(v:Ai)(Q:VK),Inv X pI Z H s->B5 x v->r x H Q ->
  AB (model X.prog X.w) X.A (f v) (EP X pI Z Q) X.xe s
noncomputable def H9(X:Cx)(f:Ai)(r:Ac V->Hp->VK->Prop):Prop:=
 ∀(pI:Pn)(s:As)(Z:St)(H:Hp)(xs:Ac V)(us:Ac Ai)(Q:VK),Inv X pI Z H s->Bi xs us->r xs H Q ->
  AB (model X.prog X.w) X.A (call f us) (EP X pI Z Q) X.xe s
noncomputable def Zq(X:Cx)(r:V->Hp->(Aj->Hp->Prop)->Prop):Prop:=
 ∀(pI:Pn)(s:As)(Z:St)(H:Hp)(x:V)(v:Ai)(Q:Aj->Hp->Prop),Inv X pI Z H s->B5 x v->r x H Q ->
  AB (model X.prog X.w) X.A (truthy v) (TP X pI Z Q) X.xe s
def tOp(r:R2)(ta tb:TE):TE:=λZ H Q=>ta Z H λx H1=>tb Z H1 λy H2=>r x y H2 Q
def tUn(r:V->Hp->VK->Prop)(ta:TE):TE:=λZ H Q=>ta Z H λx H1=>r x H1 Q
def rI(C:Ad->Ad->Prop)(g:Ad->Ad->V):R2:=λx y H Q=>∃ i j,x=.int i/\y=.int j/\C i j/\Q (g i j) H
def rI0(g:Ad->Ad->V):R2:=λx y H Q=>∃ i j,x=.int i/\y=.int j/\Q (g i j) H
def rU(g:Ad->V):V->Hp->VK->Prop:=λx H Q=>∃ i,x=.int i/\Q (g i) H
section
variable{X:Cx}{a b c:An}{ta tb tc:TE}{pos:A7}
theorem Rn(ha:PE X a ta)(hb:PE X b tb){R:V->V->Hp->Prop}(I:Inv X pI Z H s)(h:ta Z H λx H1=>tb Z H1 λy H2=>R x y H2){Q:Vq}(hf:∀ v u s2 x y H2,Inv X pI Z H2 s2->B5 x v->B5 y u->R x y H2->AB (model X.prog X.w) X.A (f v u) Q X.xe s2):AB (model X.prog X.w) X.A (eval a X.env) (λv s₁=>AB (model X.prog X.w) X.A (eval b X.env) (λu s₂=>AB (model X.prog X.w) X.A (f v u) Q X.xe s₂) X.xe s₁) X.xe s:=by
 refine thn (ha pI s Z H _ I h) λv s1 ⟨x,H1,I1,r1,q1⟩=>?_
 refine thn (hb pI s1 Z H1 _ I1 q1) λu s2 ⟨y,H2,I2,r2,q2⟩=>?_
 exact hf v u s2 x y H2 I2 r1 r2 q2
theorem VQ{op:Ge}(ho:OpR X (Ct op) r)(ha:PE X a ta)(hb:PE X b tb):PE X (.BinOp a op b pos) (tOp r ta tb):=by
 intro pI s Z H Q I h;exact wpAny_BinOp (Rn ha hb I h λv u s2 x y H2 I2 rx ry q=>ho pI s2 Z H2 x y v u Q I2 rx ry q)
theorem xN{op:JS}{r:V->Hp->VK->Prop}(ho:UnR X (unaryOp op) r)(ha:PE X a ta):PE X (.UnaryOp op a pos) (tUn r ta):=by
 intro pI s Z H Q I h;exact UnaryOp_ (thn (ha pI s Z H _ I h) λv s1 ⟨x,H1,I1,r1,q1⟩=>ho pI s1 Z H1 x v Q I1 r1 q1)
theorem opI{C:Ad->Ad->Prop}(rule:∀(i j:Ad)(t u:DF)(s:As)(Q:Vq)(E:Vq),C i j->Q (.int (g i j) s.toks) {s with toks:=s.toks+1}->AB (model X.prog X.w) X.A (f (.int i t) (.int j u)) Q E s):OpR X f (rI C λi j=>.int (g i j)):=by
 intro pI s Z H x y v u Q I rx ry h;obtain⟨i,j,rfl,rfl,hc,q⟩:=h;obtain⟨t,rfl⟩:=rx;obtain⟨t',rfl⟩:=ry;exact rule i j t t' s _ _ hc ⟨.int (g i j),H,I.tok _,⟨_,rfl⟩,q⟩
theorem Rv(rule:∀(i j:Ad)(t u:DF)(s:As)(Q:Vq)(E:Vq),Q (.int (g i j) s.toks) {s with toks:=s.toks+1}->AB (model X.prog X.w) X.A (f (.int i t) (.int j u)) Q E s):OpR X f (rI0 λi j=>.int (g i j)):=by
 intro pI s Z H x y v u Q I rx ry h;obtain⟨i,j,rfl,rfl,q⟩:=h;obtain⟨t,rfl⟩:=rx;obtain⟨t',rfl⟩:=ry;exact rule i j t t' s _ _ ⟨.int (g i j),H,I.tok _,⟨_,rfl⟩,q⟩
theorem N5{g:Ad->Ad->Aj}(rule:∀(i j:Ad)(t u:DF)(s:As)(Q:Vq)(E:Vq),Q (.bool (g i j)) s->AB (model X.prog X.w) X.A (f (.int i t) (.int j u)) Q E s):OpR X f (rI0 λi j=>.bl (g i j)):=by
 intro pI s Z H x y v u Q I rx ry h;obtain⟨i,j,rfl,rfl,q⟩:=h;obtain⟨t,rfl⟩:=rx;obtain⟨t',rfl⟩:=ry;exact rule i j t t' s _ _ ⟨.bl (g i j),H,I,rfl,q⟩
def Zx(i j:Ad):Prop:=0<j/\j<1073741824
def Zw(i j:Ad):Prop:=0<=j/\j<=1000000/\i.natAbs<2 ^ 64
def Od(i j:Ad):Prop:=(-(2 ^ 64)<i/\i<2 ^ 64)\/(-(2 ^ 64)<j/\j<2 ^ 64)
theorem Od.ok{i j:Ad}(h:Od i j):LD i j:=by
 rcases h with ⟨h1,h2⟩|⟨h1,h2⟩
 .exact .of_left (intBits_le_64 h1 h2)
 .exact .of_right (intBits_le_64 h1 h2)
theorem uN:OpR X (Ct .Add) (rI0 λi j=>.int (i+j)):=Rv λ_ _ _ _ _ _ _ q=>add_int q
theorem uJ:OpR X (Ct .Sub) (rI0 λi j=>.int (i-j)):=Rv λ_ _ _ _ _ _ _ q=>sub_int q
theorem jP:OpR X (Ct .FloorDiv) (rI Zx λi j=>.int (i/j)):=opI λi j _ _ _ _ _ hc q=>by
 have h1:(0:Ad)<j:=hc.1;have h2:j<1073741824:=hc.2;exact floordiv_int (by omega) (by rw[Int.fdiv_eq_ediv_of_nonneg i (by omega)];exact q) (.inl (PyProof.noPylong_small (by omega)))
theorem uL:OpR X (Ct .Mod) (rI (λ_ j=>0<j) λi j=>.int (i%j)):=opI λi j _ _ _ _ _ hc q=>by
 have h1:(0:Ad)<j:=hc;exact mod_int' (by omega) (by rw[Int.fmod_eq_emod_of_nonneg i (by omega)];exact q)
theorem uK:OpR X (Ct .Pow) (rI Zw λi j=>.int (i ^ j.toNat)):=opI λ_ _ _ _ _ _ _ hc q=>pow_int_small hc.1 hc.2.1 hc.2.2 q
theorem unI{f:Ai->Hh Ai}{g:Ad->Ad}(rule:∀(i:Ad)(t:DF)(s:As)(Q:Vq)(E:Vq),Q (.int (g i) s.toks) {s with toks:=s.toks+1}->AB (model X.prog X.w) X.A (f (.int i t)) Q E s):UnR X f (rU λi=>.int (g i)):=by
 intro pI s Z H x v Q I rx h;obtain⟨i,rfl,q⟩:=h;obtain⟨t,rfl⟩:=rx;exact rule i t s _ _ ⟨.int (g i),H,I.tok _,⟨_,rfl⟩,q⟩
theorem qO:UnR X (unaryOp .USub) (rU λi=>.int (-i)):=unI λ_ _ _ _ _ q=>neg_int q
end
section
variable{X:Cx}{a b c:An}{ta tb tc:TE}{pos:A7}
theorem VD{Q:VK}{k k':Aj}(I:Inv X pI Z H s)(q:Q (.bl k) H)(e:k=k'):EP X pI Z Q (.bool k') s:=by
 subst e;exact⟨.bl k,H,I,rfl,q⟩
theorem ak:OpR X (CW .Lt) (rI0 λi j=>.bl (decide (i<j))):=N5 λ_ _ _ _ _ _ _ q=>lt_int q
theorem ao:OpR X (CW .LtE) (rI0 λi j=>.bl (decide (i<=j))):=N5 λ_ _ _ _ _ _ _ q=>le_int q
theorem aq:OpR X (CW .Gt) (rI0 λi j=>.bl (decide (j<i))):=N5 λ_ _ _ _ _ _ _ q=>gt_int q
theorem ar:OpR X (CW .GtE) (rI0 λi j=>.bl (decide (j<=i))):=N5 λ_ _ _ _ _ _ _ q=>ge_int q
theorem uM:OpR X (CW .Is) (λx y H Q=>y=.non/\Q (.bl (decide (x=.non))) H):=by
 intro pI s Z H x y v u Q I rx ry h;obtain⟨rfl,q⟩:=h;cases ry;refine is_none_gen (VD I q ?_);cases x<;>first
  |(cases rx;rfl)
  |(obtain⟨t,rfl⟩:=rx;rfl)
theorem jN:OpR X (CW .IsNot) (λx y H Q=>y=.non/\Q (.bl (!decide (x=.non))) H):=by
 intro pI s Z H x y v u Q I rx ry h;obtain⟨rfl,q⟩:=h;cases ry;refine isnot_none_gen (VD I q ?_);cases x<;>first
  |(cases rx;rfl)
  |(obtain⟨t,rfl⟩:=rx;rfl)
theorem jC(ho:OpR X (CW op) r)(ha:PE X a ta)(hb:PE X b tb)(hm:Hi op b=Af):PE X (.Compare a [op] [b] pos) (tOp r ta tb):=by
 intro pI s Z H Q I h;exact wpAny_Compare1 (Rn ha hb I h λv u s2 x y H2 I2 rx ry q=>ho pI s2 Z H2 x y v u Q I2 rx ry q) hm
def VM(t:TE):TT:=λZ H Q=>t Z H λx H'=>∃ k,x=.bl k/\Q k H'
theorem iV(ho:OpR X (CW op) r)(ha:PE X a ta)(hb:PE X b tb)(hm:Hi op b=Af):PT X (.Compare a [op] [b] pos) (VM (tOp r ta tb)):=by
 intro pI s Z H Q I h;refine wpAny_isTrue_Compare1 (thn (ha pI s Z H _ I h) λv s1 ⟨x,H1,I1,r1,q1⟩=>thn (hb pI s1 Z H1 _ I1 q1) λu s2 ⟨y,H2,I2,r2,q2⟩=>
  thn (ho pI s2 Z H2 x y v u _ I2 r1 r2 q2) λc s3 ⟨z,H3,I3,r3,k,e,q3⟩=>?_) hm
 subst e;cases r3;exact CZ ⟨H3,I3,q3⟩
def Vk(r r':R2)(ta tb tc:TE):TE:=λZ H Q=>ta Z H λx H1=>tb Z H1 λy H2=>r x y H2 λz H3=>∃ k,z=.bl k /\
 (if k=Aa then tc Z H3 λw' H4=>r' y w' H4 Q else Q (.bl Af) H3)
theorem eO{op':DA}{r':R2}(ho:OpR X (CW op) r)(ho':OpR X (CW op') r')(ha:PE X a ta)(hb:PE X b tb)(hc:PE X c tc)(hm:Jz [op,op'] [b,c]=Af:=by with_unfolding_all rfl):PE X (.Compare a [op,op'] [b,c] pos) (Vk r r' ta tb tc):=by
 intro pI s Z H Q I h;refine Compare_chain (thn (ha pI s Z H _ I h) λv s1 ⟨x,H1,I1,r1,q1⟩=>chain_link (thn (hb pI s1 Z H1 _ I1 q1) λu s2 ⟨y,H2,I2,r2,q2⟩=>
  thn (ho pI s2 Z H2 x y v u _ I2 r1 r2 q2) λd s3 ⟨z,H3,I3,r3,k,e,q3⟩=>?_)) hm
 subst e;cases r3;refine CZ ?_;cases k with
 |false=>exact ite_ff ⟨.bl Af,H3,I3,rfl,q3⟩
 |true=>exact ite_tt (chain_last (thn (hc pI s3 Z H3 _ I3 q3) λw' s4 ⟨z',H4,I4,r4,q4⟩=>ho' pI s4 Z H4 y z' u w' Q I4 r2 r4 q4))
theorem eH{op':DA}{r':R2}(ho:OpR X (CW op) r)(ho':OpR X (CW op') r')(ha:PE X a ta)(hb:PE X b tb)(hc:PE X c tc)(hm:Jz [op,op'] [b,c]=Af:=by with_unfolding_all rfl):PT X (.Compare a [op,op'] [b,c] pos) (VM (Vk r r' ta tb tc)):=by
 intro pI s Z H Q I h;refine isTrue_chain (thn (ha pI s Z H _ I h) λv s1 ⟨x,H1,I1,r1,q1⟩=>test_link (thn (hb pI s1 Z H1 _ I1 q1) λu s2 ⟨y,H2,I2,r2,q2⟩=>
  thn (ho pI s2 Z H2 x y v u _ I2 r1 r2 q2) λd s3 ⟨z,H3,I3,r3,k,e,q3⟩=>?_)) hm
 subst e;cases r3;refine CZ ?_;cases k with
 |false=>
  obtain⟨k',e',q'⟩:=q3;cases e';exact ite_ff ⟨H3,I3,q'⟩
 |true=>
  refine ite_tt (test_last (thn (hc pI s3 Z H3 _ I3 q3) λw' s4 ⟨z',H4,I4,r4,q4⟩=>thn (ho' pI s4 Z H4 y z' u w' _ I4 r2 r4 q4) λd' s5 ⟨z2,H5,I5,r5,k2,e2,q5⟩=>?_))
  subst e2;cases r5;exact CZ ⟨H5,I5,q5⟩
noncomputable def RT(K:Fg)(x:V)(H:Hp)(k:Aj):Prop:=
  match x with
  |.non=>k=Af
  |.bl b=>k=b
  |.int i=>k=(i != 0)
  |.str y=>y.length<=sizeLine/\k=((y.length:Ad) != 0)
  |.byt y=>y.size<=sizeLine/\k=((y.size:Ad) != 0)
  |.ref p=>(∃ xs,SqL K H p xs/\k=!xs.isEmpty)\/(∃ xs,SqT K H p xs/\k=!xs.isEmpty)\/∃ kvs,H p=Ab (.dK kvs)/\k=!kvs.isEmpty
  |_=>Bz
theorem ZV{κ:Type}{kvs:Ac (κ×V)}{vs:Ac (κ×Ai)}(r:KV kvs vs):(!vs.isEmpty)=!kvs.isEmpty:=by
 cases r<;>rfl
theorem Sk{its:Ac Ai}(r:Bi xs its):(!its.toArray.isEmpty)=!xs.isEmpty:=by
 cases r<;>simp
theorem K4:(sizeLine:Ag)<2 ^ 63:=by rw[DT];decide
theorem qS:Zq X (λx H Q=>∃ k,RT X.K x H k/\Q k H):=by
 intro pI s Z H x v Q I rx h;obtain⟨k,e,q⟩:=h;have hl:=K4;have hs:sizeLine=16777216:=DT;cases x with
 |non=>
  cases rx;have e':k=Af:=e;subst e';exact truthy_none ⟨H,I,q⟩
 |bl b=>
  cases rx;have e':k=b:=e;subst e';exact CZ ⟨H,I,q⟩
 |int i=>
  obtain⟨t,rfl⟩:=rx;have e':k=(i != 0):=e;subst e';exact PySem.P.truthy_int ⟨H,I,q⟩
 |str y=>
  obtain⟨t,rfl⟩:=rx;obtain⟨hy,e'⟩:y.length<=sizeLine/\k=((y.length:Ad) != 0):=e;subst e';exact PySem.P.truthy_str (by omega) ⟨H,I.tok _,q⟩
 |byt y=>
  obtain⟨t,rfl⟩:=rx;obtain⟨hy,e'⟩:y.size<=sizeLine/\k=((y.size:Ad) != 0):=e;subst e';exact PySem.W.truthy_bytes (by omega) ⟨H,I.tok _,q⟩
 |ref p=>
  cases rx;have e':(∃ xs,SqL X.K H p xs/\k=!xs.isEmpty)\/(∃ xs,SqT X.K H p xs/\k=!xs.isEmpty)\/∃ kvs,H p=Ab (.dK kvs)/\k=!kvs.isEmpty:=e;rcases e' with ⟨xs,hx,e'⟩|⟨xs,hx,e'⟩|⟨kvs,hx,e'⟩
  .subst e';obtain⟨its,r,pl,hz⟩:=I.list hx;have hlen:=r.length;exact wpAny_truthy_list pl.isList (by simp only[AC];omega) ⟨H,I.tok _,by rw[Sk r];exact q⟩
  .subst e';obtain⟨its,r,pl,hz⟩:=I.tuple hx;have hlen:=r.length;exact truthy_tuple pl (by simp only[AC];omega) ⟨H,I.tok _,by rw[Sk r];exact q⟩
  .subst e';obtain⟨hz,hS,vs,r,m⟩:kvs.length<=sizeLine/\(p==KA)=Af/\∃ vs,KV kvs vs/\s.heap.DictOf (PJ X.prog X.w) p vs:=I.hok p _ hx;have hlen:kvs.length=vs.length:=X4 r;exact wpAny_truthy_dict hS m (by omega) ⟨H,I.tok _,by rw[ZV r];exact q⟩
 |_=>exact(show Bz from e).elim
theorem eG(ha:PE X a ta)(he:∀ whole,IM a X.env whole=(do let v <-whole;JU a.pos;holding [v] (truthy v))):PT X a (λZ H Q=>ta Z H λx H'=>∃ k,RT X.K x H' k/\Q k H'):=by
 intro pI s Z H Q I h;exact isTrue_plain (thn (ha pI s Z H _ I h) λv s1 ⟨x,H1,I1,r1,q1⟩=>qS pI s1 Z H1 x v Q I1 r1 q1) (he _)
theorem aE:OpR X (Ct .Add) (λx y H Q=>∃ i j,x=.str i/\y=.str j/\i.length+j.length<=sizeLine/\Q (.str (i++j)) H):=by
 intro pI s Z H x y v u Q I rx ry h;obtain⟨i,j,rfl,rfl,hz,q⟩:=h;obtain⟨t,rfl⟩:=rx;obtain⟨t',rfl⟩:=ry;exact add_str (λt' tk=>⟨.str (i++j),H,I.tok _,⟨_,rfl⟩,q⟩) hz
theorem IC{x:V}(r:Bi [x] us):∃ u,us=[u]/\B5 x u:=by
 cases r with
 |cons r1 r2=>cases r2;exact⟨_,rfl,r1⟩
theorem Qz{x y:V}(r:Bi [x,y] us):∃ u w',us=[u,w']/\B5 x u/\B5 y w':=by
 cases r with
 |cons r1 r2=>
  cases r2 with
  |cons r3 r4=>cases r4;exact⟨_,_,rfl,r1,r3⟩
theorem cI(hc:X.calm=Aa):H9 X (.builtin "max") (λxs H Q=>∃ i j,xs=[.int i,.int j]/\Q (.int (if j>i then j else i)) H):=by
 intro pI s Z H xs us Q I r h;obtain⟨i,j,rfl,q⟩:=h;obtain⟨u,w',rfl,⟨t,rfl⟩,⟨t',rfl⟩⟩:=Qz r;refine max_two_ints (I.ok.hd hc) λh' tk k=>⟨_,H,I.kept k,?_,q⟩
 by_cases hj:j>i
 .rw[AI hj,AI hj];exact⟨_,rfl⟩
 .rw[AV hj,AV hj];exact⟨_,rfl⟩
theorem cH(hc:X.calm=Aa):H9 X (.builtin "min") (λxs H Q=>∃ i j,xs=[.int i,.int j]/\Q (.int (if j<i then j else i)) H):=by
 intro pI s Z H xs us Q I r h;obtain⟨i,j,rfl,q⟩:=h;obtain⟨u,w',rfl,⟨t,rfl⟩,⟨t',rfl⟩⟩:=Qz r;refine min_two_ints (I.ok.hd hc) λh' tk k=>⟨_,H,I.kept k,?_,q⟩
 by_cases hj:j<i
 .rw[AI hj,AI hj];exact⟨_,rfl⟩
 .rw[AV hj,AV hj];exact⟨_,rfl⟩
end
structure ObjM (h:AJ) (x dx C:Am) (mA:Al->Ap Ai):Prop where
 obj:h.get? x=Ab (D6 C dx)
 ns:h.Ns1 dx mA
 ne:dx≠x
theorem aP(n:h.Ns1 dx mA):∃ od,h.get? dx=Ab od/\∀ name,IL name od=Ab (mA name):=by
 obtain⟨o,es,ep,ho,hd,hk,_,hm⟩:=n;refine⟨o,ho,λname=>?_⟩
 have e:=hm name;unfold nsFind findBy at e;rw[<-Array.find?_toList]at e;unfold IL;rw[hd];dsimp only;split
 .rename_i y q;rw[q]at e;exact congrArg Ab e
 .rename_i q;rw[q]at e;have a:es.toList.any (·.refKey)=Af:=by
   rw[List.any_eq_false];intro y hy;obtain⟨z,t,hkey⟩:=hk y (Wp.mp hy);simp[DictEntry.refKey,hkey]
  have a':¬ es.toList.any (·.refKey)=Aa:=by rw[a];exact AW
  rw[AV a'];exact congrArg Ab e
theorem ObjM.look{x C:Am}(I:ObjM h x dx C mA):∃ od,PySem.W.InstAt h x (D6 C dx) C (Ab od)/\∀ name,IL name od=Ab (mA name):=
 let ⟨od,ho,hl⟩:=aP I.ns
 ⟨od,⟨I.obj,rfl,rfl,ho⟩,hl⟩
section
variable{prog:AT}{w:AE}{A:Bc}{E:Vq}{s:As}{K:Fg}{x dx C f:Am}{mA:Al->Ap Ai}{name:Al}{v:Ai}
end
section
variable{P:AT}{w:AE}{H H':Hp}{h h':AJ}{a C dx:Am}{fs fs':Ac (Al×V)}
end
structure Cls (K:Fg) (C:Am):Prop where
 pg:Yq K C Str.empty=Aa
 hd:PySem.W.hasDictIn K C=Aa
 po:PySem.W.plainOver K C=Aa
 sa:CV K (.ref C) "__setattr__" = Ab (Ab (.builtin "object.__setattr__"))
theorem Cls.get{K:Fg}{C:Am}(c:Cls K C)(f:Al):Yq K C f=Aa:=c.pg
section
variable{X:Cx}{pI:Pn}{Z:St}{H:Hp}{s:As}{a C dx:Am}{fs:Ac (Al×V)}{f:Al}{v:V}{A:Bc}{E:Vq}
theorem Inv.made(I:Inv X pI Z H s):Inv X pI Z (upd (upd H s.heap.objs.size (.own (s.heap.objs.size+1))) (s.heap.objs.size+1) (.ins C s.heap.objs.size [])) {s with heap:=(s.heap.push Dk).push (D6 C s.heap.objs.size)}:=by
  have e1:(s.heap.push Dk).get? s.heap.objs.size=Ab Dk:=Aw s.heap rfl;have e2:((s.heap.push Dk).push (D6 C s.heap.objs.size)).get? (s.heap.objs.size+1)=Ab (D6 C s.heap.objs.size):=by
    have:=Aw (s.heap.push Dk) (o:=D6 C s.heap.objs.size) rfl
    rwa [Bm]at this
  have e3:(s.heap.push Dk).Ns s.heap.objs.size (λ_=>Ae):=⟨Dk,#[],_,e1,rfl,(λe he=>absurd he (by simp)),λ_=>rfl⟩
  have I1:=I.laid (a:=s.heap.objs.size) (o:=.own (s.heap.objs.size+1)) (h':=s.heap.push Dk) (t':=s.toks) (λb u q=>Ar _ q) (A6 _) ⟨_,e1⟩
  refine I1.laid (a:=s.heap.objs.size+1) (o:=.ins C s.heap.objs.size []) (t':=s.toks) (λb u q=>Ar _ q) (Js (Bm _ _)) ?_
  have ne:s.heap.objs.size≠s.heap.objs.size+1:=A1 (E9 _);refine⟨by rw[Dl ne,Ix],Em _,ne,e2,λ_=>Ae,(Heap.Ns1.of_empty e3).at λo q=>Ar _ q,λ_=>True.intro,λy hy=>absurd rfl hy⟩
end
section
variable{X:Cx}{o e value:An}{f:Al}{pos pos' tpos:A7}{ta tv:TE}
end
section
variable{X:Cx}{pI:Pn}{Z:St}{H:Hp}{s:As}{A:Bc}{E:Vq}{Q:Vq}{c:Ai}{b:Aj}
end
structure Room (k:Ag) (A:Bc):Prop where
 hd:A.handled=Ae
 dp:A.depth+3*k+5<Yz
 un:A.units+16*k+200<CH
 gd:A.guards=Ab []
theorem Room.mono{j:Ag}{A:Bc}(r:Room k A)(h:j<=k):Room j A:=⟨r.hd,by have:=r.dp;omega,by have:=r.un;omega,r.gd⟩
theorem Room.deeper{A:Bc}(r:Room (k+1) A)(env:CU):Room k (A.deeper env):=
 ⟨r.hd,by have:=r.dp;show A.depth+1+3*k+5<_;omega,by have:=r.un;show A.units+3+16*k+200<_;omega,r.gd⟩
theorem Room.depth{A:Bc}(r:Room k A):A.depth<Yz:=by have:=r.dp;omega
theorem Room.units{A:Bc}(r:Room k A):A.units+64<CH:=by have:=r.un;omega
def NZ:TA:=λ_ H Q=>Q [] H
def NB(ta:TE)(tr:TA):TA:=λZ H Q=>ta Z H λx H1=>tr Z H1 λxs H2=>Q (x::xs) H2
section
variable{X:Cx}{e:An}{es:Ac An}{te:TE}{t:TA}{pos:A7}
theorem G0:PA X [] NZ:=λ_ _ _ _ H Q I h=>Hx ⟨[],H,I,.nil,h⟩
theorem Fo(ha:PE X e te)(hr:PA X es t)(hs:AF (e::es) X.env=(Af,eval e X.env)::AF es X.env:=by rfl):PA X (e::es) (NB te t):=by
 intro pos pI s Z H Q I h;rw[hs];show AB _ _ (spliced ((Af,eval e X.env)::C4 pos (AF es X.env))) _ _ s;refine Hc (thn (ha pI s Z H _ I h) λu s1 ⟨x,H1,I1,r1,q1⟩=>?_)
 exact thn (hr pos pI s1 Z H1 _ I1 q1) λus s2 ⟨xs,H2,I2,r2,q2⟩=>⟨x::xs,H2,I2,.cons r1 r2,q2⟩
def Zc(t:TA):TE:=λZ H Q=>t Z H λxs H1=>xs.length<=sizeLine/\∀ p,H1 p=Ae->Q (.ref p) (upd H1 p (.tup xs))
def Zh(t:TA):TE:=λZ H Q=>t Z H λxs H1=>xs.length<=sizeLine/\∀ p,H1 p=Ae->Q (.ref p) (upd H1 p (.lst xs))
theorem qV{x1}(h:PA X es t):PE X (.Tuple es x1 pos) (Zc t):=by
 intro pI s Z H Q I hq;refine wpAny_Tuple_spliced (thn (h pos pI s Z H _ I hq) λus s1 ⟨xs,H1,I1,r,z,q⟩=>⟨by rw[<-r.length];exact z,?_⟩)
 have hf:H1 s1.heap.objs.size=Ae:=I1.hok.fresh (A6 _);refine⟨.ref s1.heap.objs.size,upd H1 s1.heap.objs.size (.tup xs),I1.laid (t':=s1.toks) (λb u e=>Ar _ e) (A6 _) ?_,rfl,q _ hf⟩
 exact⟨z,us,r,⟨_,Aw _ rfl,rfl,_,rfl⟩⟩
theorem rC(h:PA X es t):PE X (.List es pos) (Zh t):=by
 intro pI s Z H Q I hq;refine wpAny_List_spliced (thn (h pos pI s Z H _ I hq) λus s1 ⟨xs,H1,I1,r,z,q⟩=>⟨by rw[<-r.length];exact z,?_⟩)
 have hf:H1 s1.heap.objs.size=Ae:=I1.hok.fresh (A6 _);refine⟨.ref s1.heap.objs.size,upd H1 s1.heap.objs.size (.lst xs),I1.laid (t':=s1.toks) (λb u e=>Ar _ e) (A6 _) ?_,rfl,q _ hf⟩
 exact⟨z,us,0,r,Aw _ rfl⟩
end
abbrev Sp:=Ac V->Hp->VK->XK->Prop
variable{sp:Sp}
abbrev CXT:=Ac CU->Hp->As->XK->Ai->As->Prop
variable{CX:CXT}
structure Env0 (P:AT) (w:AE) (K:Fg) (mg:Al->Ap Ai) (base:AJ) (A:Bc) (outer:Ac CU) (s:As) (H:Hp):Prop where
 frames:A.frames=Ab outer
 mod:Mod K mg base
 bs:∀ b o,base.get? b=Ab o->s.heap.get? b=Ab o/\H b=Ae
 bsz:base.objs.size<=s.heap.objs.size
 funs:s.heap.FunFrames base outer
 frf:∀ b∈frs outer,H b=Ae
 hok:HOk P w H s.heap
 bare:FN s.gens
noncomputable def CE(outer:Ac CU)(P:AT)(w:AE)(H:Hp)(s:As)(Q:VK)(u:Ai)(s':As):Prop:=
 ∃ v H',s'.os=s.os/\FN s'.gens/\Un (frs outer) [] H H' s.heap s'.heap/\HOk P w H' s'.heap/\B5 v u/\Q v H'
noncomputable def CR(CX:CXT)(outer:Ac CU)(P:AT)(w:AE)(H:Hp)(s:As)(Q:VK)(E:XK)(r:Ju)(s':As):Prop:=
  match r with
  |.ok (.ret u)=>CE outer P w H s Q u s'
  |.ok _=>Bz
  |.error e=>CX outer H s E e s'
structure FnOk (P:AT) (w:AE) (K:Fg) (mg:Al->Ap Ai) (base:AJ) (CX:CXT) (k:Ag) (f:Am) (fd:Cs) (ps:Ac Al) (sp:Sp):Prop where
 len:∀ vs H Q E,sp vs H Q E->vs.length=ps.length
 run:∀(A:Bc)(outer:Ac CU)(s:As)(H:Hp)(args:Args)(us:Ac Ai)(vs:Ac V)(Q:VK)(E:XK),Room k A->Env0 P w K mg base A outer s H->HB s fd args (ps.zip us)->Bi vs us->sp vs H Q E ->
  FP (model P w) A (.call (.ref f) args) (CR CX outer P w H s Q E) s
theorem FnOk.imp{w:AE}{K:Fg}{mg:Al->Ap Ai}{base:AJ}{f:Am}{sp':Sp}(F:FnOk P w K mg base CX k f fd ps sp)(h:∀ vs H Q E,sp' vs H Q E->sp vs H Q E):FnOk P w K mg base CX k f fd ps sp':=
 ⟨λvs H Q E q=>F.len vs H Q E (h _ _ _ _ q),λA outer s H args us vs Q E hr he hb hv hs=>F.run A outer s H args us vs Q E hr he hb hv (h _ _ _ _ hs)⟩
section
variable{X:Cx}{pI:Pn}{Z:St}{H:Hp}{s s':As}
theorem Inv.env0(I:Inv X pI Z H s):Env0 X.prog X.w X.K X.mg X.base X.A X.stack s H:=
 ⟨I.ok.frames,I.ok.mod,I.bs,Cb I.ok.bsz I.sz,I.stack,I.stkFree,I.hok,I.bare⟩
theorem Inv.after{Q:VK}(I:Inv X pI Z H s)(h:CE X.stack X.prog X.w H s Q u s'):EP X pI Z Q u s':=by
 obtain⟨v,H',os,bare,un,hok,r,q⟩:=h;obtain⟨hh,g,d,t,os'⟩:=s';obtain rfl:os'=s.os:=os;exact⟨v,H',I.call (h':=hh) (g':=g) (d':=d) (t':=t) (ch:=[]) un hok bare (λb z=>absurd z (by simp)),r,q⟩
end
def wM(sp:Sp)(dvs:Ac V)(E:XK)(t:TA):TE:=λZ H Q=>t Z H λvs H1=>sp (vs++dvs) H1 Q E
noncomputable def IB(K:Fg)(fd:Cs)(ps:Ac Al)(ds:Ac Ai):Prop:=
 ∀(s:As)(us:Ac Ai),K.In s.heap->(us++ds).length=ps.length->HB s fd ⟨us,[]⟩ (ps.zip (us++ds))
theorem IB.all{K:Fg}(h:∀ us:Ac Ai,us.length=ps.length->LG fd ⟨us,[]⟩=pure (ps.zip us)):IB K fd ps []:=λs us _ hl=>by
 rw[Do]at hl ⊢;exact .of_eq (h us hl)
def K7(CX:CXT)(X:Cx)(E:XK):Prop:=∀(pI:Pn)(Z:St)(H:Hp)(s:As)(e:Ai)(s':As),Inv X pI Z H s->CX X.stack H s E e s'->X.xe e s'
section
variable{X:Cx}{CX:CXT}{k:Ag}{f C:Am}{fd:Cs}{ps:Ac Al}{sp:Sp}{dvs:Ac V}{ds:Ac Ai}{E:XK}{x m:Al}{p pos apos:A7}{e o:An}{es:Ac An}{ta:TE}{t:TA}
theorem sX{Q:VK}(F:FnOk X.prog X.w X.K X.mg X.base CX k f fd ps sp)(hr:Room k X.A)(hb:IB X.K fd ps ds)(hd:Bi dvs ds)(hx:K7 CX X E)(I:Inv X pI Z H s)(r:Bi vs us)(h:sp (vs++dvs) H Q E):AB (model X.prog X.w) X.A (call (.ref f) us) (EP X pI Z Q) X.xe s:=by
 have r2:Bi (vs++dvs) (us++ds):=r.append hd;have hl:(us++ds).length=ps.length:=by rw[<-r2.length];exact F.len _ _ _ _ h
 refine wpAny_call (Jx (F.run X.A X.stack s H ⟨us,[]⟩ (us++ds) (vs++dvs) Q E hr I.env0 (hb s us I.kIn hl) r2 h) λr s' hq=>?_)
 cases r with
 |error e=>exact hx pI Z H s e s' I hq
 |ok fl=>
  cases fl with
  |ret u=>exact I.after hq
  |next=>exact Ef hq
  |brk=>exact Ef hq
  |cont=>exact Ef hq
theorem Uu(F:FnOk X.prog X.w X.K X.mg X.base CX k f fd ps sp)(hr:Room k X.A)(hg:Gl X x)(hm:X.mg x=Ab (.ref f))(hk:Dx X.K (.ref f)=Aa)(hb:IB X.K fd ps ds)(hd:Bi dvs ds)(hx:K7 CX X E)(ha:PA X (e::es) t)(hdb:(x==("__debug__" : Al))=Af:=by decide)(he:AF (e::es) X.env=(Af,eval e X.env)::AF es X.env:=by rfl)(hpl:(C4 pos (AF es X.env)).any (·.1)=Af:=by rfl):PE X (.Call (.Name x p) (e::es) [] pos) (wM sp dvs E t):=by
 intro pI s Z H Q I h;refine Hf (mQ I hg hm ?_ hdb);refine PySem.W.callWith_K (h₀:=X.base) I.ok.mod.kin hk (thn (ha pos pI s Z H _ I h) λus s1 ⟨vs,H1,I1,r,q⟩=>⟨I1.kIn,?_⟩) he hpl
 exact sX F hr hb hd hx I1 r q
end
section
variable{X:Cx}{CX:CXT}{k:Ag}{f C:Am}{fd:Cs}{ps ks:Ac Al}{sp:Sp}{E:XK}{x m:Al}{p pos apos kpos:A7}{e o:An}{es:Ac An}{kws:Ac EH}{te ta:TE}{t tk:TA}{nm:Ap Al}
variable{g:Ac Ai->Ac Ai->Ac Ai}{gV:Ac V->Ac V->Ac V}
end
structure FnScope (N P:Ac Al) (sc:Cq):Prop where
 kind:sc.kind=.function
 co:sc.isCoroutine=Af
 gen:sc.isGenerator=Af
 nd:N.Nodup
 pre:N.take P.length=P
 par:∀ x∈P,sc.names.lookup x=Ab .local\/sc.names.lookup x=Ab .cell
 nofree:∀ y∈sc.names,y.2≠.free
theorem SH{kindOf:Al->Ap Eu}{x:Al}:∀{binds:Ac (Al×Ai)}{m:Al->Ap Ai},(∀ v,(x,v)∉binds)->IU kindOf binds m x=m x
 |[],_,_=>rfl
 |(n,v)::r,m,h=>by
  unfold IU;rw[SH λw hw=>h w (Au _ hw)]
  split
  .have:x≠n:=by rintro rfl;exact h v Az
   simp[this]
  .rfl
theorem SK{kindOf:Al->Ap Eu}{x:Al}:∀{binds:Ac (Al×Ai)}{m:Al->Ap Ai},(∀ v,(x,v)∉binds)->IT kindOf binds m x=m x
 |[],_,_=>rfl
 |(n,v)::r,m,h=>by
  unfold IT;rw[SK λw hw=>h w (Au _ hw)]
  split
  .rfl
  .have:x≠n:=by rintro rfl;exact h v Az
   simp[this]
theorem SJ{kindOf:Al->Ap Eu}{x:Al}{v:Ai}:∀{P:Ac Al}{vs:Ac Ai}{i:Ag}{m:Al->Ap Ai},P.Nodup->P[i]?=Ab x->vs[i]?=Ab v->kindOf x=Ab .local->IU kindOf (P.zip vs) m x=Ab v
 |[],_,_,_,_,h,_,_=>by simp at h
 |_::_,[],_,_,_,_,h,_=>by simp at h
 |p::P,w::vs,0,m,nd,h1,h2,hk=>by
  simp at h1 h2;subst h1;subst h2;show IU kindOf ((p,w)::P.zip vs) m p=_;unfold IU;rw[SH λv hv=>(BZ.mp nd).1 (Ik hv).1,AI hk]
  simp
 |p::P,w::vs,i+1,m,nd,h1,h2,hk=>by
  show IU kindOf ((p,w)::P.zip vs) m x=_;unfold IU;exact SJ (i:=i) (BZ.mp nd).2 (by simpa using h1) (by simpa using h2) hk
theorem SL{kindOf:Al->Ap Eu}{x:Al}{v:Ai}:∀{P:Ac Al}{vs:Ac Ai}{i:Ag}{m:Al->Ap Ai},P.Nodup->P[i]?=Ab x->vs[i]?=Ab v->kindOf x≠Ab .local->IT kindOf (P.zip vs) m x=Ab v
 |[],_,_,_,_,h,_,_=>by simp at h
 |_::_,[],_,_,_,_,h,_=>by simp at h
 |p::P,w::vs,0,m,nd,h1,h2,hk=>by
  simp at h1 h2;subst h1;subst h2;show IT kindOf ((p,w)::P.zip vs) m p=_;unfold IT;rw[SK λv hv=>(BZ.mp nd).1 (Ik hv).1,AV hk]
  simp
 |p::P,w::vs,i+1,m,nd,h1,h2,hk=>by
  show IT kindOf ((p,w)::P.zip vs) m x=_;unfold IT;exact SL (i:=i) (BZ.mp nd).2 (by simpa using h1) (by simpa using h2) hk
noncomputable def start(N:Ac Al)(vs:Ac V):St:=vs.map Ab++GZ (N.length-vs.length) Ae
noncomputable def G4(CX:CXT)(P:AT)(w:AE)(K:Fg)(mg:Al->Ap Ai)(base:AJ)(N:Ac Al)(qual:Al)(scope:Cq)(f:Am)(cd:Ai)(A:Bc)(outer:Ac CU)(s:As)(H:Hp)(E:XK):Cx where
 prog:=P
 w:=w
 K:=K
 mg:=mg
 base:=base
 A:=A.deeper (Fi qual scope s.heap.objs.size f cd)
 N:=N
 s₀:=s
 H₀:=H
 env:=Fi qual scope s.heap.objs.size f cd
 outer:=outer
 stack:=Fi qual scope s.heap.objs.size f cd::outer
 ex:=[]
 calm:=Aa
 fn:=λ_=>Aa
 pn:=[]
 xe:=λe s'=>AB (model P w) (A.deeper (Fi qual scope s.heap.objs.size f cd)) (leaving (Fi qual scope s.heap.objs.size f cd) e) (λ_ s''=>CX outer H s E e s'') (λe' s''=>CX outer H s E e' s'') s'
theorem Uj{sc:Cq}(h:sc.names.lookup x=Ab .cell):∃ c,(Dy n sc.names []).lookup x=Ab c:=by
 have q:=Yn sc.names n [] (.inl h);exact Option.isSome_iff_exists.mp q
theorem aF{w:AE}{K:Fg}{mg:Al->Ap Ai}{base:AJ}{N ps:Ac Al}{f:Am}{cd:Ai}{A:Bc}{outer:Ac CU}{s1:As}{E:XK}(S:FnScope N ps scope)(hd:A.handled=Ae)(e0:Env0 P w K mg base A outer s H)(hl:vs.length=ps.length)(r:Bi vs us)(x:InCallC s s.heap.objs.size (IU (Fi qual scope s.heap.objs.size f cd).kindOf (ps.zip us) λ_=>Ae) (Dy (s.heap.objs.size+1) scope.names []) (IT (Fi qual scope s.heap.objs.size f cd).kindOf (ps.zip us) λ_=>Ae) s1):Inv (G4 CX P w K mg base N qual scope f cd A outer s H E) [] (start N vs) H s1:=by
 have hpl:ps.length<=N.length:=by have:=congrArg WI S.pre;rw[E8]at this;omega
 obtain⟨h1,tk,rfl,hk⟩:=x.done;have noA:∀ b:Am,b∉(G4 CX P w K mg base N qual scope f cd A outer s H E).ex:=λb z=>absurd (show b∈([]:Ac Am) from z) (by simp)
 refine⟨⟨e0.mod,S.kind,rfl,rfl,A6 _,λy z c h1 h2=>?_,λy hy=>?_,λy c _ h=>?_,λ_=>hd,Around.frames_deeper e0.frames,.inr ⟨rfl,rfl⟩,λb z=>absurd z (noA b),e0.bs,e0.bsz,λb _ _=>noA b,λb z=>absurd z (noA b),e0.funs,e0.frf⟩,
  rfl,e0.bare,Un.kept hk,⟨_,x.toInCall.ns,λi y v h1 h2 h3=>?_⟩,λy c h=>⟨_,x.cell y c h⟩,e0.hok.fresh (A6 _),λy c h=>?_,λp hp=>absurd (show p∈([]:Pn) from hp) (by simp),e0.hok.kept hk,?_⟩
 .exact name_of_addr x.apart (C0 h1) (C0 h2)
 .have hy:scope.names.lookup y=Ab .cell\/scope.names.lookup y=Ab .free:=hy;rcases hy with hy|hy
  .exact Uj hy
  .exact absurd rfl (S.nofree _ (C0 hy))
 .exact EW (x.above y c (C0 h))
 .have hi:i<vs.length:=by
   unfold start at h2;by_cases hi:i<vs.length
   .exact hi
   .rw[WE (by simpa using hi)]at h2
    rw[WG]at h2;split at h2<;>cases h2
  have ha:vs[i]?=Ab v:=by
   unfold start at h2;rw[Fs (by simpa using hi),DH]at h2
   cases e:vs[i]? with
   |none=>rw[e]at h2;cases h2
   |some a=>rw[e]at h2;cases h2;rfl
  obtain⟨u,hu,rv⟩:=r.get ha;have hp:ps[i]?=Ab y:=by
   rw[<-S.pre,List.getElem?_take_of_lt (by omega)];exact h1
  have ndP:ps.Nodup:=by rw[<-S.pre];exact S.nd.sublist (Hw _ _)
  refine⟨u,rv,?_⟩;rcases S.par y (DD hp) with k|k
  .exact .inl ⟨k,SJ ndP hp hu k⟩
  .obtain⟨c,e⟩:=Uj (n:=s.heap.objs.size+1) k;refine .inr ⟨.inl k,c,e,?_⟩;have q:=x.cell y c e;rw[SL ndP hp hu (by show scope.names.lookup y≠_;rw[k];decide)]at q
   exact q
 .exact e0.hok.fresh (EW (x.above y c (C0 h)))
 .unfold start;show _=N.length;rw[Ch,AZ,WK];omega
theorem VW{w:AE}{K:Fg}{mg:Al->Ap Ai}{base:AJ}{f:Am}{name:Al}{params:Arguments}{dV kV doc pm cdv ct oc:Ai}{an od:Ap Am}{osl:AY (Ap Ai)}{N ps:Ac Al}(lk:K.lookup f=Ab ⟨oc,od,.func (DV name qual params body scope dV kV doc pm an cdv ct),osl⟩)(hcd:FO K cdv qual=Aa)(S:FnScope N ps scope)(len:∀ vs H Q E,sp vs H Q E->vs.length=ps.length)(hbody:∀(A:Bc)(outer:Ac CU)(s:As)(H:Hp)(vs:Ac V)(Q:VK)(E:XK),Room k (A.deeper (Fi qual scope s.heap.objs.size f cdv))->sp vs H Q E ->
   ∃ t,PSs (G4 CX P w K mg base N qual scope f cdv A outer s H E) body t/\t {nx:=λ_ H'=>Q .non H',rt:=Q} (start N vs) H):FnOk P w K mg base CX (k+1) f (DV name qual params body scope dV kV doc pm an cdv ct) ps sp:=by
 refine⟨len,λA outer s H args us vs Q E hr e0 hb r hsp=>?_⟩
 have hl:=len _ _ _ _ hsp;have KX:K.In s.heap:=e0.mod.kin.keeps λb o e=>(e0.bs b o e).1
 have lim:s.heap.NoLimit:=e0.mod.nolimit.keeps λb o e=>(e0.bs b o e).1
 have hkind:∀ y∈ps.zip us,scope.names.lookup y.1=Ab .local\/(scope.names.lookup y.1=Ab .cell/\((Dy (s.heap.objs.size+1) scope.names []).lookup y.1).isSome=Aa):=λ⟨n,v⟩ hy=>by
  rcases S.par n (Ik hy).1 with q|q
  .exact .inl q
  .exact .inr ⟨q,Yn _ _ _ (.inl q)⟩
 refine codeAny_call_function hr.depth (KX _ _ lk) rfl S.co S.gen rfl (PySem.W.codeRec_of KX hcd) (hb _ _ _ _ ?_);refine wpAny_newFunctionEnv_cells S.kind hkind λenv he s1 x=>?_
 subst he;refine⟨lim.keeps x.toInCall.keep,codeAny_func ?_⟩;obtain⟨t,ht,hq⟩:=hbody A outer s H vs Q E (hr.deeper _) hsp;have I:Inv (G4 CX P w K mg base N qual scope f cdv A outer s H E) [] (start N vs) H s1:=aF S hr.hd e0 hl r x;refine CO (ht [] s1 (start N vs) H _ I hq) (λfl s' hs=>?_) λe s' hs=>hs
 have fin:∀{Z':St}{H':Hp}{v:V}{u:Ai},Inv (G4 CX P w K mg base N qual scope f cdv A outer s H E) [] Z' H' s'->B5 v u->Q v H'->CE outer P w H s Q u s':=
  λ{Z' H' v u} J rv q=>⟨v,H',J.os,J.bare,J.base,J.hok,rv,q⟩
 cases fl with
 |ret u=>
  obtain⟨v,Z',H',J,rv,q⟩:=hs;exact fin J rv q
 |next=>
  obtain⟨Z',H',J,q⟩:=hs;exact fin (v:=V.non) (u:=Dt) J rfl q
 |brk=>
  obtain⟨_,_,_,q⟩:=hs;exact Ef q
 |cont=>
  obtain⟨_,_,_,q⟩:=hs;exact Ef q
section
variable{X:Cx}{x:Al}{p pos:A7}{e:An}{es:Ac An}{t:TA}{id T:Dj}{r:Ac V->Hp->VK->Prop}
def tCB(r:Ac V->Hp->VK->Prop)(t:TA):TE:=λZ H Q=>t Z H λvs H1=>r vs H1 Q
theorem TF(hc:H9 X (.builtin id) r)(hg:Gl X x)(hm:X.mg x=Ae)(hv:Dr x=Ab (.builtin id))(ha:PA X (e::es) t)(hn:x≠"__name__" := by decide)(hdb:(x==("__debug__" : Al))=Af:=by decide)(he:AF (e::es) X.env=(Af,eval e X.env)::AF es X.env:=by rfl)(hpl:(C4 pos (AF es X.env)).any (·.1)=Af:=by rfl):PE X (.Call (.Name x p) (e::es) [] pos) (tCB r t):=by
 intro pI s Z H Q I h;refine Hf (HW I hg hm hv ?_ hn hdb);exact PyProof.Rows.callWith_builtin1 (thn (ha pos pI s Z H _ I h) λus s1 ⟨vs,H1,I1,r1,q1⟩=>hc pI s1 Z H1 vs us Q I1 r1 q1) he hpl
theorem SZ(hc:H9 X (.type T) r)(hg:Gl X x)(hm:X.mg x=Ae)(hv:Dr x=Ab (.type T))(ha:PA X (e::es) t)(hn:x≠"__name__" := by decide)(hdb:(x==("__debug__" : Al))=Af:=by decide)(he:AF (e::es) X.env=(Af,eval e X.env)::AF es X.env:=by rfl)(hpl:(C4 pos (AF es X.env)).any (·.1)=Af:=by rfl):PE X (.Call (.Name x p) (e::es) [] pos) (tCB r t):=by
 intro pI s Z H Q I h;refine Hf (HW I hg hm hv ?_ hn hdb);exact BR (thn (ha pos pI s Z H _ I h) λus s1 ⟨vs,H1,I1,r1,q1⟩=>hc pI s1 Z H1 vs us Q I1 r1 q1) he hpl
end
end L2
namespace HT
open PySem PyProof.Rows
variable{sl:Am}
section
open PySem.SeqAt
open PySem.AutoSeq1 (wpAny_loadPart')
open PySem.MeetsSeq PySem.MeetsSeq2 PySem.MeetsSeq3
end
section
variable{prog:AT}{w:AE}{A:Bc}{E:Vq}{s:As}
theorem cat_tup{t b:Am}{vs ws:Ac Ai}{Q:Vq}(ht:JQ s.heap t vs.toArray)(hb:JQ s.heap b ws.toArray)(hv:vs≠[])(h1:ws=[]->Q (.ref t) s)(h2:ws≠[]->Q (.ref s.heap.objs.size) { s with heap:=s.heap.push { cls:=.type "tuple",data:=.seq (vs++ws).toArray } })(hsz:vs.length+ws.length<=sizeLine):AB (model prog w) A (Ct .Add (.ref t) (.ref b)) Q E s:=by
 obtain⟨⟨cls,dd,data,sl⟩,ho,hc,n,hd⟩:=id ht;obtain⟨⟨cls2,dd2,data2,sl2⟩,ho2,hc2,n2,hd2⟩:=id hb;simp only at hc hd hc2 hd2;subst hc hd hc2 hd2;have e:vs.toArray++ws.toArray=(vs++ws).toArray:=by simp
 by_cases hw:ws=[]
 .exact Jy ⟨_,ho,rfl⟩ ⟨_,ho2,rfl⟩ Yy seq_tuple_add XX XO (XH _ _)
   (tuple_addW1 t b vs.toArray ws.toArray n n2 dd dd2 sl sl2 (by simpa using hv) (by simp[hw])) ⟨ho,ho2,h1 hw⟩
 .refine Jy ⟨_,ho,rfl⟩ ⟨_,ho2,rfl⟩ Yy seq_tuple_add XX XO (XH _ _)
   (tuple_addW2 t b vs.toArray ws.toArray n n2 dd dd2 sl sl2 (by simpa using hv) (by simpa using hw) (by rw[AC,AC];exact hsz)) ⟨ho,ho2,?_⟩
  rw[e];exact h2 hw
noncomputable def sIx(n d:Ag):Ap Ad->Ag
 |none=>d
 |some v=>if v<0 then (v+(n:Ad)).toNat else min v.toNat n
theorem sU(n d:Ag)(hd:d<=n)(o:Ap Ad):sIx n d o<=n:=by
 cases o with
 |none=>exact hd
 |some v=>
  show (if v<0 then (v+(n:Ad)).toNat else min v.toNat n)<=n
  by_cases hv:v<0
  .rw[AI hv];omega
  .rw[AV hv];exact Nat.min_le_right _ _
theorem U_6(v:Ad)(n d:Ag):(if v<0 then max (v+(n:Ad)) 0 else min v (n:Ad))=((sIx n d (Ab v):Ag):Ad):=by
 show (if v<0 then max (v+(n:Ad)) 0 else min v (n:Ad))=(((if v<0 then (v+(n:Ad)).toNat else min v.toNat n):Ag):Ad)
 by_cases hv:v<0
 .simp only[AI hv];omega
 .simp only[AV hv];omega
theorem ZX(lo hi:Ap Ad)(n:Ag):Fu lo hi 1 (n:Ad)=(((sIx n 0 lo:Ag):Ad),((sIx n n hi:Ag):Ad)):=by
 have h1:¬ ((1:Ad)<0):=by omega
 unfold Fu;simp only[h1,Gn];refine Bo ?_ ?_
 .cases lo with
  |none=>rfl
  |some v=>exact U_6 v n 0
 .cases hi with
  |none=>rfl
  |some v=>exact U_6 v n n
theorem aD(i j:Ag):Ej (i:Ad) (j:Ad) 1=j-i:=by
 unfold Ej;have h1:(1:Ad)>0:=by omega
 simp only[h1,HG,Int.ediv_one];split<;>omega
theorem R8{v:Ai}{o:Ap Ad}{Q:Ap Ad->As->Prop}(p:HL v o)(h:Q o s):AB (model prog w) A (Builtin.Slice.slicePartIndex v) Q E s:=by
 cases p with
 |none=>exact W2 h
 |int i t=>exact slicePart_int h
theorem Zz{vl vu:Ai}{lo hi:Ap Ad}{n:Ag}{Q:Ad×Ad×Ag->As->Prop}(hs:s.heap.IsSliceOf sl vl vu .none)(pl:HL vl lo)(pu:HL vu hi)(h:Q (((sIx n 0 lo:Ag):Ad),1,sIx n n hi-sIx n 0 lo) s):AB (model prog w) A (W9 (.ref sl) (pure (n:Ad))) Q E s:=by
 obtain⟨os,hos,hcs,hds⟩:=id hs;unfold W9 Builtin.Slice.sliceFields;refine Ah (Ah (Bh hos hds (x:=vl) rfl (Ah (Bh hos hds (x:=vu) rfl (Ah (Bh hos hds (x:=.none) rfl (Av ?_)))))));refine Ah (W2 ?_);show AB _ _ (if ((1:Ad)==0)=Aa then _ else _) _ _ s
 rw[AV (by decide)]
 refine Ah (R8 pl (Ah (R8 pu (Ah (Av ?_)))));show AB _ _ (match Fu lo hi 1 (n:Ad) with|(lo,hi)=>pure (lo,(1:Ad),Ej lo hi 1)) _ _ s
 rw[ZX lo hi n];show AB _ _ (pure (((sIx n 0 lo:Ag):Ad),(1:Ad),Ej ((sIx n 0 lo:Ag):Ad) ((sIx n n hi:Ag):Ad) 1)) _ _ s;rw[aD];exact Av h
theorem eJ(xs:AY Ai)(i k:Ag):((A4 k).filterMap fun(m:Ag)=>xs[((i:Ad)+(m:Ad)*1).toNat]?).toArray=((xs.toList.drop i).take k).toArray:=by
 have e:(fun(m:Ag)=>xs[((i:Ad)+(m:Ad)*1).toNat]?)=λm=>xs[i+m]?:=by
  funext m
  have:((i:Ad)+(m:Ad)*1).toNat=i+m:=by omega
  rw[this]
 rw[e];have:=pick_run xs i k;rw[List.filterMap_map]at this;have e2:((λx=>xs[x]?) ∘ λx=>i+x)=λm=>xs[i+m]?:=rfl
 rw[e2]at this;rw[this]
theorem getItem_tuple_cut{t:Am}{items:AY Ai}{vl vu:Ai}{lo hi:Ap Ad}{Q:Vq}(ht:JQ s.heap t items)(hs:s.heap.IsSliceOf sl vl vu .none)(pl:HL vl lo)(pu:HL vu hi)(hw:¬ (sIx items.size 0 lo=0/\sIx items.size items.size hi=items.size))(h:Q (.ref s.heap.objs.size) { s with heap:=s.heap.push { cls:=.type "tuple",data:=.seq ((items.toList.drop (sIx items.size 0 lo)).take (sIx items.size items.size hi-sIx items.size 0 lo)).toArray } })(hsz:items.size<=sizeLine):AB (model prog w) A (JT (.ref t) (.ref sl)) Q E s:=by
 have htake:sizeOk (.seq ((items.toList.drop (sIx items.size 0 lo)).take (sIx items.size items.size hi-sIx items.size 0 lo)).toArray):=by
  show ((items.toList.drop (sIx items.size 0 lo)).take (sIx items.size items.size hi-sIx items.size 0 lo)).toArray.size<=sizeLine;rw[AC,E8,WJ,DN];omega
 have hj:sIx items.size items.size hi<=items.size:=sU _ _ (A6 _) hi;obtain⟨os,hos,hcs,hds⟩:=id hs;have hTs:s.TypeIs (.ref sl) "slice" := ⟨os,hos,hcs⟩;unfold JT
 try with_reducible refine Ck ?_
 first|refine Ah (Av ?_)|skip
 refine Ah (wpAny_sequenceKey ht.typeIs (by decide) ?_)
 refine Ah (Ca (name:=AN "__getitem__") ht.typeIs W3
  (CN W3 ht.typeIs entry_tuple_getitem ?_ (args_tuple_getitem _ _)))
 show AB _ _ (Builtin.Tuple.tupleItemsOf (.ref t) >>= _) _ _ s;refine Ah (tupleItemsOf_ ht ?_);refine Ah (wpAny_typeOf hTs ?_);rw[AI (by decide)]
 refine Ah (Zz hs pl pu ?_);have hno:¬ ((((sIx items.size 0 lo:Ag):Ad)==0&&(1:Ad)==1&&(sIx items.size items.size hi-sIx items.size 0 lo)==items.size)=Aa):=by
  intro q;rw[Aq,Aq]at q;have q1:((sIx items.size 0 lo:Ag):Ad)=0:=eq_of_beq q.1.1;have q2:sIx items.size items.size hi-sIx items.size 0 lo=items.size:=eq_of_beq q.2;exact hw ⟨by omega,by omega⟩
 show AB _ _ (if (((sIx items.size 0 lo:Ag):Ad)==0&&(1:Ad)==1&&(sIx items.size items.size hi-sIx items.size 0 lo)==items.size)=Aa then _ else _) _ _ s
 rw[AV hno,eJ]
 first
  |exact Ah (m:=Dc _) (CI (Av ⟨_,rfl,Av h⟩) htake)
  |exact Ah (m:=Dc _) (CI (Ah (Av (Av ⟨_,rfl,Av h⟩))) htake)
  |exact Ah (Ah (m:=Dc _) (CI (Av (Av ⟨_,rfl,Av h⟩)) htake))
  |exact Ah (Ah (m:=Dc _) (CI (Av ⟨_,rfl,Av h⟩) htake))
end
end HT
namespace L2
open PySem PySem.Spec PyProof.Rows
variable{r:V->Ap Ad->Ap Ad->Hp->VK->Prop}{xs:Ac V}{us its its':Ac Ai}{n t':Ag}{i:Ad}{pI:Pn}{Z:St}{H:Hp}{s:As}{p:Am}
abbrev TO:=St->Hp->(Ap Ad->Hp->Prop)->Prop
noncomputable def PO(X:Cx)(e:Ap An)(t:TO):Prop:=
 ∀(pI:Pn)(s:As)(Z:St)(H:Hp)(Q:Ap Ad->Hp->Prop),Inv X pI Z H s->t Z H Q ->
  AB (model X.prog X.w) X.A (evalPart e X.env) (λu s'=>∃ o H',Inv X pI Z H' s'/\HL u o/\Q o H') X.xe s
def gC:TO:=λ_ H Q=>Q Ae H
def wI(t:TE):TO:=λZ H Q=>t Z H λx H1=>∃ i,x=.int i/\Q (Ab i) H1
section
variable{X:Cx}{e:An}{te:TE}{lo hi:Ap An}{tl th:TO}{pos p2:A7}
theorem jA:PO X Ae gC:=by
 intro pI s Z H Q I h;rw[evalPart_none];exact Av ⟨Ae,H,I,.none,h⟩
theorem iZ(h:PE X e te):PO X (Ab e) (wI te):=by
 intro pI s Z H Q I hw;rw[evalPart_some];refine thn (h pI s Z H _ I hw) λu s1 ⟨x,H1,I1,r1,q1⟩=>?_
 obtain⟨i,rfl,q⟩:=q1;obtain⟨t,rfl⟩:=r1;exact⟨Ab i,H1,I1,.int i t,q⟩
noncomputable def SlR(X:Cx)(r:V->Ap Ad->Ap Ad->Hp->VK->Prop):Prop:=
 ∀(pI:Pn)(s:As)(Z:St)(H:Hp)(x:V)(v vl vu:Ai)(lo hi:Ap Ad)(sl:Am)(Q:VK),Inv X pI Z H s->B5 x v->s.heap.IsSliceOf sl vl vu .none->HL vl lo->HL vu hi->r x lo hi H Q ->
  ∃ T id,HA (.type T) "__getitem__" = pure (Ab (.builtin id))/\s.TypeIs v T/\AB (model X.prog X.w) X.A (JT v (.ref sl)) (EP X pI Z Q) X.xe s
theorem SlR.or{r':V->Ap Ad->Ap Ad->Hp->VK->Prop}(h:SlR X r)(h':SlR X r'):SlR X (λx lo hi H Q=>r x lo hi H Q\/r' x lo hi H Q):=by
 intro pI s Z H x v vl vu lo hi sl Q I rx hs pl pu q;rcases q with q|q
 .exact h pI s Z H x v vl vu lo hi sl Q I rx hs pl pu q
 .exact h' pI s Z H x v vl vu lo hi sl Q I rx hs pl pu q
def tSl(r:V->Ap Ad->Ap Ad->Hp->VK->Prop)(te:TE)(tl th:TO):TE:=λZ H Q=>te Z H λx H1=>tl Z H1 λl H2=>th Z H2 λu H3=>r x l u H3 Q
theorem eK(hr:SlR X r)(he:PE X e te)(hl:PO X lo tl)(hu:PO X hi th):PE X (.Subscript e (.Slice lo hi Ae p2) pos) (tSl r te tl th):=by
 intro pI s Z H Q I h;refine Subscript_ (thn (he pI s Z H _ I h) λv s1 ⟨x,H1,I1,r1,q1⟩=>?_)
 refine wpAny_Slice (thn (hl pI s1 Z H1 _ I1 q1) λvl s2 ⟨l,H2,I2,pl,q2⟩=>thn (hu pI s2 Z H2 _ I2 q2) λvu s3 ⟨u,H3,I3,pu,q3⟩=>?_)
 rw[evalPart_none];refine Av ?_;have I4:Inv X pI Z H3 { s3 with heap:=s3.heap.push { cls:=.type "slice",data:=.fields #[vl,vu,.none] } }:=I3.kept (t':=s3.toks) λb ob q=>Ar _ q
 obtain⟨T,id,hT,ht,hg⟩:=hr pI { s3 with heap:=s3.heap.push { cls:=.type "slice",data:=.fields #[vl,vu,.none] } } Z H3 x v vl vu l u s3.heap.objs.size Q I4 r1 (Heap.IsSliceOf.new ..) pl pu q3
 show AB (model X.prog X.w) X.A (subscriptTail e (.Slice lo hi Ae p2) v (.ref s3.heap.objs.size)) (EP X pI Z Q) X.xe { s3 with heap:=s3.heap.push { cls:=.type "slice",data:=.fields #[vl,vu,.none] } }
 exact tail_any (ops:=[.ref s3.heap.objs.size,v]) ht hT hg (by with_unfolding_all rfl)
noncomputable def JO(xs:Ac V)(lo hi:Ap Ad):Ac V:=(xs.drop (HT.sIx xs.length 0 lo)).take (HT.sIx xs.length xs.length hi-HT.sIx xs.length 0 lo)
theorem Se(xs:Ac V)(lo hi:Ap Ad):(JO xs lo hi).length<=xs.length:=by
 unfold JO;rw[E8,WJ];omega
def RK(K:Fg):V->Ap Ad->Ap Ad->Hp->VK->Prop:=λx lo hi H Q=>∃ a xs,x=.ref a/\SqT K H a xs /\
 ¬ (HT.sIx xs.length 0 lo=0/\HT.sIx xs.length xs.length hi=xs.length)/\∀ p,H p=Ae->Q (.ref p) (upd H p (.tup (JO xs lo hi)))
theorem qD:SlR X (RK X.K):=by
 intro pI s Z H x v vl vu lo hi sl Q I rx hs pl pu h;obtain⟨a,xs,rfl,hx,hw,q⟩:=h;cases rx;obtain⟨its,r,ht,hz⟩:=I.tuple hx;have hlen:its.toArray.size=xs.length:=by rw[AC];exact r.length.symm
 refine⟨"tuple",_,PyProof.Rows.slot_tuple_getitem.lookup,ht.typeIs,?_⟩;refine HT.getItem_tuple_cut ht hs pl pu (by rw[hlen];exact hw) ?_ (by rw[hlen];exact hz)
 rw[hlen];refine⟨.ref s.heap.objs.size,_,I.laid (t':=s.toks) (o:=.tup (JO xs lo hi)) (λb ob q=>Ar _ q) (A6 _) ?_,rfl,q _ (I.hok.fresh (A6 _))⟩
 exact⟨Cb (Se xs lo hi) hz,_,(r.drop (HT.sIx xs.length 0 lo)).take (HT.sIx xs.length xs.length hi-HT.sIx xs.length 0 lo),Jt _ _⟩
def xG(K:Fg):R2:=λx y H Q=>∃ a b xs ys,x=.ref a/\y=.ref b/\SqT K H a xs/\SqT K H b ys/\xs≠[]/\xs.length+ys.length<=sizeLine /\
 (ys=[]->Q (.ref a) H)/\(ys≠[]->∀ p,H p=Ae->Q (.ref p) (upd H p (.tup (xs++ys))))
theorem Bi.nil_iff(r:Bi xs us):us=[]↔xs=[]:=by
 cases r with
 |nil=>simp
 |cons _ _=>simp
theorem jQ:OpR X (Ct .Add) (xG X.K):=by
 intro pI s Z H x y v u Q I rx ry h;obtain⟨a,b,xs,ys,rfl,rfl,ha,hb,hx,hz,q1,q2⟩:=h;cases rx;cases ry;obtain⟨its,r1,p1,_⟩:=I.tuple ha;obtain⟨its2,r2,p2,_⟩:=I.tuple hb;refine HT.cat_tup p1 p2 (λz=>hx (r1.nil_iff.mp z)) (λz=>⟨.ref a,H,I,rfl,q1 (r2.nil_iff.mp z)⟩) (λz=>?_) (by rw[<-r1.length,<-r2.length];exact hz)
 refine⟨.ref s.heap.objs.size,_,I.laid (t':=s.toks) (o:=.tup (xs++ys)) (λb ob q=>Ar _ q) (A6 _) ?_,rfl,q2 (λw=>z (r2.nil_iff.mpr w)) _ (I.hok.fresh (A6 _))⟩
 exact⟨by rw[Ch];exact hz,_,r1.append r2,Jt _ _⟩
end
noncomputable def ixN(n:Ag)(i:Ad):Ap Ag:=if 0<=i then (if i<n then Ab i.toNat else Ae) else if -(n:Ad)<=i then Ab (i+n).toNat else Ae
noncomputable def atI{α:Type}(xs:Ac α)(i:Ad):Ap α:=(ixN xs.length i).bind λj=>xs[j]?
theorem UA{j:Ag}(h:ixN n i=Ab j):He i n=Ab j/\j<n/\-(n:Ad)<=i/\i<n:=by
 unfold ixN at h;by_cases h0:0<=i
 .rw[AI h0]at h;by_cases h1:i<n
  .rw[AI h1]at h;have e:i.toNat=j:=BV h;exact⟨by rw[JW h0 h1,e],by omega,by omega,h1⟩
  .rw[AV h1]at h;cases h
 .rw[AV h0]at h;by_cases h1:-(n:Ad)<=i
  .rw[AI h1]at h;have e:(i+n).toNat=j:=BV h;exact⟨by rw[JC (by omega) h1,e],by omega,h1,by omega⟩
  .rw[AV h1]at h;cases h
theorem UN{α:Type}{xs:Ac α}{v:α}(h:atI xs i=Ab v):∃ j,He i xs.length=Ab j/\xs[j]?=Ab v/\j<xs.length/\-(xs.length:Ad)<=i/\i<xs.length:=by
 unfold atI at h;cases e:ixN xs.length i with
 |none=>rw[e]at h;cases h
 |some j=>
  rw[e]at h;obtain⟨h1,h2,h3,h4⟩:=UA e;exact⟨j,h1,h,h2,h3,h4⟩
def P7(b:An):Prop:=∀ o i,subscripted b Af o i=operate [o,i] (JT o i)
noncomputable def IxR(X:Cx)(r:R2):Prop:=
 ∀(value slice:An)(pI:Pn)(s:As)(Z:St)(H:Hp)(x y:V)(v u:Ai)(Q:VK),Inv X pI Z H s->B5 x v->B5 y u->r x y H Q ->
  subscripted slice Af v u=operate [v,u] (JT v u)->AB (model X.prog X.w) X.A (subscriptTail value slice v u) (EP X pI Z Q) X.xe s
noncomputable def MtR(X:Cx)(id:Dj)(r:V->Ac V->Hp->VK->Prop):Prop:=
 ∀(pI:Pn)(s:As)(Z:St)(H:Hp)(x:V)(xs:Ac V)(v:Ai)(us:Ac Ai)(Q:VK),Inv X pI Z H s->B5 x v->Bi xs us->r x xs H Q ->
  AB (model X.prog X.w) X.A (call (.builtin id) (v::us)) (EP X pI Z Q) X.xe s
section
variable{X:Cx}{a b:An}{ta tb:TE}{pos:A7}
theorem IxR.or{r r':R2}(h:IxR X r)(h':IxR X r'):IxR X (λx y H Q=>r x y H Q\/r' x y H Q):=by
 intro value slice pI s Z H x y v u Q I rx ry q hs;rcases q with q|q
 .exact h value slice pI s Z H x y v u Q I rx ry q hs
 .exact h' value slice pI s Z H x y v u Q I rx ry q hs
theorem ag{r:R2}(hr:IxR X r)(ha:PE X a ta)(hb:PE X b tb)(hs:P7 b):PE X (.Subscript a b pos) (tOp r ta tb):=by
 intro pI s Z H Q I h;exact Subscript_ (Rn ha hb I h λv u s2 x y H2 I2 rx ry q=>hr a b pI s2 Z H2 x y v u Q I2 rx ry q (hs _ _))
def Rt(K:Fg):R2:=λx y H Q=>∃ p xs i v,x=.ref p/\y=.int i/\SqL K H p xs/\atI xs i=Ab v/\Q v H
def Rs(K:Fg):R2:=λx y H Q=>∃ p xs i v,x=.ref p/\y=.int i/\SqT K H p xs/\atI xs i=Ab v/\Q v H
theorem mS:IxR X (Rt X.K):=by
 intro value slice pI s Z H x y v u Q I rx ry h hs;obtain⟨p,xs,i,z,rfl,rfl,hq,he,q⟩:=h;cases rx;obtain⟨t,rfl⟩:=ry;obtain⟨its,r,pl,hz⟩:=I.list hq;obtain⟨j,h1,h2,h3,h4,h5⟩:=UN he;obtain⟨w,ew,rw'⟩:=r.get h2;have hl:=r.length;have hn:=K4;have fin:EP X pI Z Q w s:=⟨z,H,I,rw',q⟩;by_cases h0:0<=i
 .have hj:i.toNat=j:=by
   rw[JW h0 h5]at h1;exact BV h1
  exact item_listR pl.isList h0 (by omega) (by rw[hj];simpa using ew) fin hs
 .have hj:(i+(its.toArray.size:Ad)).toNat=j:=by
   rw[JC (by omega) h4]at h1
   rw[AC,<-hl];exact BV h1
  exact W4 (x:=w) pl.isList.typeIs YA.lookup
   (wpAny_getItem_list_neg (Q:=λr s'=>r=w/\EP X pI Z Q r s') pl.isList (by omega) (by rw[AC]<;>omega) (by omega) (by rw[hj];simpa using ew) ⟨rfl,fin⟩) hs
theorem tR:IxR X (Rs X.K):=by
 intro value slice pI s Z H x y v u Q I rx ry h hs;obtain⟨p,xs,i,z,rfl,rfl,hq,he,q⟩:=h;cases rx;obtain⟨t,rfl⟩:=ry;obtain⟨its,r,pl,hz⟩:=I.tuple hq;obtain⟨j,h1,h2,h3,h4,h5⟩:=UN he;obtain⟨w,ew,rw'⟩:=r.get h2;have hl:=r.length;have hn:=K4;have fin:EP X pI Z Q w s:=⟨z,H,I,rw',q⟩;exact W4 (x:=w) pl.typeIs slot_tuple_getitem.lookup
  (getItem_tuple (j:=j) (Q:=λr s'=>r=w/\EP X pI Z Q r s') pl (by omega) (by omega) (by rw[AC,<-hl];exact h1) (by simpa using ew) ⟨rfl,fin⟩) hs
theorem ZT(its:Ac Ai)(n j:Ag)(u:Ai):Cd (·.setIfInBounds j u) { cls:=.type "list",data:=.seq its.toArray n }={ cls:=.type "list",data:=.seq (its.set j u).toArray n }:=by
 simp[Cd]
theorem Inv.lst(I:Inv X pI Z H s)(h:H p=Ab (.lst xs)):
  ∃(its:Ac Ai)(n:Ag),Bi xs its/\s.heap.get? p=Ab { cls:=.type "list",data:=.seq its.toArray n }/\xs.length<=sizeLine:=by
 obtain⟨z,its,n,r,e⟩:=I.hok p _ h;exact⟨its,n,r,e,z⟩
theorem Inv.lstUpd{ys:Ac V}{n':Ag}{f:Dg->Dg}(I:Inv X pI Z H s)(h:H p=Ab (.lst xs))(ho:s.heap.get? p=Ab { cls:=.type "list",data:=.seq its.toArray n })(hf:f { cls:=.type "list",data:=.seq its.toArray n }={ cls:=.type "list",data:=.seq its'.toArray n' })(r:Bi ys its')(hz:ys.length<=sizeLine)(t:Ag):Inv X pI Z (upd H p (.lst ys)) {s with heap:=s.heap.update p f,toks:=t}:=by
 have e:(s.heap.update p f).get? p=Ab { cls:=.type "list",data:=.seq its'.toArray n' }:=by
  rw[B8 f ho (by rw[hf]<;>rfl),hf]
 refine I.write (x:=p) (e:=p) (by rw[h];trivial) (.inl rfl) (λb u hb q=>(B6 _ _ (BA hb)).trans q) ⟨_,e⟩ ?_
 exact⟨hz,its',n',r,e⟩
def xE:V->V->V->Hp->(Hp->Prop)->Prop:=λo i v H Q=>∃ p xs k j,o=.ref p/\i=.int k/\H p=Ab (.lst xs)/\ixN xs.length k=Ab j/\Q (upd H p (.lst (xs.set j v)))
theorem dM:RV X xE:=by
 intro pI s Z H o i v ov iv u Q I ro ri rv h;obtain⟨p,xs,k,j,rfl,rfl,hp,hj,q⟩:=h;cases ro;obtain⟨t,rfl⟩:=ri;obtain⟨its,n,r,ho,hz⟩:=I.lst hp;obtain⟨h1,h2,h3,h4⟩:=UA hj;have hl:=r.length;have hn:=K4;have I':Inv X pI Z (upd H p (.lst (xs.set j v))) {s with heap:=s.heap.update p (Cd (·.setIfInBounds j u))}:=
  I.lstUpd hp ho (ZT its n j u) (r.set rv j) (by rw[Bj];exact hz) s.toks
 by_cases h0:0<=k
 .have hk:k.toNat=j:=by
   rw[JW h0 h4]at h1;exact BV h1
  exact PySem.W.ki_setAt ho h0 (by omega) (by rw[AC,<-hl];exact h4) (by rw[hk];exact⟨_,I',q⟩)
 .have hk:(k+(its.toArray.size:Ad)).toNat=j:=by
   rw[JC (by omega) h3]at h1
   rw[AC,<-hl];exact BV h1
  exact PySem.W.ki_setBack ho (by omega) (by rw[AC,<-hl];exact h3) (by omega) (by rw[hk];exact⟨_,I',q⟩)
theorem ZE(lo hi:Ap Ad)(n:Ag):(Fl lo hi Ae n).1=((HT.sIx n 0 lo:Ag):Ad)/\(Fl lo hi Ae n).2.1=((HT.sIx n n hi:Ag):Ad)/\(Fl lo hi Ae n).2.2=1:=by
 refine⟨?_,?_,rfl⟩
 .cases lo with
  |none=>simp[Fl,HT.sIx]
  |some i=>
   simp only[Fl,HT.sIx,WZ,show (1:Ad)>0 by decide,HG]
   by_cases h:i<0
   .simp only[h,HG]<;>omega
   .simp only[h,Gn]<;>omega
 .cases hi with
  |none=>simp[Fl,HT.sIx]
  |some i=>
   simp only[Fl,HT.sIx,WZ,show (1:Ad)>0 by decide,HG]
   by_cases h:i<0
   .simp only[h,HG]<;>omega
   .simp only[h,Gn]<;>omega
theorem ZH(its:Ac Ai)(lo hi:Ap Ad):slicePick its.toArray lo hi Ae=((its.drop (HT.sIx its.length 0 lo)).take (HT.sIx its.length its.length hi-HT.sIx its.length 0 lo)).toArray:=by
 obtain⟨h1,h2,h3⟩:=ZE lo hi its.toArray.size;unfold slicePick;rw[h1,h2,h3];simp only[sliceRange_one,pick_run,AC]<;>rfl
def RM(K:Fg):V->Ap Ad->Ap Ad->Hp->VK->Prop:=λx lo hi H Q=>∃ a xs,x=.ref a/\SqL K H a xs/\∀ p,H p=Ae->Q (.ref p) (upd H p (.lst (JO xs lo hi)))
theorem gX:SlR X (RM X.K):=by
 intro pI s Z H x v vl vu lo hi sl Q I rx hs pl pu h;obtain⟨a,xs,rfl,hx,q⟩:=h;cases rx;obtain⟨its,r,ht,hz⟩:=I.list hx;have hlen:=r.length;refine⟨"list",_,YA.lookup,ht.isList.typeIs,?_⟩;refine wpAny_getItem_list_slice ht.isList hs pl pu .none (by simp) ?_ (by rw[AC]<;>omega)
 rw[ZH,<-hlen];refine⟨.ref s.heap.objs.size,_,I.laid (t':=s.toks) (o:=.lst (JO xs lo hi)) (λb ob q=>Ar _ q) (A6 _) ?_,rfl,q _ (I.hok.fresh (A6 _))⟩
 exact⟨Cb (Se xs lo hi) hz,_,0,(r.drop (HT.sIx xs.length 0 lo)).take (HT.sIx xs.length xs.length hi-HT.sIx xs.length 0 lo),Aw _ rfl⟩
theorem RZ:H9 X (.builtin "len") (λxs H Q=>∃ p ys,xs=[.ref p]/\(SqL X.K H p ys\/SqT X.K H p ys)/\Q (.int ys.length) H):=by
 intro pI s Z H xs us Q I r h;obtain⟨p,ys,rfl,hq,q⟩:=h;obtain⟨u,rfl,rx⟩:=IC r;cases rx;have hn:=K4;rcases hq with hq|hq
 .obtain⟨its,r',pl,hz⟩:=I.list hq;have hlen:=r'.length;exact Calls.call_len_list pl.isList (by simp only[AC]<;>omega) ⟨.int ys.length,H,I.tok _,⟨s.toks+1,by rw[AC,hlen]⟩,q⟩
 .obtain⟨its,r',pl,hz⟩:=I.tuple hq;have hlen:=r'.length;exact len_tuple pl (by simp only[AC]<;>omega) ⟨.int ys.length,H,I.tok _,⟨s.toks+1,by rw[AC,hlen]⟩,q⟩
theorem ZJ:H9 X (.builtin "len") (λxs H Q=>∃ z,xs=[.str z]/\z.length<=sizeLine/\Q (.int z.length) H):=by
 intro pI s Z H xs us Q I r h;obtain⟨z,rfl,hz,q⟩:=h;obtain⟨u,rfl,t,rfl⟩:=IC r;have hn:=K4;exact len_str (by omega) ⟨.int z.length,H,I.tok _,⟨_,rfl⟩,q⟩
theorem RY:H9 X (.type "list") (λxs H Q=>∃ p ys,xs=[.ref p]/\(SqL X.K H p ys\/SqT X.K H p ys)/\∀ l,H l=Ae->Q (.ref l) (upd H l (.lst ys))):=by
 intro pI s Z H xs us Q I r h;obtain⟨p,ys,rfl,hq,q⟩:=h;obtain⟨u,rfl,rx⟩:=IC r;cases rx;have fin:∀(its:Ac Ai),Bi ys its->ys.length<=sizeLine->∀(h':AJ)(c':Ag),(∀ b o',s.heap.get? b=Ab o'->h'.get? b=Ab o') ->
   h'.get? s.heap.objs.size=Ab { cls:=.type "list",dict:=Ae,data:=.seq its.toArray c',slots:=#[] }->EP X pI Z Q (.ref s.heap.objs.size) {s with heap:=h'}:=λits r' hz h' c' kp e=>
  ⟨.ref s.heap.objs.size,_,I.laid (t':=s.toks) kp (A6 _) (show ObjOk X.prog X.w _ h' _ (.lst ys) from ⟨hz,its,c',r',e⟩),rfl,q _ (I.hok.fresh (A6 _))⟩
 rcases hq with hq|hq
 .obtain⟨its,r',pl,hz⟩:=I.list hq;have hlen:=r'.length;obtain⟨o,ho,hc,n,hd⟩:=pl.isList;exact call_list_seq p (.inl rfl) ho hc hd (λh' c' kp e=>fin its r' hz h' c' kp e) (by simp only[AC]<;>omega)
 .obtain⟨its,r',pl,hz⟩:=I.tuple hq;have hlen:=r'.length;obtain⟨o,ho,hc,n,hd⟩:=pl;exact call_list_seq p (.inr rfl) ho hc hd (λh' c' kp e=>fin its r' hz h' c' kp e) (by simp only[AC]<;>omega)
theorem R6:H9 X (.type "tuple") (λxs H Q=>∃ p ys,xs=[.ref p]/\((SqL X.K H p ys/\∀ l,H l=Ae->Q (.ref l) (upd H l (.tup ys)))\/(SqT X.K H p ys/\Q (.ref p) H))):=by
 intro pI s Z H xs us Q I r h;obtain⟨p,ys,rfl,h⟩:=h;obtain⟨u,rfl,rx⟩:=IC r;cases rx;rcases h with ⟨hq,q⟩|⟨hq,q⟩
 .obtain⟨its,r',pl,hz⟩:=I.list hq;have hlen:=r'.length;refine call_tuple_list pl.isList (λh' kp=>?_) (by simp only[AC]<;>omega)
  have I1:Inv X pI Z H {s with heap:=h'}:=I.kept (t':=s.toks) kp
  have I2:Inv X pI Z (upd H h'.objs.size (.tup ys)) { s with heap:=h'.push { cls:=.type "tuple",data:=.seq its.toArray } }:=
   I1.laid (t':=s.toks) (λb o e=>Ar _ e) (A6 _) (show ObjOk X.prog X.w _ _ _ (.tup ys) from ⟨hz,its,r',Jt _ _⟩)
  exact⟨.ref h'.objs.size,_,I2,rfl,q _ (I1.hok.fresh (A6 _))⟩
 .obtain⟨its,r',pl,hz⟩:=I.tuple hq;exact call_tuple_same pl ⟨.ref p,H,I,rfl,q⟩
def tyV(K:Fg)(T:Dj)(x:V)(H:Hp):Prop:=match x with
  |.str _=>T = "str"
  |.int _=>T = "int"
  |.ref p=>(T = "list"/\∃ xs,SqL K H p xs)\/(T = "tuple"/\∃ o,K.lookup p=Ab o/\o.cls=.type "tuple"/\o.dict=Ae) \/
      (T = "dict"/\((∃ kvs,H p=Ab (.dK kvs))\/∃ kvs,H p=Ab (.dT kvs)))\/(T = "set"/\∃ S n,H p=Ab (.set S n))
  |_=>Bz
theorem qQ{T:Dj}{x:V}{v:Ai}(I:Inv X pI Z H s)(r:B5 x v)(ty:tyV X.K T x H):s.TypeIs v T/\∀ a,v=.ref a->∃ ob,s.heap.get? a=Ab ob/\ob.dict=Ae:=by
 cases x with
 |str z=>
  obtain⟨t,rfl⟩:=r;cases (show T = "str" from ty)
  exact⟨typeIs_str s z t,λ_ e=>nomatch e⟩
 |int i=>
  obtain⟨t,rfl⟩:=r;cases (show T = "int" from ty)
  exact⟨typeIs_int s i t,λ_ e=>nomatch e⟩
 |ref p=>
  cases r;rcases ty with ⟨rfl,xs,hq⟩|⟨rfl,o,hk,hc,hd⟩|⟨rfl,hk⟩|⟨rfl,S,n,hk⟩
  .obtain⟨its,_,pl,_⟩:=I.list hq;refine⟨pl.isList.typeIs,λa e=>?_⟩
   cases e;obtain⟨o,n,e,c,hd,_⟩:=pl;exact⟨o,e,hd⟩
  .refine⟨⟨o,I.kIn p o hk,hc⟩,λa e=>?_⟩
   cases e;exact⟨o,I.kIn _ o hk,hd⟩
  .have z:∃ o,s.heap.get? p=Ab o/\o.ExactDict:=by
    rcases hk with ⟨kvs,hk⟩|⟨kvs,hk⟩
    .obtain⟨_,_,_,_,o,_,_,e,ex,_⟩:=I.hok p _ hk;exact⟨o,e,ex⟩
    .obtain⟨_,_,_,_,o,_,_,e,ex,_⟩:=I.hok p _ hk;exact⟨o,e,ex⟩
   obtain⟨o,e,ex⟩:=z;refine⟨⟨o,e,ex.1⟩,λa e2=>?_⟩
   cases e2;exact⟨o,e,ex.2.1⟩
  .obtain⟨o,_,_,_,e,ex,_⟩:=I.hok p _ hk;refine⟨⟨o,e,ex.1⟩,λa e2=>?_⟩
   cases e2;exact⟨o,e,ex.2.1⟩
 |_=>exact Ef ty
def tBM(K:Fg)(T:Dj)(r:V->Ac V->Hp->VK->Prop)(to:TE)(t:TA):TE:=λZ H Q=>to Z H λx H1=>tyV K T x H1/\t Z H1 λxs H2=>r x xs H2 Q
variable{o e:An}{es:Ac An}{to:TE}{t:TA}{name:Al}{apos cpos:A7}{T id:Dj}{r:V->Ac V->Hp->VK->Prop}
theorem NP(pa:PlainAttrs T)(slot:Slot T name id)(hty:typeOf (.builtin id)=pure (.type "method_descriptor"))(hm:MtR X id r)(ho:PE X o to)(ha:PA X (e::es) t)(hbase:F9 o name X.env (eval o X.env)=eval o X.env:=by rfl)(hfew:((C4 cpos (AF (e::es) X.env)).all (λx=>!x.1)&&(JX cpos (Iq [] X.env)).all (λx=>x.1.isSome)
   && decide ((e::es).length+([]:Ac EH).length+(if ([]:Ac EH).isEmpty then 0 else 1)<30))=Aa:=by rfl)(hline:(apos.endLine==cpos.line)=Aa:=by rfl)(hs:AF (e::es) X.env=(Af,eval e X.env)::AF es X.env:=by rfl)(hplain:(C4 cpos (AF es X.env)).any (·.1)=Af:=by rfl):PE X (.Call (.Attribute o name apos) (e::es) [] cpos) (tBM X.K T r to t):=by
 intro pI s Z H Q I h;refine wpAny_Call_method_late hbase hfew hline rfl (thn (ho pI s Z H _ I h) λv s1 ⟨x,H1,I1,r1,ty,q1⟩=>?_)
 obtain⟨h1,h2⟩:=qQ I1 r1 ty;refine⟨T,id,pa,slot,hty,h1,h2,?_⟩;have hA:=ha cpos pI s1 Z H1 _ I1 q1;rw[hs]at hA ⊢;refine Calls.callWith_builtin (by show (Af||(C4 cpos (AF es X.env)).any (·.1))=Af;rw[hplain]<;>rfl) (Calls.evalArgs_plain ?_)
 exact thn hA λus s2 ⟨vs,H2,I2,r2,q2⟩=>hm pI s2 Z H2 x vs v us Q I2 r1 r2 q2
/- xs.append(e),list.index on a module's tuple .. are MtR facts of 06m -/
end
noncomputable def MtM(X:Cx)(id:Dj)(r:V->Ac V->Hp->VK->Prop):Prop:=
 ∀(pI:Pn)(s:As)(Z:St)(H:Hp)(x:V)(xs:Ac V)(v:Ai)(us:Ac Ai)(Q:VK),Inv X pI Z H s->B5 x v->Bi xs us->r x xs H Q ->
  AB (model X.prog X.w) X.A (call (.builtin id) (v::us)) (EP X pI Z Q) X.xe s
theorem Bi.one:∀{x:V}{us:Ac Ai},Bi [x] us->∃ u,us=[u]/\B5 x u
 |_,_,.cons r .nil=>⟨_,rfl,r⟩
theorem Bi.zero:∀{us:Ac Ai},Bi [] us->us=[]
 |_,.nil=>rfl
theorem Bi.eraseIdx:∀{xs:Ac V}{us:Ac Ai}(i:Ag),Bi xs us->Bi (xs.eraseIdx i) (us.eraseIdx i)
 |_,_,_,.nil=>.nil
 |_,_,0,.cons _ t=>t
 |_,_,i+1,.cons r t=>.cons r (Bi.eraseIdx i t)
theorem Bi.reverse(h:Bi xs us):Bi xs.reverse us.reverse:=by
 induction h with
 |nil=>exact .nil
 |cons r t ih=>rw[FV,FV];exact Bi.append ih (.cons r .nil)
theorem Td{α:Type}:∀(l:Ac α)(i:Ag),(l.eraseIdx i).length<=l.length
 |[],_=>A6 _
 |_::_,0=>Io _
 |_::r,i+1=>WY (Td r i)
section
variable{X:Cx}{pI:Pn}{Z:St}{H:Hp}{s:As}{l b:Am}{xs ys zs:Ac V}
theorem Inv.lset{f:AY Ai->AY Ai}(I:Inv X pI Z H s)(hH:H l=Ab (.lst xs))(e:s.heap.get? l=Ab { cls:=.type "list",data:=.seq its.toArray n })(hf:f its.toArray=its'.toArray)(hv:Bi ys its')(hz:ys.length<=sizeLine):Inv X pI Z (upd H l (.lst ys)) {s with heap:=s.heap.update l (Cd f),toks:=t'}:=by
 have q:=PySem.IsL.update e f;rw[hf]at q;refine I.write (x:=l) (e:=l) (by rw[hH];exact trivial) (.inl rfl) (λb' u hb hu=>(B6 s.heap (Cd f) (BA hb)).trans hu) ⟨_,q⟩ ?_
 exact⟨hz,its',_,hv,q⟩
theorem Inv.lnew(I:Inv X pI Z H s)(hv:Bi ys its)(hz:ys.length<=sizeLine):
  Inv X pI Z (upd H s.heap.objs.size (.lst ys)) { s with heap:=s.heap.push { cls:=.type "list",data:=.seq its.toArray },toks:=t' }:=
 I.laid (λ_ _ q=>Ar _ q) (A6 _) ⟨hz,its,0,hv,Aw _ rfl⟩
theorem Inv.fresh(I:Inv X pI Z H s):H s.heap.objs.size=Ae:=I.hok.fresh (A6 _)
theorem Inv.lstM(I:Inv X pI Z H s)(hH:H l=Ab (.lst xs)):xs.length<=sizeLine/\∃(its:Ac Ai)(n:Ag),Bi xs its/\xs.length=its.length/\s.heap.get? l=Ab { cls:=.type "list",data:=.seq its.toArray n }:=by
 obtain⟨z,its,n,r,e⟩:=I.hok l _ hH;exact⟨z,its,n,r,r.length,e⟩
theorem TU(h:n<=sizeLine):DE n=Af:=by
 unfold DE;exact CM (by omega)
end
section
variable{X:Cx}
def kO:V->Ac V->Hp->VK->Prop:=λx vs H Q=>∃ l xs y,x=.ref l/\vs=[y]/\H l=Ab (.lst xs)/\xs.length<sizeLine/\Q .non (upd H l (.lst (xs++[y])))
theorem aM:MtM X "list.append" kO:=by
 intro pI s Z H x vs v us Q I rx rv h;obtain⟨l,xs,y,rfl,rfl,hH,hz,q⟩:=h;cases rx;obtain⟨u,rfl,ru⟩:=rv.one;obtain⟨z,its,n,r,hl,e⟩:=I.lstM hH;refine IW F.slot_list_append ⟨_,e,rfl⟩ F.entry_list_append (F.args_list_append_2 _ _) (PySem.list_append l its.toArray n u (by rw[AC];omega)) ⟨e,?_⟩
 refine⟨.non,_,I.lset (its':=its++[u]) hH e (by simp) (r.append (.cons ru .nil)) ?_,rfl,q⟩
 rw[Ch,ET];omega
def kN:V->Ac V->Hp->VK->Prop:=λx vs H Q=>∃ l b xs zs,x=.ref l/\vs=[.ref b]/\H l=Ab (.lst xs)/\H b=Ab (.lst zs)/\xs.length+zs.length<=sizeLine/\Q .non (upd H l (.lst (xs++zs)))
theorem aL:MtM X "list.extend" kN:=by
 intro pI s Z H x vs v us Q I rx rv h;obtain⟨l,b,xs,zs,rfl,rfl,hH,hB,hz,q⟩:=h;cases rx;obtain⟨u,rfl,ru⟩:=rv.one;cases ru;obtain⟨z,its,n,r,hl,e⟩:=I.lstM hH;obtain⟨z2,its2,n2,r2,hl2,e2⟩:=I.lstM hB;have hsz:its.toArray.size+its2.toArray.size<=sizeLine:=by rw[AC,AC];omega
 have hlong:¬ (!its.toArray.isEmpty&&DE (its.toArray.size+its2.toArray.size))=Aa:=by
  rw[TU hsz,FJ];exact AW
 refine IW EX ⟨_,e,rfl⟩ XN (XF _ _)
  (AutoSeq1.list_extend_list_list_0 l its.toArray n b its2.toArray n2 hlong (by rw[AC];omega) (by omega)) ⟨e,e2,?_⟩
 refine⟨.non,_,I.lset (its':=its++its2) hH e (by simp) (r.append r2) ?_,rfl,q⟩
 rw[Ch];omega
def Mh:V->Ac V->Hp->VK->Prop:=λx vs H Q=>∃ l xs i k y,x=.ref l/\vs=[.int i]/\H l=Ab (.lst xs)/\-(2 ^ 63)<=i/\i<2 ^ 63/\He i xs.length=Ab k/\xs[k]?=Ab y/\Q y (upd H l (.lst (xs.eraseIdx k)))
theorem cN:MtM X "list.pop" Mh:=by
 intro pI s Z H x vs v us Q I rx rv h;obtain⟨l,xs,i,k,y,rfl,rfl,hH,h1,h2,hk,hy,q⟩:=h;cases rx;obtain⟨u,rfl,ru⟩:=rv.one;obtain⟨t,rfl⟩:=ru;obtain⟨z,its,n,r,hl,e⟩:=I.lstM hH;obtain⟨w,hw,rw'⟩:=r.get hy;refine IW F.slot_list_pop ⟨_,e,rfl⟩ F.entry_list_pop (F.args_list_pop_2 _ _)
  (MeetsSeq.list_pop_at l its.toArray n i t k w (fitsIndex_both h1 h2) (by rw[AC,<-hl];exact hk) (by rw[<-Go];exact hw) (by rw[AC];omega)) ⟨e,?_⟩
 refine⟨y,_,I.lset (its':=its.eraseIdx k) hH e ?_ (r.eraseIdx k) ?_,rw',q⟩
 .show its.toArray.eraseIdxIfInBounds k=(its.eraseIdx k).toArray;rw[List.eraseIdxIfInBounds_toArray]
 .have:=Td xs k;omega
end
section
variable{prog:AT}{w:AE}{A:Bc}{E:Vq}{s:As}
set_option maxRecDepth 100000 in
end
section
variable{X:Cx}
end
end L2
namespace Att
open PySem PySem.W PySem.Calls PyProof.Rows
variable{P:LF}{h:AJ}{l:F6}{n:Ag}
theorem ZD:∀(ns:Ac Ad)(vs:Ac Ai),WellAll P h vs (ns.map Yk)->IJ vs ns:=by
 intro ns
 induction ns with
 |nil=>
  intro vs w;rw[Gy]at w;cases w;exact .nil
 |cons n ns ih=>
  intro vs w;rw[BP]at w;cases w with
  |cons a b=>
   cases a;exact .cons _ _ (ih _ b)
theorem aT(hn:l.most=Ab n){args:Ac WData}{vals:Ac Ai}(hpre:l.row.toRowW.claim.pre args=Aa)(hwl:WellAll P h vals args):
  ∃ a vs ns,vals=[Dq a]/\args=[WData.list (ns.map Yk)]/\h.get? a=Ab { cls:=.type "list",data:=.seq vs.toArray }/\IJ vs ns/\ns.length<=n:=by
 have hsh:WShape.hasAll [] args [.list .int]=Aa:=(pre_splitW hpre).1;have hc:l.pre.holds [] {args:=args}=Aa:=(pre_splitW hpre).2;obtain⟨d,r,rfl,h1,h2⟩:=hasAllW_cons hsh;obtain rfl:=hasAllW_nil h2;obtain⟨xs,rfl,h3⟩:=hasW_list h1;obtain⟨ns,rfl⟩:=items_int h3;have hlen:ns.length<=n:=by
  unfold OpenLaw.pre at hc;have h4:(WTm.not (.lt (.lit (.int (n:Ad))) (.len (.arg 0)))).holds [] {args:=[.list (ns.map .int)]}=Aa:=by
   have h4:=(holds_andW hc).1;rw[hn]at h4;exact h4
  have h5:=condW_of h4 (w_not (w_lt w_lit (w_len_list (w_arg rfl))));rw[AZ]at h5;refine Nat.le_of_not_lt λq=>?_
  have q':(n:Ad)<((ns.length:Ag):Ad):=by omega
  first
   |(rw[decide_eq_true q']at h5;exact absurd h5 (by decide))
   |(simp at h5;omega)
 cases hwl with
 |cons w1 w2=>
  cases w2;cases w1 with
  |list ho hall=>exact⟨_,_,ns,rfl,rfl,ho,ZD ns _ hall,hlen⟩
theorem aZ(l:F6)(args:Ac WData):l.row.toRowW.claim.post args (.bool Aa) args=Aa:=
 postW_of (r:=l.row.toRowW) (X:=(Aa==Aa))
  (show Yl [] (.bool Aa) .bool=Aa by first|rfl|decide|simp[Yl,WShape.arms,WShape.armsAll])
  (show (WTm.eq .res (.lit (.bool Aa))).value [] {args:=args,res:=Ab (.bool Aa),after:=args}=Ab (.bool (Aa==Aa)) from w_eq_bool (w_res rfl) w_lit) rfl
theorem attach_call{q:AT}{loose:Ac Al}{XP:(Al->Ap Ai)->AJ->Prop}{YP:AE->AJ->Prop}{d:DefRec}(hn:l.most=Ab n)(hdf:d.params.defaults=[])(call:∀(w:AE)(s₀ s₁:As)(mg mb:Al->Ap Ai)(fa:Am)(o:Dg)(pm cd doc:Ai)(a:Am)(vs:Ac Ai)(ns:Ac Ad),
   Ground q loose [] XP w s₀ mg mb s₁.heap->YP w s₁.heap ->
   s₁.heap.get? fa=Ab o->o.data=.func (docDef d.name d.params d.body d.scope pm cd doc)->s₁.heap.CodeRec cd d.name->mg d.name=Ab (.ref fa) ->
   s₁.heap.get? a=Ab { cls:=.type "list",data:=.seq vs.toArray }->IJ vs ns->ns.length<=n->s₁.gens=#[] ->
   FP (model l.prog w) HC (.call (.ref fa) ⟨[.ref a],[]⟩) (λr s'=>r=.ok (.ret (.bool Aa))/\OldK s₁.heap s'.heap/\s'.os=s₁.os/\FN s'.gens) s₁):WalkO q loose XP YP l.row.toRowW d [] (λf vs=>Ky f vs):=by
 intro w s₀ s₁ mg mb G Y_ fa o pm cd doc dV kV ho hd hcd hD hmg hg args vals as hpre hlay hrd hwl hlo;obtain rfl:dV=.none:=Dflts.none hD hdf;obtain rfl:kV=.none:=Dflts.noKw hD;obtain⟨a,vs,ns,rfl,rfl,hobj,hints,hlen⟩:=aT hn hpre hwl;refine enter_call (Jx (call w s₀ s₁ mg mb fa o pm cd doc a vs ns G Y_ ho (fd_plain hd) hcd hmg hobj hints hlen hg) λr s' hq=>?_)
 obtain⟨rfl,h2,h3,h4⟩:=hq;exact⟨.inl ⟨.bool Aa,.bool Aa,[],rfl,λ_=>rfl,.bool Aa,aZ l _,λ_=>⟨List.Pairwise.nil,λ_ hm=>(nomatch hm)⟩⟩,h2,h3,h4⟩
section
variable{prog:AT}{w:AE}{A:Bc}{E:Vq}{s:As}{K:Frag}
end
end Att
namespace L2
open PySem PySem.Spec PyProof.Rows
variable{k:Ag}{x:Al}
theorem Sf:∀{vs:Ac Ai}{ns:Ac Ad},IJ vs ns->Bi (ns.map V.int) vs
 |_,_,.nil=>.nil
 |_,_,.cons n t h=>.cons ⟨t,rfl⟩ (Sf h)
def Rk(H:Hp):Prop:=∀ b,H b=Ae\/∃ o xs,H b=Ab (.frz o (.lst xs))
theorem cQ{P:AT}{w:AE}{K:Fg}{mg mb:Al->Ap Ai}{CX:CXT}{fa a:Am}{fd:Cs}{sp:Sp}{s₁:As}{vs:Ac Ai}{ns:Ac Ad}(KX:K.In s₁.heap)(hns:s₁.heap.Ns Bf mg)(hb:s₁.heap.Ns IV mb)(hbb:∀ x:Al,x≠"__name__"->mb x=Dr x)(hlim:s₁.heap.NoLimit)(hg:s₁.gens=#[])(ha:s₁.heap.get? a=Ab { cls:=.type "list",data:=.seq vs.toArray })(hi:IJ vs ns)(hl:ns.length<=sizeLine)(hr:Room k HC)(F:∀ base:AJ,K.In base->base.Ns Bf mg->FnOk P w K mg base CX k fa fd [x] sp)(hbind:∀(s:As)(u:Ai),HB s fd ⟨[u],[]⟩ [(x,u)])(hsp:∀ H:Hp,Rk H->SqL K H a (ns.map V.int)->sp [.ref a] H (λv _=>v=.bl Aa) λ_ _ _=>Bz)(hCX:∀ H e s',CX [] H s₁ (λ_ _ _=>Bz) e s'->Bz):FP (model P w) HC (.call (.ref fa) ⟨[.ref a],[]⟩) (λr s'=>r=.ok (.ret (.bool Aa))/\OldK s₁.heap s'.heap/\s'.os=s₁.os/\FN s'.gens) s₁:=by
 have rv:=Sf hi;have lenV:=hi.length
 -- from an abstract heap in which nothing but the script may be tracked
 have core:∀ H:Hp,Rk H->SqL K H a (ns.map V.int)->HOk P w H s₁.heap->(∀ b,H b≠Ae->b=a)->(H a≠Ae->K.lookup a=Ae) ->
   FP (model P w) HC (.call (.ref fa) ⟨[.ref a],[]⟩) (λr s'=>r=.ok (.ret (.bool Aa))/\OldK s₁.heap s'.heap/\s'.os=s₁.os/\FN s'.gens) s₁:=by
  intro H hO hS hok hA hK;have base_of:∀{b:Am}{o:Dg},s₁.heap.get? b=Ab o->H b=Ae->(Jj s₁.heap H).get? b=Ab o:=λe n=>eS e n
  have noA:∀{b:Am}{o:Dg}{es:AY DictEntry}{ep:Ag},s₁.heap.get? b=Ab o->o.data=.dict es ep->H b=Ae:=λ{b o es ep} e d=>by
   cases q:H b with
   |none=>rfl
   |some u=>
    have e':b=a:=hA b (by rw[q];simp)
    subst e';rw[ha]at e;cases e;have d':LC vs.toArray _=Data.dict es ep:=d;cases d'
  have nsK:∀{b:Am}{m:Al->Ap Ai},s₁.heap.Ns b m->(Jj s₁.heap H).Ns b m:=λ{b m} ⟨o,es,ep,e,d,r⟩=>⟨o,es,ep,base_of e (noA e d),d,r⟩
  have hKb:K.In (Jj s₁.heap H):=λb o e=>base_of (KX b o e) (by
   cases q:H b with
   |none=>rfl
   |some u=>
    have e':b=a:=hA b (by rw[q];simp)
    subst e';rw[hK (by rw[q];simp)]at e;cases e)
  have hM:Mod K mg (Jj s₁.heap H):=⟨hKb,nsK hns,⟨mb,nsK hb,hbb⟩,let ⟨mc,h1,h2⟩:=hlim;⟨mc,nsK h1,h2⟩⟩
  have e0:Env0 P w K mg (Jj s₁.heap H) HC [] s₁ H:=⟨rfl,hM,λb o e=>mE e,Js (aG _ _),trivial,λb hb=>absurd (show b∈([]:Ac Am) from hb) (by simp),hok,.of_eq hg⟩
  refine Jx ((F _ hKb (nsK hns)).run HC [] s₁ H ⟨[.ref a],[]⟩ [.ref a] [.ref a] _ _ hr e0 (hbind s₁ (.ref a)) (.cons rfl .nil) (hsp H hO hS)) λr s' h=>?_
  cases r with
  |error e=>exact(hCX H e s' h).elim
  |ok fl=>
   cases fl with
   |next=>exact Ef h
   |brk=>exact Ef h
   |cont=>exact Ef h
   |ret u=>
    obtain⟨v,H',os,bare,un,hok',r',q⟩:=h;have q':v=.bl Aa:=q;subst q';obtain rfl:u=Yh Aa:=r';refine⟨rfl,OldK.of_keep λb o e=>?_,os,bare⟩
    cases q:H b with
    |none=>exact un.keep b o e q (by intro z;exact absurd (show b∈([]:Ac Am) from z) (by simp)) (by simp)
    |some u=>
     rcases hO b with z|⟨ob,xs,z⟩
     .rw[q]at z;cases z
     .have z2:=un.frzs b ob _ z;obtain⟨e1,_⟩:=hok b _ z;obtain⟨e2,_⟩:=hok' b _ z2;rw[e]at e1;cases e1;exact e2
 cases hk:K.lookup a with
 |some o=>
  -- the script is one of the module's own objects
  have e:=KX a o hk;rw[ha]at e;cases e;refine core (λ_=>Ae) (λ_=>.inl rfl) (.inr ⟨_,vs.toArray,_,hk,rfl,rfl,rfl,by rw[AC,lenV];exact hl,by simpa using rv⟩) (λb u z=>by have z':(Ae:Ap HO)=Ab u:=z;cases z') (λb z=>absurd rfl z) λz=>absurd rfl z
 |none=>
  refine core (λb=>if b=a then Ab (.frz { cls:=.type "list",data:=.seq vs.toArray } (.lst (ns.map V.int))) else Ae) (λb=>?_) (.inl (.inr ⟨{ cls:=.type "list",data:=.seq vs.toArray },AI rfl⟩)) (λb u z=>?_) (λb z=>?_) λ_=>hk
  .by_cases hb:b=a
   .exact .inr ⟨_,_,AI hb⟩
   .exact .inl (AV hb)
  .by_cases hb:b=a
   .have z':=(AI hb).symm.trans z;cases z';subst hb;exact⟨ha,by rw[AZ];exact hl,vs,_,rv,ha⟩
   .have z':=(AV hb).symm.trans z;cases z'
  .by_cases hb:b=a
   .exact hb
   .exact absurd (AV hb) z
noncomputable abbrev KOf{K:Fg}{h:AJ}(_:K.In h):Fg:=K
theorem walk_of{l:F6}{n:Ag}{q:AT}{loose:Ac Al}{XP:(Al->Ap Ai)->AJ->Prop}{YP:AE->AJ->Prop}{d:DefRec}{K:LF->Fg}{CX:AE->CXT}{sp:AE->Sp}(hn:l.most=Ab n)(hn2:n<=sizeLine)(hdf:d.params.defaults=[])(hr:Room k HC)(hY:∀(w:AE)(h:AJ),YP w h->(K w.params).In h)(F:∀(w:AE)(mg:Al->Ap Ai)(fa:Am)(h:AJ),(K w.params).In h->h.Ns Bf mg->mg d.name=Ab (.ref fa) ->
   ∃ fd:Cs,(∀(s:As)(u:Ai),HB s fd ⟨[u],[]⟩ [(x,u)]) /\
    ∀ base:AJ,(K w.params).In base->base.Ns Bf mg->FnOk l.prog w (K w.params) mg base (CX w) k fa fd [x] (sp w))(hsp:∀(w:AE)(H:Hp)(a:Am)(ns:Ac Ad),ns.length<=n->Rk H->SqL (K w.params) H a (ns.map V.int)->sp w [.ref a] H (λv _=>v=.bl Aa) λ_ _ _=>Bz)(hCX:∀(w:AE)(H:Hp)(s:As)(e:Ai)(s':As),CX w [] H s (λ_ _ _=>Bz) e s'->Bz):Ym q loose XP YP l.row.toRowW d [] (λf vs=>Ky f vs):=by
 refine Att.attach_call hn hdf λw s₀ s₁ mg mb fa o pm cd doc a vs ns G Y_ ho hd hcd hmg hobj hints hlen hg=>?_
 have KX:=hY w _ Y_;obtain⟨fd,hb,hF⟩:=F w mg fa _ KX G.T.g hmg;exact cQ KX G.T.g G.T.b G.T.builtins G.T.nolimit hg hobj hints (Cb hlen hn2) hr hF hb (λH hO hS=>hsp w H a ns hlen hO hS) λH e s'=>hCX w H s₁ e s'
end L2
/- THE LAST THEOREM (shape;LID,My.* are yours):
   My.Adr:a structure of the addresses that your layer names (classes,functions);My.Txt K t:a structure (Prop) of the equations over K;
   My.txt_mk:{K} {implicit addresses ..} (e1:nsIn K Bf "law" = Ab (Ab (.ref f))) (e2:K.lookup f=Ab ⟨oc,od,.func (fnOf "law" "law" params body scope dV kV doc pm an cdv ct),sl⟩) (e3:codeIn K cdv "law" = Aa) ..:∃ t,My.Txt K t
set_option maxRecDepth 100000 in
set_option maxHeartbeats 0 in
theorem PySem.Challenge.cw_LID_holds:PySem.Challenge.rw_LID.Holds:=by
 w_on;o_law;k_head;(case hw=>w_witness2)
 k_fill
 refine L2.walk_of (l:=PySem.Challenge.rw_LID) (n:=63) (k:=40) (x := "script") (CX:=λw=>..) (sp:=λ_=>My.sp_law) rfl (by decide) rfl ⟨rfl,by decide,by decide⟩ (λw h Y_=>Yo Y_) ?F ?S ?C
 case F=>
  intro w mg fa h KX G hmg;have T:∃ t,My.Txt (L2.KOf KX) t:=by
   dsimp only[L2.KOf]                          -- K must stand as «<heap const> w.params» for k_is
   refine' My.txt_mk ?e1 ?e2 ?e3 ..
   (case e1=>PySem.W.k_is)                    -- in the order: a name -> its address -> its object -> its parts
   (case e2=>PySem.W.k_is)
   ..
  obtain⟨t,T⟩:=T;have e0:=hmg.symm.trans (Jp KX G T.law);cases e0                                       -- fa is the law's own address
  exact⟨_,fun s u=>.of_eq rfl,fun base kb nb=>My.law_fn T kb nb⟩     -- if «.of_eq rfl» comes too early: refine' ⟨_,?b,fun base kb nb=>My.law_fn T kb nb⟩;exact fun s u=>.of_eq rfl
 case S=>exact λw H a ns hl hO hS=>..
 case C=>exact ..
(the tactic k_is has no namespace:write k_is) -/
namespace L2
open PySem PySem.Spec PyProof.Rows
noncomputable def Ke(s:Bx):Arguments:=match s with
  |.FunctionDef _ a _ _ _ _ _ _ _ _=>a
  |_=>{posonlyargs:=[],args:=[],vararg:=Ae,kwonlyargs:=[],kw_defaults:=[],kwarg:=Ae,defaults:=[]}
noncomputable def HU(s:Bx):Ac Bx:=match s with
  |.FunctionDef _ _ b _ _ _ _ _ _ _=>b
  |_=>[]
noncomputable def GM(s:Bx):Cq:=match s with
  |.FunctionDef _ _ _ _ _ _ sc _ _ _=>sc
  |_=>{kind:=.function,names:=[],isGenerator:=Af,isCoroutine:=Af}
noncomputable abbrev CX0:CXT:=λ_ _ _ _ _ _=>Bz
structure Fun (K:Fg) (x qual:Al) (st:Bx) (f:Am) (fd:Cs):Prop where
 ex:∃(oc:Ai)(od:Ap Am)(kV doc pm:Ai)(an:Ap Am)(cdv ct:Ai)(osl:AY (Ap Ai)),
  fd=DV x qual (Ke st) (HU st) (GM st) .none kV doc pm an cdv ct/\K.lookup f=Ab ⟨oc,od,.func fd,osl⟩/\FO K cdv qual=Aa
 kp:Dx K (.ref f)=Aa
section
variable{P:AT}{w:AE}{K:Fg}{mg:Al->Ap Ai}{base:AJ}
theorem Fun.ok{x qual:Al}{st:Bx}{f:Am}{fd:Cs}{N ps:Ac Al}{k:Ag}{sp:Sp}(F:Fun K x qual st f fd)(S:FnScope N ps (GM st))(len:∀ vs H Q E,sp vs H Q E->vs.length=ps.length)(hbody:∀(cdv:Ai)(A:Bc)(outer:Ac CU)(s:As)(H:Hp)(vs:Ac V)(Q:VK)(E:XK),Room k (A.deeper (Fi qual (GM st) s.heap.objs.size f cdv))->sp vs H Q E ->
   ∃ t,PSs (G4 CX0 P w K mg base N qual (GM st) f cdv A outer s H E).nox (HU st) t/\t {nx:=λ_ H'=>Q .non H',rt:=Q} (start N vs) H):FnOk P w K mg base CX0 (k+1) f fd ps sp:=by
 obtain⟨oc,od,kV,doc,pm,an,cdv,ct,osl,rfl,lk,hcd⟩:=F.ex;refine VW lk hcd S len λA outer s H vs Q E hr hsp=>?_
 obtain⟨t,h,q⟩:=hbody cdv A outer s H vs Q E hr hsp;exact⟨t,h.nox,q⟩
theorem Fun.binds{x qual:Al}{st:Bx}{f:Am}{fd:Cs}{ps:Ac Al}(F:Fun K x qual st f fd)(h:∀(kV doc pm:Ai)(an:Ap Am)(cdv ct:Ai)(us:Ac Ai),us.length=ps.length->LG (DV x qual (Ke st) (HU st) (GM st) .none kV doc pm an cdv ct) ⟨us,[]⟩=pure (ps.zip us)):IB K fd ps []:=by
 obtain⟨oc,od,kV,doc,pm,an,cdv,ct,osl,rfl,lk,hcd⟩:=F.ex;exact .all (h kV doc pm an cdv ct)
theorem uC{x qual:Al}{st:Bx}{f:Am}{oc:Ai}{od an:Ap Am}{osl:AY (Ap Ai)}{kV doc pm cdv ct:Ai}(l:K.lookup f=Ab ⟨oc,od,.func (DV x qual (Ke st) (HU st) (GM st) .none kV doc pm an cdv ct),osl⟩)(c:FO K cdv qual=Aa)(k:Dx K (.ref f)=Aa):Fun K x qual st f (DV x qual (Ke st) (HU st) (GM st) .none kV doc pm an cdv ct):=⟨⟨oc,od,kV,doc,pm,an,cdv,ct,osl,rfl,l,c⟩,k⟩
end
section
variable{X:Cx}
end
def AM(H H':Hp):Prop:=∀ b o,H b=Ab o->H' b=Ab o
theorem AM.refl(H:Hp):AM H H:=λ_ _ h=>h
theorem AM.trans{H H1 H2:Hp}(a:AM H H1)(b:AM H1 H2):AM H H2:=λc o h=>b c o (a c o h)
theorem AM.free{H H':Hp}(e:AM H H'){l:Am}(h:H' l=Ae):H l=Ae:=by
 cases q:H l with
 |none=>rfl
 |some o=>
  rw[e l o q]at h;cases h
end L2
section
namespace Ov
open PySem
variable{α β:Type}
inductive D where
 |non|bl (b:Aj)|int (i:Ad)|str (x:Al)|tup (ds:Ac D)|lst (ds:Ac D)
 |obj (c:Ag) (fs:Ac (Al×D))|exc (c:Ag) (fs:Ac (Al×D))|dic (kvs:Ac (Ac Ad×D))
 deriving Inhabited
structure Ex where
 c:Ag
 fs:Ac (Al×D)
 deriving Inhabited
inductive R (α:Type) where
 |ok (a:α)|exn (x:Ex)|bad
 deriving Inhabited
noncomputable def R.bind{α β:Type}(r:R α)(f:α->R β):R β:=match r with
  |.ok a=>f a
  |.exn x=>.exn x
  |.bad=>.bad
@[simp]theorem R.bind_ok(a:α)(f:α->R β):(R.ok a).bind f=f a:=rfl
@[simp]theorem R.bind_exn(x:Ex)(f:α->R β):(R.exn x:R α).bind f=.exn x:=rfl
@[simp]theorem R.bind_bad(f:α->R β):(R.bad:R α).bind f=.bad:=rfl
theorem R.bind_assoc{γ:Type}(r:R α)(f:α->R β)(g:β->R γ):(r.bind f).bind g=r.bind λa=>(f a).bind g:=by cases r<;>rfl
noncomputable def Di(n:Ag):Aj:=En n 1000000
noncomputable def DW(i j:Ad):Aj:=(decide (-(18446744073709551616:Ad)<i)&&decide (i<18446744073709551616))||(decide (-(18446744073709551616:Ad)<j)&&decide (j<18446744073709551616))
noncomputable def EO(i j:Ad):Aj:=decide (i.natAbs<2 ^ 2000)&&decide (j.natAbs<2 ^ 2000)
noncomputable def C1:Ge->D->D->R D
 |.Add,.int i,.int j=>.ok (.int (i+j))
 |.Sub,.int i,.int j=>.ok (.int (i-j))
 |.Mult,.int i,.int j=>if (DW i j||EO i j)=Aa then .ok (.int (i*j)) else .bad
 |.FloorDiv,.int i,.int j=>if 0<j/\j<1073741824 then .ok (.int (i/j)) else .bad
 |.Mod,.int i,.int j=>if 0<j then .ok (.int (i%j)) else .bad
 |.Pow,.int i,.int j=>if (0<=j/\j<=1000000)/\(-(18446744073709551616:Ad)<i/\i<18446744073709551616) then .ok (.int (i ^ j.toNat)) else .bad
 |.Add,.str x,.str y=>if Di (x.length+y.length)=Aa then .ok (.str (x++y)) else .bad
 |.Add,.lst x,.lst y=>if Di (x.length+y.length)=Aa then .ok (.lst (x++y)) else .bad
 |.Add,.tup x,.tup y=>if (!x.isEmpty&&Di (x.length+y.length))=Aa then .ok (.tup (x++y)) else .bad
 |_,_,_=>.bad
noncomputable def unD:JS->D->R D
 |.USub,.int i=>.ok (.int (-i))
 |_,_=>.bad
noncomputable def b2i(b:Aj):Ad:=if b=Aa then 1 else 0
mutual
noncomputable def eqD:D->D->Aj
 |.non,.non=>Aa
 |.bl a,.bl b=>a==b
 |.bl a,.int j=>b2i a==j
 |.int i,.bl b=>i==b2i b
 |.int i,.int j=>i==j
 |.str x,.str y=>x==y
 |.tup xs,.tup ys=>eqDs xs ys
 |.lst xs,.lst ys=>eqDs xs ys
 |_,_=>Af
noncomputable def eqDs:Ac D->Ac D->Aj
 |[],[]=>Aa
 |x::xs,y::ys=>eqD x y&&eqDs xs ys
 |_,_=>Af
end
noncomputable def flD:Ag->D->Aj
 |_,.non=>Aa
 |_,.bl _=>Aa
 |_,.int _=>Aa
 |_,.str _=>Aa
 |n+1,.tup xs=>xs.all (flD n)
 |n+1,.lst xs=>xs.all (flD n)
 |_,_=>Af
noncomputable def Lq:D->Ap (Ac Ad)
 |.tup ds=>keyDs ds
 |_=>Ae
where keyDs:Ac D->Ap (Ac Ad)
 |[]=>Ab []
 |.int i::r=>(keyDs r).map (i :: ·)
 |_=>Ae
noncomputable def ltD:Ag->D->D->Aj
 |0,.int i,.int j=>decide (i<j)
 |n+1,.tup xs,.tup ys=>ltDs (ltD n) xs ys
 |_,_,_=>Af
where ltDs (lt:D->D->Aj):Ac D->Ac D->Aj
 |[],[]=>Af
 |[],_::_=>Aa
 |_::_,[]=>Af
 |x::xs,y::ys=>if eqD x y=Aa then ltDs lt xs ys else lt x y
noncomputable def rkD:Ag->D->Aj
 |0,.int _=>Aa
 |n+1,.tup xs=>xs.all (rkD n)
 |_,_=>Af
noncomputable def RC(lt:D->D->Aj)(x:D):Ac D->Ac D
 |[]=>[x]
 |y::ys=>if lt y x=Aa then y::RC lt x ys else x::y::ys
noncomputable def VN(lt:D->D->Aj):Ac D->Ac D
 |[]=>[]
 |x::xs=>RC lt x (VN lt xs)
noncomputable def Rw:Ac D->Aj
 |[]=>Aa
 |x::xs=>xs.all (λy=>!eqD x y)&&Rw xs
noncomputable def RQ:Ac D->Aj
 |[]=>Aa
 |[_]=>Aa
 |x::y::r=>ltD 1 x y&&RQ (y::r)
noncomputable def UE(xs:Ac D):R (Ac D):=if (xs.all (λd=>rkD 1 d && !eqD d (.tup []))&&Rw xs&&(decide (xs.length<64)||(RQ xs&&decide (xs.length<=1000))))=Aa then .ok (VN (ltD 1) xs) else .bad
noncomputable def Cf:DA->D->D->R D
  |.Eq,x,y=>if (flD 5 x&&flD 5 y)=Aa then .ok (.bl (eqD x y)) else .bad
  |.NotEq,x,y=>if (flD 5 x&&flD 5 y)=Aa then .ok (.bl (!eqD x y)) else .bad
  |.Lt,.int i,.int j=>.ok (.bl (decide (i<j)))
  |.LtE,.int i,.int j=>.ok (.bl (decide (i<=j)))
  |.Gt,.int i,.int j=>.ok (.bl (decide (j<i)))
  |.GtE,.int i,.int j=>.ok (.bl (decide (j<=i)))
  |.In,x,.lst ys=>if (flD 5 x&&ys.all (flD 5))=Aa then .ok (.bl (ys.any λy=>eqD y x)) else .bad
  |.In,x,.dic kvs=>match Lq x with
    |some k=>.ok (.bl (kvs.any λp=>p.1==k))
    |none=>.bad
  |.In,x,.tup ys=>if (flD 5 x&&ys.all (flD 5))=Aa then .ok (.bl (ys.any λy=>eqD y x)) else .bad
  |.NotIn,x,.lst ys=>if (flD 5 x&&ys.all (flD 5))=Aa then .ok (.bl (!ys.any λy=>eqD y x)) else .bad
  |.NotIn,x,.tup ys=>if (flD 5 x&&ys.all (flD 5))=Aa then .ok (.bl (!ys.any λy=>eqD y x)) else .bad
  |.Is,.non,.non=>.ok (.bl Aa)
  |.Is,.bl _,.non=>.ok (.bl Af)
  |.Is,.int _,.non=>.ok (.bl Af)
  |.Is,.str _,.non=>.ok (.bl Af)
  |.Is,.tup _,.non=>.ok (.bl Af)
  |.Is,.lst _,.non=>.ok (.bl Af)
  |.Is,.obj _ _,.non=>.ok (.bl Af)
  |.Is,.bl a,.bl b=>.ok (.bl (a==b))
  |.IsNot,.bl a,.bl b=>.ok (.bl (!(a==b)))
  |.IsNot,.non,.non=>.ok (.bl Af)
  |.IsNot,.bl _,.non=>.ok (.bl Aa)
  |.IsNot,.int _,.non=>.ok (.bl Aa)
  |.IsNot,.str _,.non=>.ok (.bl Aa)
  |.IsNot,.tup _,.non=>.ok (.bl Aa)
  |.IsNot,.lst _,.non=>.ok (.bl Aa)
  |.IsNot,.obj _ _,.non=>.ok (.bl Aa)
  |_,_,_=>.bad
noncomputable def CD:D->R Aj
 |.non=>.ok Af
 |.bl b=>.ok b
 |.int i=>.ok (i != 0)
 |.str x=>if Di x.length=Aa then .ok (x.length != 0) else .bad
 |.tup xs=>.ok (!xs.isEmpty)
 |.lst xs=>.ok (!xs.isEmpty)
 |_=>.bad
noncomputable def plD(n:Ag)(i:Ad):Ap Ag:=if 0<=i then (if i<n then Ab i.toNat else Ae) else if -(n:Ad)<=i then Ab (i+n).toNat else Ae
noncomputable def Ds(xs:Ac D)(i:Ad):R D:=match plD xs.length i with
  |some k=>match xs[k]? with
    |some d=>.ok d
    |none=>.bad
  |none=>.bad
noncomputable def vK(kvs:Ac (Ac Ad×D))(k:Ac Ad):Ap D:=(kvs.find? λp=>p.1==k).map (·.2)
noncomputable def Vd(kvs:Ac (Ac Ad×D))(k:Ac Ad)(v:D):Ac (Ac Ad×D):=if (kvs.any λp=>p.1==k)=Aa then kvs.map (λp=>if (p.1==k)=Aa then (k,v) else p) else kvs++[(k,v)]
noncomputable def CF:D->D->R D
  |.lst xs,.int i=>Ds xs i
  |.tup xs,.int i=>Ds xs i
  |.dic kvs,k=>match (Lq k).bind (vK kvs) with
    |some d=>.ok d
    |none=>.bad
  |_,_=>.bad
noncomputable def EQ:D->R Ad
 |.int i=>.ok i
 |_=>.bad
noncomputable def Eb:D->R Aj
 |.bl b=>.ok b
 |_=>.bad
noncomputable def CC:D->R (Ac D)
 |.lst xs=>.ok xs
 |.tup xs=>.ok xs
 |_=>.bad
noncomputable def Li:D->R (Ac D)
 |.lst xs=>.ok xs
 |_=>.bad
inductive BI where
 |len|abs|max|min|int|list|tuple|all|any|sum|sorted|str|count|stp|lset|tmin|tmax|tlt|rvs
 deriving DecidableEq,Inhabited
inductive Ki where
 |int|bool|str|list|tuple|verr|cls (c:Ag)
 deriving DecidableEq,Inhabited
mutual
inductive E where
 |non|bl (b:Aj)|int (i:Ad)|str (x:Al)
 |var (i:Ag)|glob (g:Ag)
 |bin (op:Ge) (a b:E)|un (op:JS) (a:E)|no (a:E)
 |and (es:Es)|or (es:Es)
 |cmp (op:DA) (a b:E)|cmp2 (op op':DA) (a b c:E)
 |ite (c a b:E)
 |call (f:Ag) (as:Es)|bi (b:BI) (as:Es)
 |isi (a:E) (ks:Ac Ki)
 |idx (a i:E)|sl (a lo hi:E)
 |tup (es:Es)|lst (es:Es)
 |comp (elt:E) (t:Ag) (it:I) (c:E)|compT (elt:E) (ts:Ac Ag) (it:I) (c:E)|tupI (it:I)|dnew
 |fld (o:E) (f:Al)
inductive Es where
 |nil|cons (e:E) (es:Es)
inductive I where
 |e (a:E)|rng (a:E)|rng2 (a b:E)|zip (a b:E)|zip3 (a b c:E)|enm (a:E)
end
abbrev Sl:=Ap (D×Aj)
abbrev Rho:=Ac Sl
structure Gam where
 F:Ag->Ac D->R D
 G:Ag->D
 up:Ag->Ac Ag
 /-- the defs whose answer is a new list -/
 fr:Ag->Aj
 /-- what is raised: the class,what it is made of -/
 xn:Ag->Ac D->R Ex
noncomputable def CS(lo:Ad)(n:Ag):Ac D:=(A4 n).map fun(k:Ag)=>D.int (lo+(k:Ad))
noncomputable def CP(lo hi:Ad):R (Ac D):=if (-(4611686018427387904:Ad)<=lo/\lo<4611686018427387904)/\(-(4611686018427387904:Ad)<=hi/\hi<4611686018427387904)/\hi-lo<1000000 then .ok (CS lo (hi-lo).toNat) else .bad
noncomputable def kiD(up:Ag->Ac Ag):Ki->D->Aj
 |.int,.int _=>Aa
 |.int,.bl _=>Aa
 |.bool,.bl _=>Aa
 |.str,.str _=>Aa
 |.list,.lst _=>Aa
 |.tuple,.tup _=>Aa
 |.cls c,.obj k _=>(up k).contains c
 |.cls c,.exc k _=>(up k).contains c
 |.verr,.exc _ _=>Aa
 |_,_=>Af
noncomputable def Fq:Ki->Aj
 |.cls _=>Aa
 |.verr=>Aa
 |_=>Af
noncomputable def G3(up:Ag->Ac Ag)(ks:Ac Ki)(x:D):R D:=match x with
  |.obj _ _=>.bad
  |.exc _ _=>if ks.all Fq=Aa then .ok (.bl (ks.any λk=>kiD up k x)) else .bad
  |.dic _=>.bad
  |_=>if ks.any Fq=Aa then .bad else .ok (.bl (ks.any λk=>kiD up k x))
noncomputable def EF:D->R Aj
 |.non=>.ok Af
 |.bl b=>.ok b
 |.int i=>.ok (i != 0)
 |_=>.bad
noncomputable def Gj:Ac D->R Aj
 |[]=>.ok Aa
 |x::r=>(EF x).bind λb=>(Gj r).bind λc=>.ok (b&&c)
noncomputable def F0:Ac D->R Aj
 |[]=>.ok Af
 |x::r=>(EF x).bind λb=>(F0 r).bind λc=>.ok (b||c)
noncomputable def GQ:Ad->Ac D->R Ad
 |a,[]=>.ok a
 |a,.int i::r=>GQ (a+i) r
 |_,_=>.bad
noncomputable def E5:Ac D->Ac D->Ac D
 |x::xs,y::ys=>.tup [x,y]::E5 xs ys
 |_,_=>[]
noncomputable def Qy:Ac D->Ac D->Ac D->Ac D
 |x::xs,y::ys,z::zs=>.tup [x,y,z]::Qy xs ys zs
 |_,_,_=>[]
noncomputable def Lk(x y z:D):R (Ac D):=(CC x).bind λxs=>(CC y).bind λys=>(CC z).bind λzs=>if 0<xs.length/\xs.length<=1000/\ys.length=xs.length/\zs.length=xs.length then .ok (Qy xs ys zs) else .bad
noncomputable def Fp:Ad->Ac D->Ac D
 |_,[]=>[]
 |i,x::xs=>.tup [.int i,x]::Fp (i+1) xs
noncomputable def nlD:Ag->D->Aj
 |_,.non=>Aa
 |_,.bl _=>Aa
 |_,.int _=>Aa
 |_,.str _=>Aa
 |n+1,.tup xs=>xs.all (nlD n)
 |_,_=>Af
noncomputable def Ie(fr:Aj):D->Aj
 |.lst ds=>fr&&ds.all (nlD 5)
 |d=>nlD 5 d
noncomputable def Jh:Ac D->Ap (Ac Ad)
 |[]=>Ab []
 |.int i::r=>(Jh r).map (i :: ·)
 |_=>Ae
noncomputable def IG(i:Ad):Ac Ad->Ad
 |[]=>i
 |j::r=>IG (if j<i then j else i) r
noncomputable def pk2(k n:Ag):Ac Ag:=(A4 ((n-min k n+1)/2)).map λj=>min k n+2*j
noncomputable def RG(k:Ag)(xs:Ac D):Ac D:=(pk2 k xs.length).filterMap λi=>xs[i]?
noncomputable def ddS(acc:Ac Ad)(x:Ad):Ac Ad:=if acc.any (· == x)=Aa then acc else acc++[x]
noncomputable def ddN(is:Ac Ad):Ag:=(is.foldl ddS []).length
noncomputable def Wf(xs:Ac D):R D:=match Jh xs with
  |some is=>if En is.length 4000=Aa then .ok (.int (ddN is)) else .bad
  |none=>.bad
noncomputable def mmD(mx:Aj)(x y:D):R D:=if [x,y].all (λd=>rkD 1 d && !eqD d (.tup []))=Aa then .ok (if (if mx=Aa then ltD 1 x y else ltD 1 y x)=Aa then y else x) else .bad
noncomputable def RD(x y:D):R D:=if [x,y].all (λd=>rkD 1 d && !eqD d (.tup []))=Aa then .ok (.bl (ltD 1 x y)) else .bad
noncomputable def Y_3(k:Ac Ad):Ad:=reduceHash (Builtin.Tuple.tupleHashOf (k.map hashInt))
noncomputable def Wg:Ac D->Ap (Ac (Ac Ad))
 |[]=>Ab []
 |.tup xs::r=>(Jh xs).bind λk=>(Wg r).map (k :: ·)
 |_=>Ae
noncomputable def Wn:Ac Ad->Aj
 |[]=>Aa
 |h::r=>!r.contains h&&Wn r
noncomputable def b9(xs:Ac D):R D:=match Wg xs with
  |some ks=>if (En ks.length 3&&Wn (ks.map Y_3))=Aa then .ok (.int ks.length) else .bad
  |none=>.bad
noncomputable def biD:BI->Ac D->R D
  |.len,[.lst xs]=>.ok (.int xs.length)
  |.len,[.tup xs]=>.ok (.int xs.length)
  |.len,[.str x]=>if Di x.length=Aa then .ok (.int x.length) else .bad
  |.abs,[.int i]=>.ok (.int (if i<0 then -i else i))
  |.max,[.int i,.int j]=>.ok (.int (if i<j then j else i))
  |.min,[.int i,.int j]=>.ok (.int (if j<i then j else i))
  |.min,[.lst xs]=>match Jh xs with
    |some (i::is)=>.ok (.int (IG i is))
    |_=>.bad
  |.int,[.int i]=>.ok (.int i)
  |.int,[.bl b]=>.ok (.int (b2i b))
  |.list,[.lst xs]=>.ok (.lst xs)
  |.list,[.tup xs]=>.ok (.lst xs)
  |.tuple,[.lst xs]=>.ok (.tup xs)
  |.tuple,[.tup xs]=>.ok (.tup xs)
  |.all,[.lst xs]=>(Gj xs).bind λb=>.ok (.bl b)
  |.any,[.lst xs]=>(F0 xs).bind λb=>.ok (.bl b)
  |.any,[.tup xs]=>(F0 xs).bind λb=>.ok (.bl b)
  |.sum,[.lst xs]=>(GQ 0 xs).bind λi=>.ok (.int i)
  |.sum,[.tup xs]=>(GQ 0 xs).bind λi=>.ok (.int i)
  |.sorted,[.lst xs]=>(UE xs).bind λys=>.ok (.lst ys)
  |.count,[.lst xs,x]=>if (flD 5 x&&xs.all (flD 5))=Aa then .ok (.int ((xs.filter λy=>eqD y x).length:Ag)) else .bad
  |.len,[.dic kvs]=>.ok (.int kvs.length)
  |.stp,[.lst xs,.int k]=>.ok (.lst (RG k.toNat xs))
  |.lset,[.lst xs]=>Wf xs
  |.lset,[.tup xs]=>b9 xs
  |.tmin,[x,y]=>mmD Af x y
  |.tmax,[x,y]=>mmD Aa x y
  |.tlt,[x,y]=>RD x y
  |.rvs,[.lst xs]=>.ok (.lst xs.reverse)
  |_,_=>.bad
noncomputable def slE(c:E)(d:D):R (Ap Ad):=match c with
  |.non=>.ok Ae
  |_=>(EQ d).bind λi=>.ok (Ab i)
noncomputable def G7(n d:Ag):Ap Ad->Ag
 |none=>d
 |some i=>if i<0 then (i+n).toNat else min i.toNat n
noncomputable def Lu(xs:Ac D)(lo hi:Ap Ad):Ac D:=(xs.drop (G7 xs.length 0 lo)).take (G7 xs.length xs.length hi-G7 xs.length 0 lo)
noncomputable def slD:D->Ap Ad->Ap Ad->R D
 |.lst xs,l,h=>.ok (.lst (Lu xs l h))
 |.tup xs,l,h=>if (G7 xs.length 0 l==0&&G7 xs.length xs.length h==xs.length)=Aa then .bad else .ok (.tup (Lu xs l h))
 |_,_,_=>.bad
noncomputable def Rr:D->Al->R D
  |.exc _ fs,f=>match fs.lookup f with
    |some d=>.ok d
    |none=>.bad
  |_,_=>.bad
noncomputable def F1(U:Rho)(i:Ag):R D:=match U[i]? with
  |some (Ab (d,Af))=>.ok d
  |_=>.bad
noncomputable def EE(U:Rho)(i:Ag):R D:=match U[i]? with
  |some (Ab (d,_))=>.ok d
  |_=>.bad
noncomputable def shE(U:Rho):E->Aj
  | .var i=>(match U[i]? with
    |some (Ab (_,Aa))=>Af
    | _=>Aa)
  |_=>Aa
noncomputable def JP(U:Rho):Es->Aj
 |.nil=>Aa
 |.cons e es=>shE U e&&JP U es
noncomputable def E2:Ac Ag->Ac D->Rho->Ap Rho
 |[],[],U=>Ab U
 |t::ts,d::ds,U=>E2 ts ds (U.set t (Ab (d,Af)))
 |_,_,_=>Ae
noncomputable def Gh(ts:Ac Ag)(d:D)(U:Rho):R Rho:=match d with
  | .tup xs=>(match E2 ts xs U with
    |some U'=>.ok U'
    | none=>.bad)
  |_=>.bad
noncomputable def Ji(ts:Ac Ag)(d:D)(U:Rho):R Rho:=match d with
  | .lst xs=>(match E2 ts xs U with
    |some U'=>.ok U'
    | none=>.bad)
  |d=>Gh ts d U
noncomputable def BQ(g:D->R Aj)(f:D->R D):Ac D->R (Ac D)
 |[]=>.ok []
 |x::xs=>(g x).bind λb=>if b=Aa then (f x).bind λy=>(BQ g f xs).bind λys=>.ok (y::ys) else BQ g f xs
noncomputable def noX{α:Type}:R α->R α
 |.ok a=>.ok a
 |_=>.bad
noncomputable def top(U:Rho)(e:E)(r:R D):R D:=match e with
  |.var i=>EE U i
  |_=>r
mutual
noncomputable def evE(Y:Gam)(U:Rho):E->R D
 |.non=>.ok .non
 |.bl b=>.ok (.bl b)
 |.int i=>.ok (.int i)
 |.str x=>.ok (.str x)
 |.var i=>F1 U i
 |.glob g=>.ok (Y.G g)
 |.bin op a b=>(top U a (evE Y U a)).bind λx=>(top U b (evE Y U b)).bind λy=>C1 op x y
 |.un op a=>(top U a (evE Y U a)).bind λx=>unD op x
 |.no a=>(top U a (evE Y U a)).bind λx=>(Eb x).bind λb=>.ok (.bl (!b))
 |.and es=>evN Y U es
 |.or es=>evO Y U es
 |.cmp op a b=>(top U a (evE Y U a)).bind λx=>(top U b (evE Y U b)).bind λy=>Cf op x y
 |.cmp2 op op' a b c=>(top U a (evE Y U a)).bind λx=>(top U b (evE Y U b)).bind λy=>(Cf op x y).bind λz=>(Eb z).bind λk=>if k=Aa then (top U c (evE Y U c)).bind λu=>Cf op' y u else .ok (.bl Af)
 |.ite c a b=>(top U c (evE Y U c)).bind λx=>(CD x).bind λk=>if k=Aa then evE Y U a else evE Y U b
 |.call f as=>(evB Y U as).bind λxs=>(Y.F f xs).bind λd=>if JP U as=Aa then .ok d else if Ie (Y.fr f) d=Aa then .ok d else .bad
 |.bi b as=>(evB Y U as).bind λxs=>biD b xs
 |.isi a ks=>(top U a (evE Y U a)).bind λx=>G3 Y.up ks x
 |.idx a i=>(top U a (evE Y U a)).bind λx=>(top U i (evE Y U i)).bind λy=>CF x y
 |.sl a lo hi=>(top U a (evE Y U a)).bind λx=>(top U lo (evE Y U lo)).bind λl=>(slE lo l).bind λl'=>(top U hi (evE Y U hi)).bind λh=>(slE hi h).bind λh'=>slD x l' h'
 |.tup es=>(evA Y U es).bind λxs=>.ok (.tup xs)
 |.lst es=>(evA Y U es).bind λxs=>.ok (.lst xs)
 |.comp elt t it c=>(evI Y U it).bind λxs=>(noX (BQ (λx=>(top (U.set t (Ab (x,Af))) c (evE Y (U.set t (Ab (x,Af))) c)).bind CD) (λx=>evE Y (U.set t (Ab (x,Af))) elt) xs)).bind λys=>.ok (.lst ys)
 |.compT elt ts it c=>(evI Y U it).bind λxs=>(noX (BQ (λx=>(Gh ts x U).bind λU'=>(top U' c (evE Y U' c)).bind CD) (λx=>(Gh ts x U).bind λU'=>evE Y U' elt) xs)).bind λys=>.ok (.lst ys)
 |.tupI it=>(evI Y U it).bind λxs=>.ok (.tup xs)
 |.dnew=>.ok (.dic [])
 |.fld o f=>(top U o (evE Y U o)).bind λx=>Rr x f
noncomputable def evN(Y:Gam)(U:Rho):Es->R D
 |.nil=>.bad
 |.cons e .nil=>evE Y U e
 |.cons e (.cons e' es)=>(evE Y U e).bind λx=>(Eb x).bind λc=>if c=Aa then evN Y U (.cons e' es) else .ok (.bl Af)
noncomputable def evO(Y:Gam)(U:Rho):Es->R D
 |.nil=>.bad
 |.cons e .nil=>evE Y U e
 |.cons e (.cons e' es)=>(evE Y U e).bind λx=>(Eb x).bind λc=>if c=Aa then .ok (.bl Aa) else evO Y U (.cons e' es)
noncomputable def evA(Y:Gam)(U:Rho):Es->R (Ac D)
 |.nil=>.ok []
 |.cons e es=>(evE Y U e).bind λx=>(evA Y U es).bind λxs=>.ok (x::xs)
noncomputable def evB(Y:Gam)(U:Rho):Es->R (Ac D)
 |.nil=>.ok []
 |.cons e es=>(top U e (evE Y U e)).bind λx=>(evB Y U es).bind λxs=>.ok (x::xs)
noncomputable def evI(Y:Gam)(U:Rho):I->R (Ac D)
 |.e a=>(evE Y U a).bind CC
 |.rng a=>(top U a (evE Y U a)).bind λx=>(EQ x).bind λj=>CP 0 j
 |.rng2 a b=>(top U a (evE Y U a)).bind λx=>(top U b (evE Y U b)).bind λy=>(EQ x).bind λi=>(EQ y).bind λj=>CP i j
 |.zip a b=>(evE Y U a).bind λx=>(evE Y U b).bind λy=>(CC x).bind λxs=>(CC y).bind λys=>.ok (E5 xs ys)
 |.zip3 a b c=>(evE Y U a).bind λx=>(evE Y U b).bind λy=>(evE Y U c).bind λz=>Lk x y z
 |.enm a=>(evE Y U a).bind λx=>(CC x).bind λxs=>.ok (Fp 0 xs)
end
noncomputable def DL(Y:Gam):E->Aj
 |.lst _=>Aa
 |.comp _ _ _ _=>Aa
 |.compT _ _ _ _=>Aa
 |.dnew=>Aa
 |.bin .Add _ _=>Aa
 |.bi .list _=>Aa
 |.bi .sorted _=>Aa
 |.sl _ _ _=>Aa
 |.call f _=>Y.fr f
 |_=>Af
mutual
inductive S where
 |pass
 /-- x=e;fresh: x alone holds the new list -/
 |asg (i:Ag) (fresh:Aj) (e:E)
 /-- a,b,..=e -/
 |asgT (ts:Ac Ag) (e:E)
 |expr (e:E)
 |ret (e:E)|retN
 |ife (c:E) (a b:Ss)
 |fors (t:Ag) (it:I) (body:Ss)
 |forT (ts:Ac Ag) (it:I) (body:Ss)
 |whl (c:E) (body:Ss)
 /-- raise C(e,..) -/
 |rais (c:Ag) (as:Es)
 /-- try: body except C as x: h -/
 |tryx (body:Ss) (c:Ag) (x:Ag) (h:Ss)
 /-- .. except C as x: h,except C' as x: h',else: els -/
 |try2 (body:Ss) (c:Ag) (x:Ag) (h:Ss) (c':Ag) (h' els:Ss)
 /-- x.append(e),x.extend(e),x.insert(k,e),x.reverse(),x.clear() -/
 |app (i:Ag) (e:E)|ext (i:Ag) (e:E)|ins (i:Ag) (k e:E)|rev (i:Ag)|clr (i:Ag)
 /-- d[k]=e,d.setdefault(k,e) -/
 |dput (i:Ag) (k e:E)|dsd (i:Ag) (k e:E)
 /-- x[k]=e -/
 |put (i:Ag) (k e:E)
 /-- x[k],x[l]=x[l],x[k] -/
 |swp (i k l:Ag)
 /-- x.append(y.pop(e)) -/
 |apop (j i:Ag) (e:E)
 /-- x=[y.pop(e) for k in it] -/
 |cpop (t y k:Ag) (it:I) (e:E)
 |brk|cont
 /-- nothing: from here on x is no longer changed -/
 |rel (i:Ag)
inductive Ss where
 |nil|cons (s:S) (ss:Ss)
end
inductive O where
 |next (U:Rho)|ret (d:D) (fr:Aj)|brk (U:Rho)|cont (U:Rho)|exn (x:Ex) (U:Rho)|bad
 deriving Inhabited
noncomputable def O.of{α:Type}(U:Rho)(r:R α)(f:α->O):O:=match r with
  |.ok a=>f a
  |.exn x=>.exn x U
  |.bad=>.bad
@[simp]theorem O.of_ok(U:Rho)(a:α)(f:α->O):O.of U (.ok a) f=f a:=rfl
@[simp]theorem O.of_exn(U:Rho)(x:Ex)(f:α->O):O.of U (.exn x:R α) f=.exn x U:=rfl
@[simp]theorem O.of_bad(U:Rho)(f:α->O):O.of U (.bad:R α) f=.bad:=rfl
noncomputable def Fe(Y:Gam)(U:Rho)(i:I):R (Ac D):=evI Y U i
noncomputable def C7(U:Rho)(i:Ag):R (Ac D):=match U[i]? with
  |some (Ab (.lst xs,Aa))=>.ok xs
  |_=>.bad
noncomputable def Ru(U:Rho)(i:Ag):R (Ac (Ac Ad×D)):=match U[i]? with
  |some (Ab (.dic xs,Aa))=>.ok xs
  |_=>.bad
noncomputable def Wh(d:D):R (Ac Ad):=match Lq d with
  |some k=>.ok k
  |none=>.bad
noncomputable def V8:Ag:=4096
noncomputable def O.seq(o:O)(f:Rho->O):O:=match o with
  |.next U=>f U
  |.ret d b=>.ret d b
  |.brk U=>.brk U
  |.cont U=>.cont U
  |.exn x U=>.exn x U
  |.bad=>.bad
noncomputable def O.turn(o:O)(f:Rho->O):O:=match o with
  |.next U=>f U
  |.cont U=>f U
  |.brk U=>.next U
  |.ret d b=>.ret d b
  |.exn x U=>.exn x U
  |.bad=>.bad
noncomputable def C8(body:D->Rho->O):Ac D->Rho->O
 |[],U=>.next U
 |x::xs,U=>(body x U).turn (C8 body xs)
noncomputable def Q5(c:Rho->R Aj)(body:Rho->O):Ag->Rho->O
 |0,_=>.bad
 |n+1,U=>O.of U (c U) λb=>if b=Aa then (body U).turn (Q5 c body n) else .next U
noncomputable def V4(U:Rho)(k:Ag):R Ad:=(F1 U k).bind EQ
noncomputable def YT(U:Rho)(d:D)(i k l:Ag):O:=match d with
  |.tup [x,y]=>O.of U (C7 U i) λxs=>O.of U (V4 U k) λa=>O.of U (V4 U l) λb=>match plD xs.length a,plD xs.length b with
    |some m,Ab n=>.next (U.set i (Ab (.lst ((xs.set m x).set n y),Aa)))
    |_,_=>.bad
  |_=>.bad
noncomputable def apD(U:Rho)(j i:Ag)(ys xs:Ac D)(n:Ad):O:=match plD xs.length n with
  | some m=>(match xs[m]? with
    |some d=>if (j != i&&(Di xs.length&&Di (ys.length+1)))=Aa then .next ((U.set i (Ab (.lst (xs.eraseIdx m),Aa))).set j (Ab (.lst (ys++[d]),Aa))) else .bad
    | none=>.bad)
  |none=>.bad
noncomputable def hdO(i:Ag)(y:Ex)(U':Rho)(fh:Rho->O):O:=match fh (U'.set i (Ab (.exc y.c y.fs,Af))) with
  |.next U''=>.next (U''.set i Ae)
  |.ret d f=>.ret d f
  |_=>.bad
noncomputable def G8(f:D->Ac D->R D):Ac D->Ac D->R (Ac D×Ac D)
  |[],ds=>.ok ([],ds)
  |x::xs,ds=>(f x ds).bind λd=>(EQ d).bind λn=>match plD ds.length n with
    | some m=>(match ds[m]? with
      |some y=>(G8 f xs (ds.eraseIdx m)).bind λr=>.ok (y::r.1,r.2)
      | none=>.bad)
    |none=>.bad
noncomputable def Qi(U:Rho)(k:Ag):Aj:=match U[k]? with
  |some Ae=>Aa
  |_=>Af
noncomputable def cpD(t y k:Ag)(U:Rho)(ri:R (Ac D))(fe:Rho->R D):O:=O.of U (C7 U y) λds=>O.of U ri λxs=>O.of U (noX (G8 (λx ds=>fe ((U.set y (Ab (.lst ds,Aa))).set k (Ab (x,Af)))) xs ds)) λr=>
 if (Qi U k&&Di ds.length)=Aa then .next ((U.set y (Ab (.lst r.2,Aa))).set t (Ab (.lst r.1,Aa))) else .bad
mutual
noncomputable def evS(Y:Gam)(U:Rho):S->O
  |.pass=>.next U
  | .asg i fresh e=>O.of U (evE Y U e) λd=>if fresh=Aa then (if DL Y e=Aa then (match d with
      |.lst xs=>.next (U.set i (Ab (.lst xs,Aa)))
      |.dic xs=>.next (U.set i (Ab (.dic xs,Aa)))
      | _=>.bad) else .bad) else .next (U.set i (Ab (d,Af)))
  |.asgT ts e=>O.of U (evE Y U e) λd=>O.of U (Ji ts d U) λU'=>.next U'
  |.expr e=>O.of U (evE Y U e) λ_=>.next U
  |.ret e=>O.of U (top U e (evE Y U e)) λd=>.ret d (DL Y e||(match e with | .var i=>(match U[i]? with|some (Ab (_,o))=>o|_=>Af)|_=>Af))
  |.retN=>.ret .non Af
  |.ife c a b=>O.of U ((top U c (evE Y U c)).bind CD) λk=>if k=Aa then evSs Y U a else evSs Y U b
  |.fors t it body=>O.of U (Fe Y U it) λxs=>C8 (λx U'=>evSs Y (U'.set t (Ab (x,Af))) body) xs U
  |.forT ts it body=>O.of U (Fe Y U it) λxs=>C8 (λx U'=>O.of U' (Gh ts x U') λU''=>evSs Y U'' body) xs U
  |.whl c body=>Q5 (λU'=>(top U' c (evE Y U' c)).bind CD) (λU'=>evSs Y U' body) V8 U
  |.rais c as=>O.of U (noX (evA Y U as)) λxs=>O.of U (Y.xn c xs) λx=>.exn x U
  |.tryx body c x h=>match evSs Y U body with
      | .exn y U'=>if (Y.up y.c).contains c=Aa then (match evSs Y (U'.set x (Ab (.exc y.c y.fs,Af))) h with
          |.next U''=>.next (U''.set x Ae)
          |.ret d f=>.ret d f
          | _=>.bad) else .bad
      |o=>o
  |.try2 body c x h c' h' els=>match evSs Y U body with
      |.exn y U'=>if (Y.up y.c).contains c=Aa then hdO x y U' (λr=>evSs Y r h) else if (Y.up y.c).contains c'=Aa then hdO x y U' (λr=>evSs Y r h') else .bad
      |.next U'=>evSs Y U' els
      |o=>o
  |.app i e=>O.of U (C7 U i) λxs=>O.of U (evE Y U e) λd=>if Di (xs.length+1)=Aa then .next (U.set i (Ab (.lst (xs++[d]),Aa))) else .bad
  |.ext i e=>O.of U (C7 U i) λxs=>O.of U (evE Y U e) λd=>O.of U (Li d) λys=>if Di (xs.length+ys.length)=Aa then .next (U.set i (Ab (.lst (xs++ys),Aa))) else .bad
  |.ins i k e=>O.of U (C7 U i) λxs=>O.of U ((top U k (evE Y U k)).bind EQ) λj=>O.of U (evE Y U e) λd=>if (Di (xs.length+1)&&decide (0<=j)&&decide (j<=xs.length))=Aa then .next (U.set i (Ab (.lst (xs.take j.toNat++d::xs.drop j.toNat),Aa))) else .bad
  |.rev i=>O.of U (C7 U i) λxs=>.next (U.set i (Ab (.lst xs.reverse,Aa)))
  |.clr i=>O.of U (C7 U i) λ_=>.next (U.set i (Ab (.lst [],Aa)))
  |.dput i k e=>O.of U (evE Y U e) λd=>O.of U (Ru U i) λxs=>O.of U ((evE Y U k).bind Wh) λj=>if Di (xs.length+1)=Aa then .next (U.set i (Ab (.dic (Vd xs j d),Aa))) else .bad
  |.dsd i k e=>O.of U (Ru U i) λxs=>O.of U ((evE Y U k).bind Wh) λj=>O.of U (evE Y U e) λd=>if Di (xs.length+1)=Aa then .next (U.set i (Ab (.dic (if (xs.any λp=>p.1==j)=Aa then xs else Vd xs j d),Aa))) else .bad
  |.put i k e=>O.of U (evE Y U e) λd=>O.of U (C7 U i) λxs=>O.of U ((top U k (evE Y U k)).bind EQ) λj=>match plD xs.length j with
      |some n=>.next (U.set i (Ab (.lst (xs.set n d),Aa)))
      |none=>.bad
  |.swp i k l=>O.of U (evE Y U (.tup (.cons (.idx (.var i) (.var l)) (.cons (.idx (.var i) (.var k)) .nil)))) λd=>YT U d i k l
  |.cpop t y k it e=>cpD t y k U (Fe Y U it) λU=>evE Y U e
  |.apop j i e=>O.of U (C7 U j) λys=>O.of U (C7 U i) λxs=>O.of U (evE Y U e) λd=>O.of U (EQ d) λn=>apD U j i ys xs n
  |.brk=>.brk U
  |.cont=>.cont U
  |.rel i=>match U[i]? with
      |some (Ab (d,Aa))=>.next (U.set i (Ab (d,Af)))
      |_=>.next U
noncomputable def evSs(Y:Gam)(U:Rho):Ss->O
 |.nil=>.next U
 |.cons s ss=>(evS Y U s).seq λU'=>evSs Y U' ss
end
structure Df where
 n:Ag
 fr:Aj
 body:Ss
noncomputable def BJ(n:Ag)(ds:Ac D):Rho:=ds.map (λd=>Ab (d,Af))++GZ (n-ds.length) Ae
noncomputable def isL:D->Aj
 |.lst _=>Aa
 |.dic _=>Aa
 |_=>Af
noncomputable def O.ans(fr:Aj)(o:O):R D:=match o with
  |.ret d b=>if (fr&&(!b&&isL d))=Aa then .bad else .ok d
  |.next _=>if fr=Aa then .bad else .ok .non
  |.exn x _=>.exn x
  |_=>.bad
noncomputable def Df.run(Y:Gam)(f:Df)(ds:Ac D):R D:=(evSs Y (BJ f.n ds) f.body).ans f.fr
structure Prg where
 xs:Aj
 defs:Ag->Df
 G:Ag->D
 up:Ag->Ac Ag
 xn:Ag->Ac D->R Ex
noncomputable def Hr(xs:Aj)(r:R D):R D:=match xs with
  |true=>r
  |false=>noX r
noncomputable def gam(P:Prg):Ag->Gam
 |0=>⟨λ_ _=>.bad,P.G,P.up,λi=>(P.defs i).fr,P.xn⟩
 |n+1=>⟨λi ds=>Hr P.xs ((P.defs i).run (gam P n) ds),P.G,P.up,λi=>(P.defs i).fr,P.xn⟩
end Ov
end
section
namespace Ov
open PySem
variable{α:Type}{lo hi:Ad}{n:Ag}{x:D}
section
variable(Y:Gam)(U:Rho)
@[simp]theorem Zzk:evE Y U .non=.ok .non:=rfl
@[simp]theorem ZA9(b):evE Y U (.bl b)=.ok (.bl b):=rfl
@[simp]theorem Zzo(b):evE Y U (.int b)=.ok (.int b):=rfl
@[simp]theorem Zzj(b):evE Y U (.str b)=.ok (.str b):=rfl
@[simp]theorem Zzi(i):evE Y U (.var i)=F1 U i:=rfl
@[simp]theorem ZvV(i):evE Y U (.glob i)=.ok (Y.G i):=rfl
@[simp]theorem lY(op a b):evE Y U (.bin op a b)=(top U a (evE Y U a)).bind λx=>(top U b (evE Y U b)).bind λy=>C1 op x y:=rfl
@[simp]theorem ZA5(op a):evE Y U (.un op a)=(top U a (evE Y U a)).bind λx=>unD op x:=rfl
@[simp]theorem ZA8(a):evE Y U (.no a)=(top U a (evE Y U a)).bind λx=>(Eb x).bind λb=>.ok (.bl (!b)):=rfl
@[simp]theorem Zzs(es):evE Y U (.and es)=evN Y U es:=rfl
@[simp]theorem ZA7(es):evE Y U (.or es)=evO Y U es:=rfl
@[simp]theorem Zzf(e):evN Y U (.cons e .nil)=evE Y U e:=rfl
@[simp]theorem ZvQ(e e' es):evN Y U (.cons e (.cons e' es))=(evE Y U e).bind λx=>(Eb x).bind λc=>if c=Aa then evN Y U (.cons e' es) else .ok (.bl Af):=rfl
@[simp]theorem Zze(e):evO Y U (.cons e .nil)=evE Y U e:=rfl
@[simp]theorem ZvP(e e' es):evO Y U (.cons e (.cons e' es))=(evE Y U e).bind λx=>(Eb x).bind λc=>if c=Aa then .ok (.bl Aa) else evO Y U (.cons e' es):=rfl
@[simp]theorem Zzr(op a b):evE Y U (.cmp op a b)=(top U a (evE Y U a)).bind λx=>(top U b (evE Y U b)).bind λy=>Cf op x y:=rfl
@[simp]theorem ZvY(op op' a b c):evE Y U (.cmp2 op op' a b c)=(top U a (evE Y U a)).bind λx=>(top U b (evE Y U b)).bind λy=>(Cf op x y).bind λz=>(Eb z).bind λk=>if k=Aa then (top U c (evE Y U c)).bind λu=>Cf op' y u else .ok (.bl Af):=rfl
@[simp]theorem Zzm(c a b):evE Y U (.ite c a b)=(top U c (evE Y U c)).bind λx=>(CD x).bind λk=>if k=Aa then evE Y U a else evE Y U b:=rfl
@[simp]theorem ZvZ(f as):evE Y U (.call f as)=(evB Y U as).bind λxs=>(Y.F f xs).bind λd=>if JP U as=Aa then .ok d else if Ie (Y.fr f) d=Aa then .ok d else .bad:=rfl
@[simp]theorem U_9(f as):evE Y U (.bi f as)=(evB Y U as).bind λxs=>biD f xs:=rfl
@[simp]theorem Zzn(a ks):evE Y U (.isi a ks)=(top U a (evE Y U a)).bind λx=>G3 Y.up ks x:=rfl
@[simp]theorem Zzp(a i):evE Y U (.idx a i)=(top U a (evE Y U a)).bind λx=>(top U i (evE Y U i)).bind λy=>CF x y:=rfl
@[simp]theorem ZA6(a lo hi):evE Y U (.sl a lo hi)=(top U a (evE Y U a)).bind λx=>(top U lo (evE Y U lo)).bind λl=>(slE lo l).bind λl'=>(top U hi (evE Y U hi)).bind λh=>(slE hi h).bind λh'=>slD x l' h':=rfl
@[simp]theorem lX(es):evE Y U (.tup es)=(evA Y U es).bind λxs=>.ok (.tup xs):=rfl
@[simp]theorem Zzl(es):evE Y U (.lst es)=(evA Y U es).bind λxs=>.ok (.lst xs):=rfl
noncomputable def cG(Y:Gam)(U:Rho)(t:Ag)(c:E):D->R Aj:=λx=>(top (U.set t (Ab (x,Af))) c (evE Y (U.set t (Ab (x,Af))) c)).bind CD
noncomputable def cF(Y:Gam)(U:Rho)(t:Ag)(elt:E):D->R D:=λx=>evE Y (U.set t (Ab (x,Af))) elt
noncomputable def mkL(r:R (Ac D)):R D:=(noX r).bind λys=>.ok (.lst ys)
@[simp]theorem ZAG(ys):mkL (.ok ys)=.ok (.lst ys):=rfl
@[simp]theorem ZvX(elt t it c):evE Y U (.comp elt t it c)=(evI Y U it).bind λxs=>mkL (BQ (cG Y U t c) (cF Y U t elt) xs):=rfl
noncomputable def cGT(Y:Gam)(U:Rho)(ts:Ac Ag)(c:E):D->R Aj:=λx=>(Gh ts x U).bind λU'=>(top U' c (evE Y U' c)).bind CD
noncomputable def cFT(Y:Gam)(U:Rho)(ts:Ac Ag)(elt:E):D->R D:=λx=>(Gh ts x U).bind λU'=>evE Y U' elt
@[simp]theorem Zt9(elt ts it c):evE Y U (.compT elt ts it c)=(evI Y U it).bind λxs=>mkL (BQ (cGT Y U ts c) (cFT Y U ts elt) xs):=rfl
@[simp]theorem ZvU(it):evE Y U (.tupI it)=(evI Y U it).bind λxs=>.ok (.tup xs):=rfl
@[simp]theorem ZvW:evE Y U .dnew=.ok (.dic []):=rfl
@[simp]theorem Zzq(o f):evE Y U (.fld o f)=(top U o (evE Y U o)).bind λx=>Rr x f:=rfl
@[simp]theorem Zzu:evA Y U .nil=.ok []:=rfl
@[simp]theorem Tq(e es):evA Y U (.cons e es)=(evE Y U e).bind λx=>(evA Y U es).bind λxs=>.ok (x::xs):=rfl
@[simp]theorem Zzt:evB Y U .nil=.ok []:=rfl
@[simp]theorem Tp(e es):evB Y U (.cons e es)=(top U e (evE Y U e)).bind λx=>(evB Y U es).bind λxs=>.ok (x::xs):=rfl
@[simp]theorem ZB6(a):evI Y U (.e a)=(evE Y U a).bind CC:=rfl
@[simp]theorem lW(a):evI Y U (.rng a)=(top U a (evE Y U a)).bind λx=>(EQ x).bind λj=>CP 0 j:=rfl
@[simp]theorem eZ(a b):evI Y U (.rng2 a b)=(top U a (evE Y U a)).bind λx=>(top U b (evE Y U b)).bind λy=>(EQ x).bind λi=>(EQ y).bind λj=>CP i j:=rfl
@[simp]theorem Zzg(a b):evI Y U (.zip a b)=(evE Y U a).bind λx=>(evE Y U b).bind λy=>(CC x).bind λxs=>(CC y).bind λys=>.ok (E5 xs ys):=rfl
@[simp]theorem ZvT(a b c):evI Y U (.zip3 a b c)=(evE Y U a).bind λx=>(evE Y U b).bind λy=>(evE Y U c).bind λz=>Lk x y z:=rfl
@[simp]theorem Zzh(a):evI Y U (.enm a)=(evE Y U a).bind λx=>(CC x).bind λxs=>.ok (Fp 0 xs):=rfl
@[simp]theorem ZvR(a b):Fe Y U (.zip a b)=evI Y U (.zip a b):=rfl
@[simp]theorem Zt8(a b c):Fe Y U (.zip3 a b c)=evI Y U (.zip3 a b c):=rfl
@[simp]theorem ZvS(a):Fe Y U (.enm a)=evI Y U (.enm a):=rfl
@[simp]theorem ZA4(a):Fe Y U (.e a)=(evE Y U a).bind CC:=rfl
@[simp]theorem eY(a):Fe Y U (.rng a)=evI Y U (.rng a):=rfl
@[simp]theorem bY(a b):Fe Y U (.rng2 a b)=evI Y U (.rng2 a b):=rfl
variable(r:R D)
@[simp]theorem Zws(i):top U (.var i) r=EE U i:=rfl
@[simp]theorem Zwu:top U .non r=r:=rfl
@[simp]theorem ZAd(b):top U (.bl b) r=r:=rfl
@[simp]theorem Zwy(b):top U (.int b) r=r:=rfl
@[simp]theorem Zwt(b):top U (.str b) r=r:=rfl
@[simp]theorem Zu7(b):top U (.glob b) r=r:=rfl
@[simp]theorem iK(op a b):top U (.bin op a b) r=r:=rfl
@[simp]theorem Zz9(op a):top U (.un op a) r=r:=rfl
@[simp]theorem ZAc(a):top U (.no a) r=r:=rfl
@[simp]theorem ZwC(a):top U (.and a) r=r:=rfl
@[simp]theorem ZAb(a):top U (.or a) r=r:=rfl
@[simp]theorem ZwB(op a b):top U (.cmp op a b) r=r:=rfl
@[simp]theorem Zva(op op' a b c):top U (.cmp2 op op' a b c) r=r:=rfl
@[simp]theorem Zww(a b c):top U (.ite a b c) r=r:=rfl
@[simp]theorem Zvb(a b):top U (.call a b) r=r:=rfl
@[simp]theorem qT(a b):top U (.bi a b) r=r:=rfl
@[simp]theorem Zwx(a b):top U (.isi a b) r=r:=rfl
@[simp]theorem Zwz(a b):top U (.idx a b) r=r:=rfl
@[simp]theorem ZAa(a b c):top U (.sl a b c) r=r:=rfl
@[simp]theorem iJ(a):top U (.tup a) r=r:=rfl
@[simp]theorem Zwv(a):top U (.lst a) r=r:=rfl
@[simp]theorem Zu9(a b c d):top U (.comp a b c d) r=r:=rfl
@[simp]theorem ZwA(a b):top U (.fld a b) r=r:=rfl
@[simp]theorem Zry(a b c d):top U (.compT a b c d) r=r:=rfl
@[simp]theorem Zu6(a):top U (.tupI a) r=r:=rfl
@[simp]theorem Zu8:top U .dnew r=r:=rfl
end
@[simp]theorem Zrm(x:D×Aj)(U:Rho):EE (Ab x::U) 0=.ok x.1:=rfl
@[simp]theorem Zrn(x:D)(U:Rho):F1 (Ab (x,Af)::U) 0=.ok x:=rfl
@[simp]theorem ZqZ(x:Sl)(U:Rho)(i:Ag)[NeZero i]:EE (x::U) i=EE U (i-1):=by
 obtain⟨j,rfl⟩:∃ j,i=j+1:=⟨i-1,by have:=Lz i;omega⟩
 rfl
@[simp]theorem Zq0(x:Sl)(U:Rho)(i:Ag)[NeZero i]:F1 (x::U) i=F1 U (i-1):=by
 obtain⟨j,rfl⟩:∃ j,i=j+1:=⟨i-1,by have:=Lz i;omega⟩
 rfl
noncomputable def shV(U:Rho)(i:Ag):Aj:=match U[i]? with
    |some (Ab (_,Aa))=>Af
    |_=>Aa
@[simp]theorem Zve(x:D)(b:Aj)(U:Rho):shV (Ab (x,b)::U) 0=!b:=by cases b<;>rfl
@[simp]theorem ZrW(U:Rho):shV (Ae::U) 0=Aa:=rfl
@[simp]theorem ZrX(x:Sl)(U:Rho)(i:Ag)[NeZero i]:shV (x::U) i=shV U (i-1):=by
 obtain⟨j,rfl⟩:∃ j,i=j+1:=⟨i-1,by have:=Lz i;omega⟩
 rfl
section
variable(U:Rho)
@[simp]theorem ZwY(i):shE U (.var i)=shV U i:=rfl
@[simp]theorem Zw1:shE U .non=Aa:=rfl
@[simp]theorem ZAs(b):shE U (.bl b)=Aa:=rfl
@[simp]theorem Zw5(b):shE U (.int b)=Aa:=rfl
@[simp]theorem Zw0(b):shE U (.str b)=Aa:=rfl
@[simp]theorem Zvh(b):shE U (.glob b)=Aa:=rfl
@[simp]theorem Zw9(op a b):shE U (.bin op a b)=Aa:=rfl
@[simp]theorem ZAo(op a):shE U (.un op a)=Aa:=rfl
@[simp]theorem ZAr(a):shE U (.no a)=Aa:=rfl
@[simp]theorem Zxa(a):shE U (.and a)=Aa:=rfl
@[simp]theorem ZAq(a):shE U (.or a)=Aa:=rfl
@[simp]theorem Zw8(op a b):shE U (.cmp op a b)=Aa:=rfl
@[simp]theorem Zvk(op op' a b c):shE U (.cmp2 op op' a b c)=Aa:=rfl
@[simp]theorem Zw3(a b c):shE U (.ite a b c)=Aa:=rfl
@[simp]theorem Zvl(a b):shE U (.call a b)=Aa:=rfl
@[simp]theorem ZAt(a b):shE U (.bi a b)=Aa:=rfl
@[simp]theorem Zw4(a b):shE U (.isi a b)=Aa:=rfl
@[simp]theorem Zw6(a b):shE U (.idx a b)=Aa:=rfl
@[simp]theorem ZAp(a b c):shE U (.sl a b c)=Aa:=rfl
@[simp]theorem ZwZ(a):shE U (.tup a)=Aa:=rfl
@[simp]theorem Zw2(a):shE U (.lst a)=Aa:=rfl
@[simp]theorem Zvj(a b c d):shE U (.comp a b c d)=Aa:=rfl
@[simp]theorem ZrY(a b c d):shE U (.compT a b c d)=Aa:=rfl
@[simp]theorem Zvg(a):shE U (.tupI a)=Aa:=rfl
@[simp]theorem Zvi:shE U .dnew=Aa:=rfl
@[simp]theorem Zw7(a b):shE U (.fld a b)=Aa:=rfl
@[simp]theorem Zvf:JP U .nil=Aa:=rfl
@[simp]theorem aS(e es):JP U (.cons e es)=(shE U e&&JP U es):=rfl
end
@[simp]theorem Zq1(U:Rho):E2 [] [] U=Ab U:=rfl
@[simp]theorem Zn2(t ts d ds)(U:Rho):E2 (t::ts) (d::ds) U=E2 ts ds (U.set t (Ab (d,Af))):=rfl
@[simp]theorem bQ(ts ds)(U:Rho):Ji ts (.lst ds) U=match E2 ts ds U with
  |some U'=>.ok U'
  |none=>.bad:=rfl
@[simp]theorem ZuG(ts ds)(U:Rho):Ji ts (.tup ds) U=Gh ts (.tup ds) U:=rfl
@[simp]theorem Sv(ts ds)(U:Rho):Gh ts (.tup ds) U=match E2 ts ds U with
  |some U'=>.ok U'
  |none=>.bad:=rfl
@[simp]theorem Zwa{β:Type}(c:Prop)[Gp c](a b:R α)(f:α->R β):(if c then a else b).bind f=if c then a.bind f else b.bind f:=by split<;>rfl
@[simp]theorem ZAE(U:Rho)(c:Prop)[Gp c](a b:R α)(f:α->O):O.of U (if c then a else b) f=if c then O.of U a f else O.of U b f:=by split<;>rfl
@[simp]theorem Zyl{β:Type}(U:Rho)(a:R α)(g:α->R β)(f:β->O):O.of U (a.bind g) f=O.of U a λx=>O.of U (g x) f:=by cases a<;>rfl
@[simp]theorem Zxc(c:Prop)[Gp c](a b:O)(f:Rho->O):O.seq (if c then a else b) f=if c then a.seq f else b.seq f:=by split<;>rfl
@[simp]theorem ZuW(c:Prop)[Gp c](a b:O)(f:Rho->O):O.turn (if c then a else b) f=if c then a.turn f else b.turn f:=by split<;>rfl
@[simp]theorem ZzU(fr:Aj)(c:Prop)[Gp c](a b:O):O.ans fr (if c then a else b)=if c then a.ans fr else b.ans fr:=by split<;>rfl
@[simp]theorem Zvm(U f):O.seq (.next U) f=f U:=rfl
@[simp]theorem Zxb(d b f):O.seq (.ret d b) f=.ret d b:=rfl
@[simp]theorem Zxe(U f):O.seq (.brk U) f=.brk U:=rfl
@[simp]theorem Zvn(U f):O.seq (.cont U) f=.cont U:=rfl
@[simp]theorem Zxd(x U f):O.seq (.exn x U) f=.exn x U:=rfl
@[simp]theorem Zxf(f):O.seq .bad f=.bad:=rfl
@[simp]theorem Zru(U f):O.turn (.next U) f=f U:=rfl
@[simp]theorem ZuV(d b f):O.turn (.ret d b) f=.ret d b:=rfl
@[simp]theorem ZuY(U f):O.turn (.brk U) f=.next U:=rfl
@[simp]theorem Zrv(U f):O.turn (.cont U) f=f U:=rfl
@[simp]theorem ZuX(x U f):O.turn (.exn x U) f=.exn x U:=rfl
@[simp]theorem ZuZ(f):O.turn .bad f=.bad:=rfl
@[simp]theorem Zwc(U):O.ans Af (.next U)=.ok .non:=rfl
@[simp]theorem ZzT(d b):O.ans Af (.ret d b)=.ok d:=rfl
@[simp]theorem Zwb(d b):O.ans Aa (.ret d b)=if (!b&&isL d)=Aa then .bad else .ok d:=rfl
@[simp]theorem ZyR(d):isL (.lst d)=Aa:=rfl
@[simp]theorem ZyQ(d):isL (.tup d)=Af:=rfl
@[simp]theorem ZyS(d):isL (.int d)=Af:=rfl
@[simp]theorem ZzV(fr x U):O.ans fr (.exn x U)=.exn x:=rfl
@[simp]theorem ZzW(fr):O.ans fr .bad=.bad:=rfl
@[simp]theorem ZBf(i j:Ad):C1 .Add (.int i) (.int j)=.ok (.int (i+j)):=rfl
@[simp]theorem ZAi(i j:Ad):C1 .Sub (.int i) (.int j)=.ok (.int (i-j)):=rfl
@[simp]theorem uQ(i j:Ad):C1 .Mult (.int i) (.int j)=if (DW i j||EO i j)=Aa then .ok (.int (i*j)) else .bad:=rfl
@[simp]theorem lL(i j:Ad):C1 .FloorDiv (.int i) (.int j)=if 0<j/\j<1073741824 then .ok (.int (i/j)) else .bad:=rfl
@[simp]theorem uR(i j:Ad):C1 .Mod (.int i) (.int j)=if 0<j then .ok (.int (i%j)) else .bad:=rfl
@[simp]theorem sE(i j:Ad):C1 .Pow (.int i) (.int j)=if (0<=j/\j<=1000000)/\(-(18446744073709551616:Ad)<i/\i<18446744073709551616) then .ok (.int (i ^ j.toNat)) else .bad:=rfl
@[simp]theorem VF(x y:Al):C1 .Add (.str x) (.str y)=if Di (x.length+y.length)=Aa then .ok (.str (x++y)) else .bad:=rfl
@[simp]theorem VG(x y:Ac D):C1 .Add (.lst x) (.lst y)=if Di (x.length+y.length)=Aa then .ok (.lst (x++y)) else .bad:=rfl
@[simp]theorem VE(x y:Ac D):C1 .Add (.tup x) (.tup y)=if (!x.isEmpty&&Di (x.length+y.length))=Aa then .ok (.tup (x++y)) else .bad:=rfl
@[simp]theorem ZBM(i:Ad):unD .USub (.int i)=.ok (.int (-i)):=rfl
@[simp]theorem cu(x y:D):Cf .Eq x y=if (flD 5 x&&flD 5 y)=Aa then .ok (.bl (eqD x y)) else .bad:=rfl
@[simp]theorem ay(x y:D):Cf .NotEq x y=if (flD 5 x&&flD 5 y)=Aa then .ok (.bl (!eqD x y)) else .bad:=rfl
@[simp]theorem ZBN(i j:Ad):Cf .Lt (.int i) (.int j)=.ok (.bl (decide (i<j))):=rfl
@[simp]theorem ZBQ(i j:Ad):Cf .LtE (.int i) (.int j)=.ok (.bl (decide (i<=j))):=rfl
@[simp]theorem ZB0(i j:Ad):Cf .Gt (.int i) (.int j)=.ok (.bl (decide (j<i))):=rfl
@[simp]theorem ZB1(i j:Ad):Cf .GtE (.int i) (.int j)=.ok (.bl (decide (j<=i))):=rfl
@[simp]theorem Y_0(x:D)(ys:Ac D):Cf .In x (.lst ys)=if (flD 5 x&&ys.all (flD 5))=Aa then .ok (.bl (ys.any λy=>eqD y x)) else .bad:=rfl
@[simp]theorem YZ(x:D)(ys:Ac D):Cf .In x (.tup ys)=if (flD 5 x&&ys.all (flD 5))=Aa then .ok (.bl (ys.any λy=>eqD y x)) else .bad:=rfl
@[simp]theorem av(x:D)(ys:Ac D):Cf .NotIn x (.lst ys)=if (flD 5 x&&ys.all (flD 5))=Aa then .ok (.bl (!ys.any λy=>eqD y x)) else .bad:=rfl
@[simp]theorem au(x:D)(ys:Ac D):Cf .NotIn x (.tup ys)=if (flD 5 x&&ys.all (flD 5))=Aa then .ok (.bl (!ys.any λy=>eqD y x)) else .bad:=rfl
@[simp]theorem ZAT:Cf .Is .non .non=.ok (.bl Aa):=rfl
@[simp]theorem ZAV(i):Cf .Is (.int i) .non=.ok (.bl Af):=rfl
@[simp]theorem ZAS(i):Cf .Is (.tup i) .non=.ok (.bl Af):=rfl
@[simp]theorem ZAU(i):Cf .Is (.lst i) .non=.ok (.bl Af):=rfl
@[simp]theorem ZBS(a b):Cf .Is (.bl a) (.bl b)=.ok (.bl (a==b)):=rfl
@[simp]theorem ZAQ(a b):Cf .IsNot (.bl a) (.bl b)=.ok (.bl (!(a==b))):=rfl
@[simp]theorem ZyG:Cf .IsNot .non .non=.ok (.bl Af):=rfl
@[simp]theorem ZyI(i):Cf .IsNot (.int i) .non=.ok (.bl Aa):=rfl
@[simp]theorem ZyF(i):Cf .IsNot (.tup i) .non=.ok (.bl Aa):=rfl
@[simp]theorem ZyH(i):Cf .IsNot (.lst i) .non=.ok (.bl Aa):=rfl
@[simp]theorem ZzA(i j:Ad):eqD (.int i) (.int j)=(i==j):=rfl
@[simp]theorem ZBa(i j:Aj):eqD (.bl i) (.bl j)=(i==j):=rfl
@[simp]theorem Zzx(i j:Al):eqD (.str i) (.str j)=(i==j):=rfl
@[simp]theorem Zzw(i j:Ac D):eqD (.tup i) (.tup j)=eqDs i j:=rfl
@[simp]theorem Zzz(i j:Ac D):eqD (.lst i) (.lst j)=eqDs i j:=rfl
@[simp]theorem Zzy:eqD .non .non=Aa:=rfl
@[simp]theorem ZpU(i):eqD .non (.int i)=Af:=rfl
@[simp]theorem ZpV(i):eqD (.int i) .non=Af:=rfl
@[simp]theorem Zv0:eqDs [] []=Aa:=rfl
@[simp]theorem Pf(x y:D)(xs ys:Ac D):eqDs (x::xs) (y::ys)=(eqD x y&&eqDs xs ys):=rfl
@[simp]theorem Zy6(n)(i:Ad):flD n (.int i)=Aa:=by cases n<;>rfl
@[simp]theorem ZA3(n)(i:Aj):flD n (.bl i)=Aa:=by cases n<;>rfl
@[simp]theorem Zy4(n)(i:Al):flD n (.str i)=Aa:=by cases n<;>rfl
@[simp]theorem Zy5(n):flD n .non=Aa:=by cases n<;>rfl
@[simp]theorem Zvw(i):flD 5 (.tup i)=i.all (flD 4):=rfl
@[simp]theorem ZvB(i):flD 5 (.lst i)=i.all (flD 4):=rfl
@[simp]theorem Zvx(i):flD 4 (.tup i)=i.all (flD 3):=rfl
@[simp]theorem ZvC(i):flD 4 (.lst i)=i.all (flD 3):=rfl
@[simp]theorem Zvy(i):flD 3 (.tup i)=i.all (flD 2):=rfl
@[simp]theorem ZvD(i):flD 3 (.lst i)=i.all (flD 2):=rfl
@[simp]theorem Zvz(i):flD 2 (.tup i)=i.all (flD 1):=rfl
@[simp]theorem ZvE(i):flD 2 (.lst i)=i.all (flD 1):=rfl
@[simp]theorem ZvA(i):flD 1 (.tup i)=i.all (flD 0):=rfl
@[simp]theorem ZvF(i):flD 1 (.lst i)=i.all (flD 0):=rfl
@[simp]theorem Zwq(b):CD (.bl b)=.ok b:=rfl
@[simp]theorem Zu3(i):CD (.int i)=.ok (i != 0):=rfl
@[simp]theorem Zu2(i):CD (.lst i)=.ok (!i.isEmpty):=rfl
@[simp]theorem Zu0(i):CD (.tup i)=.ok (!i.isEmpty):=rfl
@[simp]theorem Zu1:CD .non=.ok Af:=rfl
@[simp]theorem Zwr(b):EF (.bl b)=.ok b:=rfl
@[simp]theorem Zu5(i):EF (.int i)=.ok (i != 0):=rfl
@[simp]theorem Zu4:EF .non=.ok Af:=rfl
@[simp]theorem ZuQ:Gj []=.ok Aa:=rfl
@[simp]theorem OZ(x r):Gj (x::r)=(EF x).bind λb=>(Gj r).bind λc=>.ok (b&&c):=rfl
@[simp]theorem ZuO:F0 []=.ok Af:=rfl
@[simp]theorem Sy(x r):F0 (x::r)=(EF x).bind λb=>(F0 r).bind λc=>.ok (b||c):=rfl
@[simp]theorem ZzI(b)(d):Hr b (.ok d)=.ok d:=by cases b<;>rfl
@[simp]theorem Zv3(b):Hr b .bad=.bad:=by cases b<;>rfl
@[simp]theorem Zv2(x):Hr Aa (.exn x)=.exn x:=rfl
@[simp]theorem Zra(r):Hr Af r=noX r:=rfl
@[simp]theorem Zym(a:α):noX (.ok a)=.ok a:=rfl
@[simp]theorem Zyo:noX (.bad:R α)=.bad:=rfl
@[simp]theorem Zyn(x):noX (.exn x:R α)=.bad:=rfl
@[simp]theorem ZzR(b):Eb (.bl b)=.ok b:=rfl
@[simp]theorem MR(b):EQ (.int b)=.ok b:=rfl
@[simp]theorem SN(b):Li (.lst b)=.ok b:=rfl
@[simp]theorem ZuI(b):CC (.lst b)=.ok b:=rfl
@[simp]theorem ZuH(b):CC (.tup b)=.ok b:=rfl
@[simp]theorem zW(xs i):CF (.lst xs) (.int i)=Ds xs i:=rfl
@[simp]theorem zV(xs i):CF (.tup xs) (.int i)=Ds xs i:=rfl
@[simp]theorem ZBP(xs):biD .len [.lst xs]=.ok (.int xs.length):=rfl
@[simp]theorem ZBO(xs):biD .len [.tup xs]=.ok (.int xs.length):=rfl
@[simp]theorem ZCg(i):biD .abs [.int i]=.ok (.int (if i<0 then -i else i)):=rfl
@[simp]theorem ZAI(i j):biD .max [.int i,.int j]=.ok (.int (if i<j then j else i)):=rfl
@[simp]theorem ZAH(i j):biD .min [.int i,.int j]=.ok (.int (if j<i then j else i)):=rfl
@[simp]theorem ZBT(i):biD .int [.int i]=.ok (.int i):=rfl
@[simp]theorem ZBU(i):biD .int [.bl i]=.ok (.int (b2i i)):=rfl
@[simp]theorem ZAM(i):biD .list [.lst i]=.ok (.lst i):=rfl
@[simp]theorem ZAL(i):biD .list [.tup i]=.ok (.lst i):=rfl
@[simp]theorem Zwp(i):biD .tuple [.lst i]=.ok (.tup i):=rfl
@[simp]theorem Zwo(i):biD .tuple [.tup i]=.ok (.tup i):=rfl
@[simp]theorem cm(i):biD .all [.lst i]=(Gj i).bind λb=>.ok (.bl b):=rfl
@[simp]theorem ZCf(i):biD .any [.lst i]=(F0 i).bind λb=>.ok (.bl b):=rfl
@[simp]theorem ZCe(i):biD .any [.tup i]=(F0 i).bind λb=>.ok (.bl b):=rfl
@[simp]theorem ZBF(i):biD .sum [.lst i]=(GQ 0 i).bind λb=>.ok (.int b):=rfl
@[simp]theorem ZBE(i):biD .sum [.tup i]=(GQ 0 i).bind λb=>.ok (.int b):=rfl
@[simp]theorem Zvd(i):biD .sorted [.lst i]=(UE i).bind λb=>.ok (.lst b):=rfl
@[simp]theorem ZBG(xs k):biD .stp [.lst xs,.int k]=.ok (.lst (RG k.toNat xs)):=rfl
@[simp]theorem ZBJ(xs):biD .rvs [.lst xs]=.ok (.lst xs.reverse):=rfl
@[simp]theorem ZAJ(xs):biD .lset [.lst xs]=Wf xs:=rfl
@[simp]theorem ZAe(x y):biD .tmin [x,y]=mmD Af x y:=rfl
@[simp]theorem ZBp(x y):biD .tlt [x,y]=RD x y:=rfl
@[simp]theorem ZAf(x y):biD .tmax [x,y]=mmD Aa x y:=rfl
@[simp]theorem ZzK(xs x):biD .count [.lst xs,x]=if (flD 5 x&&xs.all (flD 5))=Aa then .ok (.int ((xs.filter λy=>eqD y x).length:Ag)) else .bad:=rfl
@[simp]theorem YU(xs lo hi):slD (.tup xs) lo hi=if (G7 xs.length 0 lo==0&&G7 xs.length xs.length hi==xs.length)=Aa then .bad else .ok (.tup (Lu xs lo hi)):=rfl
@[simp]theorem ZCr(xs lo hi):slD (.lst xs) lo hi=.ok (.lst (Lu xs lo hi)):=rfl
@[simp]theorem ZwV(d):slE .non d=.ok Ae:=rfl
@[simp]theorem ZwW(k i):slE (.int k) (.int i)=.ok (Ab i):=rfl
@[simp]theorem ZwU(k i):slE (.var k) (.int i)=.ok (Ab i):=rfl
@[simp]theorem ZwX(op a b i):slE (.bin op a b) (.int i)=.ok (Ab i):=rfl
@[simp]theorem ZAm(op a i):slE (.un op a) (.int i)=.ok (Ab i):=rfl
@[simp]theorem ZAn(b as i):slE (.bi b as) (.int i)=.ok (Ab i):=rfl
@[simp]theorem ZyL(up ks):G3 up ks .non=if ks.any Fq=Aa then .bad else .ok (.bl (ks.any λk=>kiD up k .non)):=rfl
@[simp]theorem ZAR(up ks b):G3 up ks (.bl b)=if ks.any Fq=Aa then .bad else .ok (.bl (ks.any λk=>kiD up k (.bl b))):=rfl
@[simp]theorem ZyN(up ks b):G3 up ks (.int b)=if ks.any Fq=Aa then .bad else .ok (.bl (ks.any λk=>kiD up k (.int b))):=rfl
@[simp]theorem ZyK(up ks b):G3 up ks (.str b)=if ks.any Fq=Aa then .bad else .ok (.bl (ks.any λk=>kiD up k (.str b))):=rfl
@[simp]theorem ZyJ(up ks b):G3 up ks (.tup b)=if ks.any Fq=Aa then .bad else .ok (.bl (ks.any λk=>kiD up k (.tup b))):=rfl
@[simp]theorem ZyM(up ks b):G3 up ks (.lst b)=if ks.any Fq=Aa then .bad else .ok (.bl (ks.any λk=>kiD up k (.lst b))):=rfl
@[simp]theorem ZyO(up ks c f):G3 up ks (.exc c f)=if ks.all Fq=Aa then .ok (.bl (ks.any λk=>kiD up k (.exc c f))) else .bad:=rfl
@[simp]theorem Zv7(c):Fq (.cls c)=Aa:=rfl
@[simp]theorem Zuj:Fq .verr=Aa:=rfl
@[simp]theorem Zv6:Fq .int=Af:=rfl
@[simp]theorem Zul:Fq .bool=Af:=rfl
@[simp]theorem Zv5:Fq .str=Af:=rfl
@[simp]theorem Zuk:Fq .list=Af:=rfl
@[simp]theorem Zrc:Fq .tuple=Af:=rfl
@[simp]theorem Zq5(up i):kiD up .int (.int i)=Aa:=rfl
@[simp]theorem Zq4(up):kiD up .int .non=Af:=rfl
@[simp]theorem Zpw(up i):kiD up .bool (.int i)=Af:=rfl
@[simp]theorem Zq3(up i):kiD up .int (.tup i)=Af:=rfl
@[simp]theorem Zq7(up i):kiD up .bool (.bl i)=Aa:=rfl
@[simp]theorem Zpv(up):kiD up .bool .non=Af:=rfl
@[simp]theorem Zpu(up i):kiD up .list (.lst i)=Aa:=rfl
@[simp]theorem ZmU(up i):kiD up .tuple (.tup i)=Aa:=rfl
@[simp]theorem ZmV(up):kiD up .tuple .non=Af:=rfl
@[simp]theorem Zq6(up c k f):kiD up (.cls c) (.exc k f)=(up k).contains c:=rfl
@[simp]theorem Zpt(up k f):kiD up .verr (.exc k f)=Aa:=rfl
theorem eU(xs:Ac D)(k:Ag)(h:k<xs.length):Ds xs (k:Ad)=.ok (xs[k]):=by
 unfold Ds plD;have h1:(0:Ad)<=k:=Int.natCast_nonneg k;have h2:(k:Ad)<(xs.length:Ag):=by omega
 rw[AI h1,AI h2];simp[h]
theorem Pq{xs:Ac D}{i:Ad}{d:D}(h0:0<=i)(h:xs[i.toNat]?=Ab d):Ds xs i=.ok d:=by
 unfold Ds plD;obtain⟨h1,_⟩:=AX.mp h;rw[AI h0,AI (by omega)]
 dsimp only;rw[h]
section
variable(Y:Gam)(U:Rho)
@[simp]theorem ZvG:evSs Y U .nil=.next U:=rfl
noncomputable def F2(Y:Gam)(ss:Ss)(o:O):O:=o.seq λU'=>evSs Y U' ss
@[simp]theorem JI(s ss):evSs Y U (.cons s ss)=F2 Y ss (evS Y U s):=rfl
@[simp]theorem Uo(ss):F2 Y ss (.next U)=evSs Y U ss:=rfl
@[simp]theorem ZAX(ss d b):F2 Y ss (.ret d b)=.ret d b:=rfl
@[simp]theorem ZA0(ss):F2 Y ss (.brk U)=.brk U:=rfl
@[simp]theorem Zy0(ss):F2 Y ss (.cont U)=.cont U:=rfl
@[simp]theorem ZAZ(ss x):F2 Y ss (.exn x U)=.exn x U:=rfl
@[simp]theorem ZA1(ss):F2 Y ss .bad=.bad:=rfl
@[simp]theorem ZAY(ss)(c:Prop)[Gp c](a b:O):F2 Y ss (if c then a else b)=if c then F2 Y ss a else F2 Y ss b:=by split<;>rfl
@[simp]theorem tX(o:O):F2 Y .nil o=o:=by cases o<;>rfl
noncomputable def BH(Y:Gam)(t:Ag)(body:Ss):D->Rho->O:=λx U'=>evSs Y (U'.set t (Ab (x,Af))) body
noncomputable def whC(Y:Gam)(c:E):Rho->R Aj:=λU'=>(top U' c (evE Y U' c)).bind CD
noncomputable def whB(Y:Gam)(body:Ss):Rho->O:=λU'=>evSs Y U' body
noncomputable def Q8(Y:Gam)(t:Ag)(body:Ss)(U:Rho)(r:R (Ac D)):O:=O.of U r λxs=>C8 (BH Y t body) xs U
@[simp]theorem PK(t body xs):Q8 Y t body U (.ok xs)=C8 (BH Y t body) xs U:=rfl
@[simp]theorem ZvL:evS Y U .pass=.next U:=rfl
@[simp]theorem Zzc(i e):evS Y U (.asg i Af e)=O.of U (evE Y U e) λd=>.next (U.set i (Ab (d,Af))):=rfl
@[simp]theorem ZvM(e):evS Y U (.expr e)=O.of U (evE Y U e) λ_=>.next U:=rfl
@[simp]theorem lT(e):evS Y U (.ret e)=O.of U (top U e (evE Y U e)) λd=>.ret d (DL Y e||(match e with | .var i=>(match U[i]? with|some (Ab (_,o))=>o|_=>Af)|_=>Af)):=rfl
@[simp]theorem ZvJ:evS Y U .retN=.ret .non Af:=rfl
@[simp]theorem lU(c a b):evS Y U (.ife c a b)=O.of U ((top U c (evE Y U c)).bind CD) λk=>if k=Aa then evSs Y U a else evSs Y U b:=rfl
@[simp]theorem Pu(t it body):evS Y U (.fors t it body)=Q8 Y t body U (Fe Y U it):=rfl
noncomputable def G1(Y:Gam)(ts:Ac Ag)(body:Ss):D->Rho->O:=λx U'=>O.of U' (Gh ts x U') λU''=>evSs Y U'' body
noncomputable def VU(Y:Gam)(ts:Ac Ag)(body:Ss)(U:Rho)(r:R (Ac D)):O:=O.of U r λxs=>C8 (G1 Y ts body) xs U
@[simp]theorem Tl(t body xs):VU Y t body U (.ok xs)=C8 (G1 Y t body) xs U:=rfl
@[simp]theorem To(t it body):evS Y U (.forT t it body)=VU Y t body U (Fe Y U it):=rfl
@[simp]theorem ZvO(ts e):evS Y U (.asgT ts e)=O.of U (evE Y U e) λd=>O.of U (Ji ts d U) λU'=>.next U':=rfl
theorem eX(i e):evS Y U (.asg i Aa e)=O.of U (evE Y U e) λd=>if DL Y e=Aa then (match d with
      |.lst xs=>.next (U.set i (Ab (.lst xs,Aa)))
      |.dic xs=>.next (U.set i (Ab (.dic xs,Aa)))
      | _=>.bad) else .bad:=rfl
noncomputable def setF(U:Rho)(i:Ag):D->O
 |.lst xs=>.next (U.set i (Ab (.lst xs,Aa)))
 |.dic xs=>.next (U.set i (Ab (.dic xs,Aa)))
 |_=>.bad
@[simp]theorem ZAu(i xs):setF U i (.lst xs)=.next (U.set i (Ab (.lst xs,Aa))):=rfl
@[simp]theorem ZAv(i xs):setF U i (.dic xs)=.next (U.set i (Ab (.dic xs,Aa))):=rfl
@[simp]theorem Zt7(i e):evS Y U (.asg i Aa e)=O.of U (evE Y U e) λd=>if DL Y e=Aa then setF U i d else .bad:=by
 rw[eX]
 congr 1
@[simp]theorem Zzd(i e):evS Y U (.app i e)=O.of U (C7 U i) λxs=>O.of U (evE Y U e) λd=>if Di (xs.length+1)=Aa then .next (U.set i (Ab (.lst (xs++[d]),Aa))) else .bad:=rfl
@[simp]theorem lV(i e):evS Y U (.ext i e)=O.of U (C7 U i) λxs=>O.of U (evE Y U e) λd=>O.of U (Li d) λys=>if Di (xs.length+ys.length)=Aa then .next (U.set i (Ab (.lst (xs++ys),Aa))) else .bad:=rfl
@[simp]theorem Zy9(i):evS Y U (.rev i)=O.of U (C7 U i) λxs=>.next (U.set i (Ab (.lst xs.reverse,Aa))):=rfl
@[simp]theorem Zza(i):evS Y U (.clr i)=O.of U (C7 U i) λ_=>.next (U.set i (Ab (.lst [],Aa))):=rfl
theorem Nb(i k e):evS Y U (.put i k e)=O.of U (evE Y U e) λd=>O.of U (C7 U i) λxs=>O.of U ((top U k (evE Y U k)).bind EQ) λj=>match plD xs.length j with
      |some n=>.next (U.set i (Ab (.lst (xs.set n d),Aa)))
      |none=>.bad:=rfl
theorem eW(t y k it e):evS Y U (.cpop t y k it e)=cpD t y k U (Fe Y U it) λU=>evE Y U e:=rfl
@[simp]theorem ZvH(body c x h):evS Y U (.tryx body c x h)=match evSs Y U body with
      | .exn y U'=>if (Y.up y.c).contains c=Aa then (match evSs Y (U'.set x (Ab (.exc y.c y.fs,Af))) h with
          |.next U''=>.next (U''.set x Ae)
          |.ret d f=>.ret d f
          | _=>.bad) else .bad
      |o=>o:=rfl
@[simp]theorem ZvI(body c x h c' h' els):evS Y U (.try2 body c x h c' h' els)=match evSs Y U body with
      |.exn y U'=>if (Y.up y.c).contains c=Aa then hdO x y U' (λr=>evSs Y r h) else if (Y.up y.c).contains c'=Aa then hdO x y U' (λr=>evSs Y r h') else .bad
      |.next U'=>evSs Y U' els
      |o=>o:=rfl
@[simp]theorem Zy8(c body):evS Y U (.whl c body)=Q5 (whC Y c) (whB Y body) V8 U:=rfl
@[simp]theorem ZvK(c as):evS Y U (.rais c as)=O.of U (noX (evA Y U as)) λxs=>O.of U (Y.xn c xs) λx=>.exn x U:=rfl
@[simp]theorem Zzb:evS Y U .brk=.brk U:=rfl
@[simp]theorem ZvN:evS Y U .cont=.cont U:=rfl
end
end Ov
namespace Ov
open PySem
theorem Ps{body:D->Rho->O}(P:Rho->Prop):∀(xs:Ac D)(U:Rho),P U->(∀ x∈xs,∀ U,P U->∃ U',body x U=.next U'/\P U')->∃ U',C8 body xs U=.next U'/\P U'
 |[],U,h,_=>⟨U,rfl,h⟩
 |x::xs,U,h,k=>by
  obtain⟨U1,e1,h1⟩:=k x Az U h;obtain⟨U2,e2,h2⟩:=Ps P xs U1 h1 λy hy=>k y (Au _ hy)
  exact⟨U2,by show (body x U).turn _=_;rw[e1];exact e2,h2⟩
theorem OR{body:D->Rho->O}(P:Ag->Rho->Prop):∀(xs:Ac D)(n:Ag)(U:Rho),P n U->(∀ i x,xs[i]?=Ab x->∀ U,P (n+i) U->∃ U',body x U=.next U'/\P (n+i+1) U')->∃ U',C8 body xs U=.next U'/\P (n+xs.length) U'
 |[],n,U,h,_=>⟨U,rfl,h⟩
 |x::xs,n,U,h,k=>by
  obtain⟨U1,e1,h1⟩:=k 0 x rfl U h;obtain⟨U2,e2,h2⟩:=OR P xs (n+1) U1 h1 λi y hy U hρ=>by
   have:=k (i+1) y (by simpa using hy) U (by rw[show n+(i+1)=n+1+i by omega];exact hρ)
   rw[show n+(i+1)=n+1+i by omega]at this
   exact this
  exact⟨U2,by show (body x U).turn _=_;rw[e1];exact e2,by rw[show n+(x::xs).length=n+1+xs.length by simp;omega];exact h2⟩
theorem aW(h1:0<=lo)(h2:lo<1000000)(h3:0<=hi)(h4:hi<1000000):CP lo hi=.ok (CS lo (hi-lo).toNat):=by
 unfold CP;rw[AI (by omega)]
theorem aX(h3:0<=hi)(h4:hi<1000000):CP 0 hi=.ok (CS 0 hi.toNat):=by
 rw[aW (by omega) (by omega) h3 h4,Gw]
theorem TW(h:x∈CS lo n):∃ k:Ag,k<n/\x=.int (lo+(k:Ad)):=by
 obtain⟨k,hk,e⟩:=BL.mp h;exact⟨k,A3.mp hk,e.symm⟩
theorem LP(lo:Ad)(n:Ag):(CS lo n).length=n:=by simp[CS]
theorem Pp{i:Ag}(h:(CS lo n)[i]?=Ab x):i<n/\x=.int (lo+(i:Ad)):=by
 have hl:=(AX.mp h).1;rw[LP]at hl;unfold CS at h;rw[DH,List.getElem?_range hl]at h;cases h;exact⟨hl,rfl⟩
noncomputable def Ss.take:Ag->Ss->Ss
 |0,_=>.nil
 |_,.nil=>.nil
 |n+1,.cons s ss=>.cons s (ss.take n)
noncomputable def Ss.drop:Ag->Ss->Ss
 |0,ss=>ss
 |_,.nil=>.nil
 |n+1,.cons _ ss=>ss.drop n
theorem Tn(Y:Gam):∀(n:Ag)(ss:Ss)(U:Rho),evSs Y U ss=F2 Y (ss.drop n) (evSs Y U (ss.take n))
 |0,_,_=>rfl
 |_+1,.nil,_=>rfl
 |n+1,.cons s ss,U=>by
  show (evS Y U s).seq (λU'=>evSs Y U' ss)=F2 Y (ss.drop n) ((evS Y U s).seq λU'=>evSs Y U' (ss.take n))
  cases evS Y U s with
  |next U'=>exact Tn Y n ss U'
  |_=>rfl
end Ov
end
section
namespace Ov
end Ov
end
section
namespace OvC
open PySem Ov PyProof.Rows
variable{j:Ad}
noncomputable abbrev scr(ns:Ac Ad):D:=.lst (ns.map .int)
noncomputable abbrev sh(d:D):Sl:=Ab (d,Af)
noncomputable abbrev si(i:Ad):Sl:=Ab (.int i,Af)
theorem four{P:Ag->Prop}(h0:P 0)(h1:P 1)(h2:P 2)(h3:P 3):P (j%4).toNat:=by
 have:(j%4).toNat=0\/(j%4).toNat=1\/(j%4).toNat=2\/(j%4).toNat=3:=by omega
 rcases this with e|e|e|e<;>rw[e]<;>assumption
def P4(p:Ad):Prop:=p=3\/p=5\/p=7\/p=11
theorem P4.pos{p}(h:P4 p):0<p:=by rcases h with rfl|rfl|rfl|rfl<;>decide
theorem P4.lo{p}(h:P4 p):3<=p:=by rcases h with rfl|rfl|rfl|rfl<;>decide
theorem P4.hi{p}(h:P4 p):p<=11:=by rcases h with rfl|rfl|rfl|rfl<;>decide
theorem HS{i:Ad}(h0:-18446744073709551616<i)(h1:i<18446744073709551616):DW i j=Aa:=by simp[DW];left;exact⟨h0,h1⟩
theorem M8{i:Ad}(h0:-18446744073709551616<j)(h1:j<18446744073709551616):DW i j=Aa:=by simp[DW];right;exact⟨h0,h1⟩
noncomputable def Qv:Df:=⟨2,Af,(.cons (.ret (.bin .Mod (.var 1) (.var 0))) .nil)⟩
def Iz(Y:Gam):Prop:=∀ p n:Ad,0<p->Y.F 1 [.int p,.int n]=.ok (.int (n%p))
theorem rH(Y:Gam)(p n:Ad)(h:0<p):Qv.run Y [.int p,.int n]=.ok (.int (n%p)):=by simp[Qv,Df.run,BJ,h]
end OvC
end
namespace Ov
open PySem PySem.Spec PyProof.Rows L2
variable{A B:Am->Prop}{H H' H1 H0:Hp}{a b l q:Am}{xs vs:Ac V}{v:V}{d:D}{Rp Rq:Hp->V->D->Prop}{r:R D}{Q:VK}{X:Cx}{e c tg iter elt:An}{U:Rho}{i n j k t':Ag}{x:Ex}{Z:L2.St}{g:D->D->R D}{op:DA}{K:Fg}{pI:Pn}{s:As}{its its2:Ac Ai}{items2 ys us acc items:AY Ai}{h h' h2:AJ}{u y f0:Ai}{es ifs:Ac An}{fs fi:Rho->R (Ac D)}{Q':Ap Ad->Hp->Prop}{p p2 pos pos' pos2 tpos:A7}{T:Dj}{f fc:Rho->R Aj}{α:Type}{Fz:Am->HO->Prop}{D':Ends}{as:D->Rho->R Rho}{up:Ag->Ac Ag}{prog P:AT}{w:AE}{o o1:Dg}{scope:Cq}{env:CU}{cl:Ac (Al×Am)}{N':Ac Al}{ts:Ac Ag}{fp:Ac Am}{tt:TT}{te:TE}{J:It}{wi:TI}{fe:Rho->R D}{P1 P2:Ag->Ai->Prop}{S1 S2:Ag->AJ->Prop}{t f1:Aj}{ta:TA}{ps:Ac (Am×Ac V)}
abbrev ClA:=Ag->Ap Am
variable{CL:ClA}
def KL(K:Fg)(a:Am)(xs:Ac V):Prop:=∃(o:Dg)(its:AY Ai)(n:Ag),K.lookup a=Ab o/\o.cls=.type "list"/\o.dict=Ae/\o.data=.seq its n/\its.size<=sizeLine/\Bi xs its.toList
def KT(K:Fg)(a:Am)(xs:Ac V):Prop:=∃(o:Dg)(its:AY Ai)(n:Ag),K.lookup a=Ab o/\o.cls=.type "tuple"/\o.data=.seq its n/\its.size<=sizeLine/\Bi xs its.toList
section
variable(K:Fg)(CL:ClA)(H:Hp)(A:Am->Prop)
mutual
def Rep:V->D->Prop
 |v,.non=>v=.non
 |v,.bl b=>v=.bl b
 |v,.int i=>v=.int i
 |v,.str x=>v=.str x
 |v,.tup ds=>∃ a xs,v=.ref a/\(¬ A a\/KT K a xs)/\SqT K H a xs/\Reps xs ds
 |v,.lst ds=>∃ a xs,v=.ref a/\(¬ A a\/KL K a xs)/\SqL K H a xs/\Reps xs ds
 |v,.obj c fs=>∃ a C dx vs,v=.ref a/\¬ A a/\CL c=Ab C/\H a=Ab (.ins C dx vs)/\Repf vs fs
 |_,.dic _=>Bz
 |v,.exc c fs=>∃ a C φ,v=.ref a/\¬ A a/\CL c=Ab C/\H a=Ab (.ext φ)/\(∀ h,φ h->∃ o,h.get? a=Ab o/\o.cls=.ref C)/\(fs=[]\/∃ dx vs,¬ A dx/\H dx=Ab (.xd vs)/\Repf vs fs/\∀ h,φ h->∃ o,h.get? a=Ab o/\o.dict=Ab dx/\∃ us,o.data=.fields us)
def Reps:Ac V->Ac D->Prop
 |[],[]=>GL
 |v::vs,d::ds=>Rep v d/\Reps vs ds
 |_,_=>Bz
def Repf:Ac (Al×V)->Ac (Al×D)->Prop
 |[],[]=>GL
 |v::vs,d::ds=>Repp v d/\Repf vs ds
 |_,_=>Bz
def Repp:Al×V->Al×D->Prop
 |v,(n,d)=>v.1=n/\Rep v.2 d
end
def Dh(v:V)(d:D):Prop:=Rep K CL H A v d\/∃ a xs ds,v=.ref a/\d=.lst ds/\H a=Ab (.lst xs)/\Reps K CL H A xs ds
end
def Kp(A:Am->Prop)(H H':Hp):Prop:=∀ b o,H b=Ab o->¬ A b->H' b=Ab o
def AOk(H:Hp)(A:Am->Prop):Prop:=∀ a,A a->∃ xs,H a=Ab (.lst xs)
theorem Kp.of(h:AM H H'):Kp A H H':=λb o e _=>h b o e
theorem AOk.same(h:AOk H A)(s:AM H H'):AOk H' A:=λa ha=>let ⟨xs,e⟩:=h a ha;⟨xs,s _ _ e⟩
theorem AOk.new{p:Am}(h:AOk H A)(e:H p=Ae):¬ A p:=λha=>by
 obtain⟨xs,q⟩:=h p ha;rw[e]at q;cases q
section
variable{K:Fg}{CL:ClA}{H H':Hp}{A B:Am->Prop}
theorem VS{u:HO}(k:Kp A H H')(na:¬ A a)(h:Rd H a u):Rd H' a u:=by
 rcases h with h|⟨o,h⟩
 .exact .inl (k _ _ h na)
 .exact .inr ⟨o,k _ _ h na⟩
theorem Nr(k:Kp A H H')(na:¬ A a\/KL K a xs)(h:SqL K H a xs):SqL K H' a xs:=na.elim (λna=>h.imp (VS k na) id) .inr
theorem Nq(k:Kp A H H')(na:¬ A a\/KT K a xs)(h:SqT K H a xs):SqT K H' a xs:=na.elim (λna=>h.imp (VS k na) id) .inr
mutual
theorem Rep.kp(k:Kp A H H'):∀{v:V}(d:D),Rep K CL H A v d->Rep K CL H' A v d
 |_,.non,h=>h
 |_,.bl _,h=>h
 |_,.int _,h=>h
 |_,.str _,h=>h
 |_,.dic _,h=>h.elim
 |_,.tup ds,h=>by
  obtain⟨a,xs,e,na,s,r⟩:=h;exact⟨a,xs,e,na,by first|exact Nq k na s|exact Nr k na s,Reps.kp k ds r⟩
 |_,.lst ds,h=>by
  obtain⟨a,xs,e,na,s,r⟩:=h;exact⟨a,xs,e,na,by first|exact Nq k na s|exact Nr k na s,Reps.kp k ds r⟩
 |_,.obj c fs,h=>by
  obtain⟨a,C,dx,vs,e,na,c,s,r⟩:=h;exact⟨a,C,dx,vs,e,na,c,k _ _ s na,Repf.kp k fs r⟩
 |_,.exc c fs,h=>by
  obtain⟨a,C,φ,e,na,c,s,p,q⟩:=h;refine⟨a,C,φ,e,na,c,k _ _ s na,p,q.imp id ?_⟩;rintro⟨dx,vs,nx,s2,r,z⟩;exact⟨dx,vs,nx,k _ _ s2 nx,Repf.kp k fs r,z⟩
theorem Reps.kp(k:Kp A H H'):∀{vs:Ac V}(ds:Ac D),Reps K CL H A vs ds->Reps K CL H' A vs ds
 |[],[],h=>h
 |_::_,d::ds,h=>⟨Rep.kp k d h.1,Reps.kp k ds h.2⟩
 |[],_::_,h=>h.elim
 |_::_,[],h=>h.elim
theorem Repf.kp(k:Kp A H H'):∀{vs:Ac (Al×V)}(ds:Ac (Al×D)),Repf K CL H A vs ds->Repf K CL H' A vs ds
 |[],[],h=>h
 |_::_,d::ds,h=>⟨Repp.kp k d h.1,Repf.kp k ds h.2⟩
 |[],_::_,h=>h.elim
 |_::_,[],h=>h.elim
theorem Repp.kp(k:Kp A H H'):∀{v:Al×V}(d:Al×D),Repp K CL H A v d->Repp K CL H' A v d
 |_,(_,d),h=>⟨h.1,Rep.kp k d h.2⟩
end
mutual
theorem Rep.sub(k:∀ a,B a->A a):∀{v:V}(d:D),Rep K CL H A v d->Rep K CL H B v d
 |_,.non,h=>h
 |_,.bl _,h=>h
 |_,.int _,h=>h
 |_,.str _,h=>h
 |_,.dic _,h=>h.elim
 |_,.tup ds,h=>by
  obtain⟨a,xs,e,na,s,r⟩:=h;exact⟨a,xs,e,na.imp (λna z=>na (k _ z)) id,s,Reps.sub k ds r⟩
 |_,.lst ds,h=>by
  obtain⟨a,xs,e,na,s,r⟩:=h;exact⟨a,xs,e,na.imp (λna z=>na (k _ z)) id,s,Reps.sub k ds r⟩
 |_,.obj c fs,h=>by
  obtain⟨a,C,dx,vs,e,na,c,s,r⟩:=h;exact⟨a,C,dx,vs,e,λz=>na (k _ z),c,s,Repf.sub k fs r⟩
 |_,.exc c fs,h=>by
  obtain⟨a,C,φ,e,na,c,s,p,q⟩:=h;refine⟨a,C,φ,e,λz=>na (k _ z),c,s,p,q.imp id ?_⟩
  rintro⟨dx,vs,nx,s2,r,z⟩;exact⟨dx,vs,λz=>nx (k _ z),s2,Repf.sub k fs r,z⟩
theorem Reps.sub(k:∀ a,B a->A a):∀{vs:Ac V}(ds:Ac D),Reps K CL H A vs ds->Reps K CL H B vs ds
 |[],[],h=>h
 |_::_,d::ds,h=>⟨Rep.sub k d h.1,Reps.sub k ds h.2⟩
 |[],_::_,h=>h.elim
 |_::_,[],h=>h.elim
theorem Repf.sub(k:∀ a,B a->A a):∀{vs:Ac (Al×V)}(ds:Ac (Al×D)),Repf K CL H A vs ds->Repf K CL H B vs ds
 |[],[],h=>h
 |_::_,d::ds,h=>⟨Repp.sub k d h.1,Repf.sub k ds h.2⟩
 |[],_::_,h=>h.elim
 |_::_,[],h=>h.elim
theorem Repp.sub(k:∀ a,B a->A a):∀{v:Al×V}(d:Al×D),Repp K CL H A v d->Repp K CL H B v d
 |_,(_,d),h=>⟨h.1,Rep.sub k d h.2⟩
end
mutual
theorem Rep.wide(hp:∀ a,B a->A a\/H a=Ae):∀{v:V}(d:D),Rep K CL H A v d->Rep K CL H B v d
 |_,.non,h=>h
 |_,.bl _,h=>h
 |_,.int _,h=>h
 |_,.str _,h=>h
 |_,.dic _,h=>h.elim
 |_,.tup ds,h=>by
  obtain⟨a,xs,e,na,s,r⟩:=h;refine⟨a,xs,e,?_,s,Reps.wide hp ds r⟩;rcases s with s|s
  .refine na.imp (λna z=>(hp _ z).elim na λe=>?_) id
   rcases s with s|⟨o,s⟩<;>rw[e]at s<;>cases s
  .exact .inr s
 |_,.lst ds,h=>by
  obtain⟨a,xs,e,na,s,r⟩:=h;refine⟨a,xs,e,?_,s,Reps.wide hp ds r⟩;rcases s with s|s
  .refine na.imp (λna z=>(hp _ z).elim na λe=>?_) id
   rcases s with s|⟨o,s⟩<;>rw[e]at s<;>cases s
  .exact .inr s
 |_,.obj c fs,h=>by
  obtain⟨a,C,dx,vs,e,na,c,s,r⟩:=h;exact⟨a,C,dx,vs,e,(λz=>(hp _ z).elim na λe=>by rw[e]at s;cases s),c,s,Repf.wide hp fs r⟩
 |_,.exc c fs,h=>by
  obtain⟨a,C,φ,e,na,c,s,p,q⟩:=h;refine⟨a,C,φ,e,(λz=>(hp _ z).elim na λe=>by rw[e]at s;cases s),c,s,p,q.imp id ?_⟩
  rintro⟨dx,vs,nx,s2,r,z⟩;exact⟨dx,vs,(λz=>(hp _ z).elim nx λe=>by rw[e]at s2;cases s2),s2,Repf.wide hp fs r,z⟩
theorem Reps.wide(hp:∀ a,B a->A a\/H a=Ae):∀{vs:Ac V}(ds:Ac D),Reps K CL H A vs ds->Reps K CL H B vs ds
 |[],[],h=>h
 |_::_,d::ds,h=>⟨Rep.wide hp d h.1,Reps.wide hp ds h.2⟩
 |[],_::_,h=>h.elim
 |_::_,[],h=>h.elim
theorem Repf.wide(hp:∀ a,B a->A a\/H a=Ae):∀{vs:Ac (Al×V)}(ds:Ac (Al×D)),Repf K CL H A vs ds->Repf K CL H B vs ds
 |[],[],h=>h
 |_::_,d::ds,h=>⟨Repp.wide hp d h.1,Repf.wide hp ds h.2⟩
 |[],_::_,h=>h.elim
 |_::_,[],h=>h.elim
theorem Repp.wide(hp:∀ a,B a->A a\/H a=Ae):∀{v:Al×V}(d:Al×D),Repp K CL H A v d->Repp K CL H B v d
 |_,(_,d),h=>⟨h.1,Rep.wide hp d h.2⟩
end
theorem Rep.same(s:AM H H')(h:Rep K CL H A v d):Rep K CL H' A v d:=Rep.kp (Kp.of s) d h
theorem Reps.same{v:Ac V}{d:Ac D}(s:AM H H')(h:Reps K CL H A v d):Reps K CL H' A v d:=Reps.kp (Kp.of s) d h
theorem Dh.same{v:V}{d:D}(s:AM H H')(h:Dh K CL H A v d):Dh K CL H' A v d:=by
 rcases h with h|⟨a,xs,ds,e,e2,q,r⟩
 .exact .inl (h.same s)
 .exact .inr ⟨a,xs,ds,e,e2,s _ _ q,r.same s⟩
theorem Reps.length:∀{vs:Ac V}{ds:Ac D},Reps K CL H A vs ds->vs.length=ds.length
 |[],[],_=>rfl
 |_::_,_::_,h=>congrArg (· + 1) (Reps.length h.2)
 |[],_::_,h=>h.elim
 |_::_,[],h=>h.elim
theorem Reps.append:∀{vs ws:Ac V}{ds es:Ac D},Reps K CL H A vs ds->Reps K CL H A ws es->Reps K CL H A (vs++ws) (ds++es)
 |[],_,[],_,_,h=>h
 |_::_,_,_::_,_,h,g=>⟨h.1,Reps.append h.2 g⟩
 |[],_,_::_,_,h,_=>h.elim
 |_::_,_,[],_,h,_=>h.elim
theorem Reps.get:∀{vs:Ac V}{ds:Ac D}{i:Ag}{d:D},Reps K CL H A vs ds->ds[i]?=Ab d->∃ v,vs[i]?=Ab v/\Rep K CL H A v d
 |[],[],_,_,_,e=>by simp at e
 |v::_,_::_,0,_,h,e=>by simp at e;subst e;exact⟨v,rfl,h.1⟩
 |_::_,_::_,i+1,_,h,e=>by
  obtain⟨v,q,r⟩:=Reps.get (i:=i) h.2 (by simpa using e)
  exact⟨v,by simpa using q,r⟩
 |[],_::_,_,_,h,_=>h.elim
 |_::_,[],_,_,h,_=>h.elim
theorem Reps.take:∀{vs:Ac V}{ds:Ac D}(n:Ag),Reps K CL H A vs ds->Reps K CL H A (vs.take n) (ds.take n)
 |_,_,0,_=>trivial
 |[],[],_+1,_=>trivial
 |_::_,_::_,n+1,h=>⟨h.1,Reps.take n h.2⟩
 |[],_::_,_+1,h=>h.elim
 |_::_,[],_+1,h=>h.elim
theorem Reps.drop:∀{vs:Ac V}{ds:Ac D}(n:Ag),Reps K CL H A vs ds->Reps K CL H A (vs.drop n) (ds.drop n)
 |_,_,0,h=>h
 |[],[],_+1,_=>trivial
 |_::_,_::_,n+1,h=>Reps.drop n h.2
 |[],_::_,_+1,h=>h.elim
 |_::_,[],_+1,h=>h.elim
theorem Reps.set{x:V}{e:D}(r:Rep K CL H A x e):∀{vs:Ac V}{ds:Ac D}(n:Ag),Reps K CL H A vs ds->Reps K CL H A (vs.set n x) (ds.set n e)
 |[],[],_,_=>trivial
 |_::_,_::_,0,h=>⟨r,h.2⟩
 |_::_,_::_,n+1,h=>⟨h.1,Reps.set r n h.2⟩
 |[],_::_,_,h=>h.elim
 |_::_,[],_,h=>h.elim
end
structure Good (K:Fg) (CL:ClA) (A:Am->Prop) (U:Rho) (Z:L2.St) (H:Hp):Prop where
 sh:∀(i:Ag)(d:D),U[i]?=Ab (Ab (d,Af))->∃ v,Z[i]?=Ab (Ab v)/\Rep K CL H A v d
 ow:∀(i:Ag)(d:D),U[i]?=Ab (Ab (d,Aa))->∃ a xs ds,Z[i]?=Ab (Ab (.ref a))/\d=.lst ds/\A a/\H a=Ab (.lst xs)/\Reps K CL H A xs ds
 len:U.length=Z.length
theorem Good.same{K:Fg}{CL:ClA}{A:Am->Prop}{U:Rho}{Z:L2.St}{H H':Hp}(g:Good K CL A U Z H)(s:AM H H'):Good K CL A U Z H':=
 ⟨λi d e=>let ⟨v,q,r⟩:=g.sh i d e;⟨v,q,r.same s⟩,λi d e=>let ⟨a,xs,ds,q,z,na,h,r⟩:=g.ow i d e;⟨a,xs,ds,q,z,na,s _ _ h,r.same s⟩,g.len⟩
abbrev XW:=Ex->Hp->Prop
variable{W:XW}
def Br(Rp:Hp->V->D->Prop)(W:XW)(H:Hp)(r:R D)(Q:VK):Prop:=match r with
  |.ok d=>∀ v H',AM H H'->Rp H' v d->Q v H'
  |.exn x=>∀ H',AM H H'->W x H'
  |.bad=>Bz
def HZ(Rp:Hp->Ac V->Ac D->Prop)(W:XW)(H:Hp)(r:R (Ac D))(Q:Ac V->Hp->Prop):Prop:=match r with
  |.ok d=>∀ v H',AM H H'->Rp H' v d->Q v H'
  |.exn x=>∀ H',AM H H'->W x H'
  |.bad=>Bz
def Du(W:XW)(H:Hp)(r:R Aj)(Q:Aj->Hp->Prop):Prop:=match r with
  |.ok b=>∀ H',AM H H'->Q b H'
  |.exn x=>∀ H',AM H H'->W x H'
  |.bad=>Bz
theorem Br.same(s:AM H H')(h:Br Rp W H r Q):Br Rp W H' r Q:=by
 cases r with
 |ok d=>exact λv H2 s2 q=>h v H2 (s.trans s2) q
 |exn x=>exact λH2 s2=>h H2 (s.trans s2)
 |bad=>exact h
theorem Du.same{r:R Aj}{Q:Aj->Hp->Prop}(s:AM H H')(h:Du W H r Q):Du W H' r Q:=by
 cases r with
 |ok d=>exact λH2 s2=>h H2 (s.trans s2)
 |exn x=>exact λH2 s2=>h H2 (s.trans s2)
 |bad=>exact h
theorem Br.bind{f:D->R D}{Q':VK}(h:Br Rq W H (r.bind f) Q)(k:∀ d v H',r=.ok d->AM H H'->Rp H' v d->Br Rq W H' (f d) Q->Q' v H'):Br Rp W H r Q':=by
 cases r with
 |ok d=>exact λv H2 s2 q=>k d v H2 rfl s2 q (Br.same s2 h)
 |exn x=>exact h
 |bad=>exact h
section
variable(X:Cx)(CL:ClA)(W:XW)
def SE(e:An)(f:Rho->R D):Prop:=∀ A,PE X e (λZ H Q=>AOk H A/\∃ U,Good X.K CL A U Z H/\Br (λH=>Rep X.K CL H A) W H (f U) Q)
def ST(e:An)(f:Rho->R D):Prop:=∀ A,PE X e (λZ H Q=>AOk H A/\∃ U,Good X.K CL A U Z H/\Br (λH=>Dh X.K CL H A) W H (f U) Q)
def SB(e:An)(f:Rho->R Aj):Prop:=∀ A,PT X e (λZ H Q=>AOk H A/\∃ U,Good X.K CL A U Z H/\Du W H (f U) Q)
def SA(es:Ac An)(f:Rho->R (Ac D)):Prop:=∀ A,PA X es (λZ H Q=>AOk H A/\∃ U,Good X.K CL A U Z H/\HZ (λH=>Reps X.K CL H A) W H (f U) Q)
end
theorem PE.weak{t t':TE}(h:PE X e t)(k:∀ Z H Q,t' Z H Q->t Z H Q):PE X e t':=λpI s Z H Q I q=>h pI s Z H Q I (k _ _ _ q)
theorem PT.weak{t t':TT}(h:PT X e t)(k:∀ Z H Q,t' Z H Q->t Z H Q):PT X e t':=λpI s Z H Q I q=>h pI s Z H Q I (k _ _ _ q)
theorem PA.weak{e:Ac An}{t t':TA}(h:PA X e t)(k:∀ Z H Q,t' Z H Q->t Z H Q):PA X e t':=λpos pI s Z H Q I q=>h pos pI s Z H Q I (k _ _ _ q)
noncomputable def OpD(X:Cx)(CL:ClA)(W:XW)(f:Ai->Ai->Hh Ai)(g:D->D->R D):Prop:=
 ∀ A,OpR X f (λx y H Q=>AOk H A/\∃ dx dy,Dh X.K CL H A x dx/\Dh X.K CL H A y dy/\Br (λH=>Rep X.K CL H A) W H (g dx dy) Q)
section
variable{X:Cx}{CL:ClA}{W:XW}{a b c:An}{fa fb fc:Rho->R D}{pos:A7}
theorem SE.st(h:SE X CL W a fa):ST X CL W a fa:=λA=>PE.weak (h A) λZ H Q ⟨hA,U,g,p⟩=>⟨hA,U,g,by
 cases e:fa U with
 |ok d=>rw[e]at p;exact λv H' s r=>p v H' s (.inl r)
 |exn x=>rw[e]at p;exact p
 | bad=>rw[e]at p;exact p⟩
theorem SE.congr{f g:Rho->R D}(h:SE X CL W a f)(e:∀ U,g U=f U):SE X CL W a g:=λA=>PE.weak (h A) λZ H Q ⟨hA,U,q,p⟩=>⟨hA,U,q,by rw[<-e];exact p⟩
theorem NO(h:PE X a (tC v))(r:∀ H A,AOk H A->Rep X.K CL H A v d):SE X CL W a (λ_=>.ok d):=λA=>PE.weak h λZ H Q ⟨hA,U,g,p⟩=>p v H (AM.refl H) (r H A hA)
theorem pK{i j}:SE X CL W (.Constant (.int i) j pos) (λ_=>.ok (.int i)):=NO rE λ_ _ _=>rfl
theorem yQ{b j}:SE X CL W (.Constant (.bool b) j pos) (λ_=>.ok (.bl b)):=NO ah λ_ _ _=>rfl
theorem pF{j}:SE X CL W (.Constant .none j pos) (λ_=>.ok .non):=NO rB λ_ _ _=>rfl
theorem pA{x j}:SE X CL W (.Constant (.str x) j pos) (λ_=>.ok (.str x)):=NO qX λ_ _ _=>rfl
theorem iH(h:F1 U i=.ok d):U[i]?=Ab (Ab (d,Af)):=by
 unfold F1 at h;split at h
 .rename_i e;cases h;exact e
 .cases h
theorem Uh(h:EE U i=.ok d):∃ o,U[i]?=Ab (Ab (d,o)):=by
 unfold EE at h;split at h
 .rename_i e;cases h;exact⟨_,e⟩
 .cases h
theorem bG(h:F1 U i=.exn x):Bz:=by
 unfold F1 at h;split at h<;>cases h
theorem Ua(h:EE U i=.exn x):Bz:=by
 unfold EE at h;split at h<;>cases h
theorem oY(h:PE X a (GP i)):SE X CL W a (λU=>F1 U i):=λA=>PE.weak h λZ H Q ⟨hA,U,g,p⟩=>by
 dsimp only at p;cases e:F1 U i with
 |ok d=>
  rw[e]at p;obtain⟨v,q,r⟩:=g.sh i d (iH e);exact⟨v,q,p v H (AM.refl H) r⟩
 |exn x=>exact(bG e).elim
 |bad=>rw[e]at p;exact p.elim
theorem pV(h:PE X a (GP i)):ST X CL W a (λU=>EE U i):=λA=>PE.weak h λZ H Q ⟨hA,U,g,p⟩=>by
 dsimp only at p;cases e:EE U i with
 |ok d=>
  rw[e]at p;obtain⟨o,e⟩:=Uh e;cases o with
  |false=>
   obtain⟨v,q,r⟩:=g.sh i d e;exact⟨v,q,p v H (AM.refl H) (.inl r)⟩
  |true=>
   obtain⟨x,xs,ds,q,rfl,ha,hh,r⟩:=g.ow i d e;exact⟨_,q,p _ H (AM.refl H) (.inr ⟨x,xs,ds,rfl,rfl,hh,r⟩)⟩
 |exn x=>exact(Ua e).elim
 |bad=>rw[e]at p;exact p.elim
theorem op2(h:AOk H A/\∃ U,Good X.K CL A U Z H/\Br Rq W H ((fa U).bind λx=>(fb U).bind λy=>g x y) Q):AOk H A/\∃ U,Good X.K CL A U Z H/\Br (λH=>Dh X.K CL H A) W H (fa U) (λx H1=>AOk H1 A/\∃ U,Good X.K CL A U Z H1/\Br (λH=>Dh X.K CL H A) W H1 (fb U) (λy H2=>AOk H2 A/\∃ dx dy,Dh X.K CL H2 A x dx/\Dh X.K CL H2 A y dy/\Br Rq W H2 (g dx dy) Q)):=by
 obtain⟨hA,U,gd,p⟩:=h;refine⟨hA,U,gd,Br.bind p λdx x H1 _ s1 r1 p1=>⟨hA.same s1,U,gd.same s1,Br.bind p1 λdy y H2 _ s2 r2 p2=>⟨(hA.same s1).same s2,dx,dy,r1.same s2,r2,p2⟩⟩⟩
theorem Vp{op:Ge}(ho:OpD X CL W (Ct op) g)(ha:ST X CL W a fa)(hb:ST X CL W b fb):SE X CL W (.BinOp a op b pos) (λU=>(fa U).bind λx=>(fb U).bind λy=>g x y):=
 λA=>PE.weak (VQ (ho A) (ha A) (hb A)) λZ H Q h=>op2 h
theorem sN(ho:OpD X CL W (CW op) g)(ha:ST X CL W a fa)(hb:ST X CL W b fb)(hm:Hi op b=Af):SE X CL W (.Compare a [op] [b] pos) (λU=>(fa U).bind λx=>(fb U).bind λy=>g x y):=
 λA=>PE.weak (jC (ho A) (ha A) (hb A) hm) λZ H Q h=>op2 h
theorem Dh.int_of{i:Ad}(h:Dh K CL H A v (.int i)):v=.int i:=by
 rcases h with h|⟨_,_,_,_,e,_⟩
 .exact h
 .cases e
theorem Dh.str_of{i:Al}(h:Dh K CL H A v (.str i)):v=.str i:=by
 rcases h with h|⟨_,_,_,_,e,_⟩
 .exact h
 .cases e
theorem Dh.bl_of{i:Aj}(h:Dh K CL H A v (.bl i)):v=.bl i:=by
 rcases h with h|⟨_,_,_,_,e,_⟩
 .exact h
 .cases e
theorem Dh.non_of(h:Dh K CL H A v .non):v=.non:=by
 rcases h with h|⟨_,_,_,_,e,_⟩
 .exact h
 .cases e
theorem Dh.lst_of{ds:Ac D}(h:Dh K CL H A v (.lst ds)):∃ a xs,v=.ref a/\SqL K H a xs/\Reps K CL H A xs ds:=by
 rcases h with ⟨a,xs,e,_,s,r⟩|⟨a,xs,es,rfl,e,s,r⟩
 .exact⟨a,xs,e,s,r⟩
 .cases e;exact⟨a,xs,rfl,SqL.of s,r⟩
theorem Dh.tup_of{ds:Ac D}(h:Dh K CL H A v (.tup ds)):∃ a xs,v=.ref a/\(¬ A a\/KT K a xs)/\SqT K H a xs/\Reps K CL H A xs ds:=by
 rcases h with ⟨a,xs,e,n,s,r⟩|⟨_,_,_,_,e,_⟩
 .exact⟨a,xs,e,n,s,r⟩
 .cases e
theorem mI{i j:Ad}(h:DW i j=Aa):Od i j:=by
 unfold DW at h;simp only[C3,Aq,Bl]at h;unfold Od;omega
theorem UL{a:Ad}(h:a.natAbs<2 ^ 2000):W6 a<=2 ^ 20:=by
 unfold W6;split
 .omega
 .rename_i hz;have h0:a.natAbs≠0:=by intro z;exact hz (by rw[Int.natAbs_eq_zero.mp z];rfl)
  have:=(Nat.log2_lt h0).mpr h;omega
theorem mH{i j:Ad}(h:(DW i j||EO i j)=Aa):LD i j:=by
 rcases Bool.or_eq_true_iff.mp h with h|h
 .exact(mI h).ok
 .unfold EO at h;rw[Aq,Bl,Bl]at h;exact .of_bits (UL h.1) (UL h.2)
theorem jO:OpR X (Ct .Mult) (rI LD λi j=>.int (i*j)):=opI λ_ _ _ _ _ _ _ hc q=>mul_int q hc
theorem IZ(h:Di n=Aa):n<=sizeLine:=by
 unfold Di at h;rw[DT];have:=EV h;omega
theorem PF{p:Am}{ds:Ac D}(hA:AOk H A)(hp:H p=Ae)(r:Reps K CL H A xs ds):Rep K CL (upd H p (.lst xs)) A (.ref p) (.lst ds):=
 ⟨p,xs,rfl,.inl (hA.new hp),SqL.of Ix,r.same λb o e=>by rw[Dl (Gf e hp)];exact e⟩
theorem KZ{p:Am}{ds:Ac D}(hA:AOk H A)(hp:H p=Ae)(r:Reps K CL H A xs ds):Rep K CL (upd H p (.tup xs)) A (.ref p) (.tup ds):=
 ⟨p,xs,rfl,.inl (hA.new hp),SqT.of Ix,r.same λb o e=>by rw[Dl (Gf e hp)];exact e⟩
theorem FE{p:Am}(h:H p=Ae)(o:HO):AM H (upd H p o):=λb u q=>by rw[Dl (Gf q h)];exact q
def xH(K:Fg):R2:=λx y H Q=>∃ l b xs zs,x=.ref l/\y=.ref b/\SqL K H l xs/\SqL K H b zs/\xs.length+zs.length<=sizeLine/\∀ p,H p=Ae->Q (.ref p) (upd H p (.lst (xs++zs)))
end
section
variable{X:Cx}{CL:ClA}{W:XW}
theorem Uy:OpR X (Ct .Add) (xH X.K):=by
 intro pI s Z H x y v u Q I rx ry h;obtain⟨l,b,xs,zs,rfl,rfl,hH,hB,hz,q⟩:=h;cases rx;cases ry;obtain⟨its,r,⟨o,n,e,c,dd,dt⟩,z⟩:=I.list hH;obtain⟨its2,r2,⟨o2,n2,e2,c2,dd2,dt2⟩,z2⟩:=I.list hB;have hl:=r.length;have hl2:=r2.length;obtain⟨cls,dd0,data,sl⟩:=o;obtain⟨cls2,dd02,data2,sl2⟩:=o2;simp only at c dd dt c2 dd2 dt2;subst c dd dt c2 dd2 dt2;have ea:its.toArray++its2.toArray=(its++its2).toArray:=by simp
 refine Jy ⟨_,e,rfl⟩ ⟨_,e2,rfl⟩ noFill_list_add seq_list_add PySem.F.slot_list_add PySem.F.entry_list_add (PySem.F.args_list_add_2 _ _) (list_addW l b its.toArray its2.toArray n n2 Ae Ae sl sl2 (by simp;omega)) ⟨e,e2,?_⟩
 rw[ea];exact⟨.ref _,_,I.lnew (t':=s.toks) (r.append r2) (by rw[Ch];omega),rfl,q _ I.fresh⟩
theorem Ux:OpD X CL W (Ct .Add) (C1 .Add):=by
 intro A pI s Z H x y v u Q I rx ry ⟨hA,dx,dy,hx,hy,p⟩;cases dx with
 |int i=>
  cases dy with
  |int j=>
   have ex:=hx.int_of;have ey:=hy.int_of
   subst ex ey;exact uN pI s Z H _ _ v u Q I rx ry ⟨i,j,rfl,rfl,p _ H (AM.refl H) rfl⟩
  |_=>exact p.elim
 |str i=>
  cases dy with
  |str j=>
   have ex:=hx.str_of;have ey:=hy.str_of
   subst ex ey;simp only[VF]at p;split at p
   .rename_i h;exact aE pI s Z H _ _ v u Q I rx ry ⟨i,j,rfl,rfl,IZ h,p _ H (AM.refl H) rfl⟩
   .exact p.elim
  |_=>exact p.elim
 |lst ds=>
  cases dy with
  |lst es=>
   obtain⟨a,xs,rfl,s1,r1⟩:=hx.lst_of;obtain⟨b,ys,rfl,s2,r2⟩:=hy.lst_of;simp only[VG]at p;split at p
   .rename_i h;refine Uy pI s Z H _ _ v u Q I rx ry ⟨a,b,xs,ys,rfl,rfl,s1,s2,by rw[r1.length,r2.length];exact IZ h,λq hq=>?_⟩
    exact p _ _ (FE hq _) (PF hA hq (r1.append r2))
   .exact p.elim
  |_=>exact p.elim
 |tup ds=>
  cases dy with
  |tup es=>
   obtain⟨a,xs,rfl,na1,s1,r1⟩:=hx.tup_of;obtain⟨b,ys,rfl,_,s2,r2⟩:=hy.tup_of;simp only[VE]at p;split at p
   .rename_i h;simp only[Aq]at h;refine jQ pI s Z H _ _ v u Q I rx ry ⟨a,b,xs,ys,rfl,rfl,s1,s2,?_,by rw[r1.length,r2.length];exact IZ h.2,λhy0=>?_,λ_ q hq=>?_⟩
    .rintro rfl;cases ds with
     |nil=>cases h.1
     |cons _ _=>exact r1.elim
    .subst hy0;cases es with
     |nil=>rw[Do]at p;exact p _ H (AM.refl H) ⟨a,xs,rfl,na1,s1,r1⟩
     |cons _ _=>exact r2.elim
    .exact p _ _ (FE hq _) (KZ hA hq (r1.append r2))
   .exact p.elim
  |_=>exact p.elim
 |_=>exact p.elim
theorem M7{op:Ge}{C:Ad->Ad->Prop}{g:Ad->Ad->Ad}(ho:OpR X (Ct op) (rI C λi j=>.int (g i j)))(hg:∀ dx dy,(∃ i j,dx=.int i/\dy=.int j/\((C i j/\C1 op dx dy=.ok (.int (g i j)))\/C1 op dx dy=.bad))\/C1 op dx dy=.bad):OpD X CL W (Ct op) (C1 op):=by
 intro A pI s Z H x y v u Q I rx ry ⟨hA,dx,dy,hx,hy,p⟩;rcases hg dx dy with ⟨i,j,rfl,rfl,⟨c,e⟩|e⟩|e
 .have ex:=hx.int_of;have ey:=hy.int_of
  subst ex ey;rw[e]at p;exact ho pI s Z H _ _ v u Q I rx ry ⟨i,j,rfl,rfl,c,p _ H (AM.refl H) rfl⟩
 .rw[e]at p;exact p.elim
 .rw[e]at p;exact p.elim
theorem jJ:OpD X CL W (Ct .Sub) (C1 .Sub):=by
 intro A pI s Z H x y v u Q I rx ry ⟨hA,dx,dy,hx,hy,p⟩;cases dx with
 |int i=>
  cases dy with
  |int j=>
   have ex:=hx.int_of;have ey:=hy.int_of
   subst ex ey;exact uJ pI s Z H _ _ v u Q I rx ry ⟨i,j,rfl,rfl,p _ H (AM.refl H) rfl⟩
  |_=>exact p.elim
 |_=>exact p.elim
theorem jL:OpD X CL W (Ct .Mult) (C1 .Mult):=M7 jO λdx dy=>by
 cases dx with
 |int i=>
  cases dy with
  |int j=>
   refine .inl ⟨i,j,rfl,rfl,?_⟩;rw[uQ];split
   .rename_i h;exact .inl ⟨mH h,rfl⟩
   .exact .inr rfl
  |_=>exact .inr rfl
 |_=>exact .inr rfl
theorem cX:OpD X CL W (Ct .FloorDiv) (C1 .FloorDiv):=M7 jP λdx dy=>by
 cases dx with
 |int i=>
  cases dy with
  |int j=>
   refine .inl ⟨i,j,rfl,rfl,?_⟩;rw[lL];split
   .rename_i h;exact .inl ⟨h,rfl⟩
   .exact .inr rfl
  |_=>exact .inr rfl
 |_=>exact .inr rfl
theorem jM:OpD X CL W (Ct .Mod) (C1 .Mod):=M7 uL λdx dy=>by
 cases dx with
 |int i=>
  cases dy with
  |int j=>
   refine .inl ⟨i,j,rfl,rfl,?_⟩;rw[uR];split
   .rename_i h;exact .inl ⟨h,rfl⟩
   .exact .inr rfl
  |_=>exact .inr rfl
 |_=>exact .inr rfl
theorem jK:OpD X CL W (Ct .Pow) (C1 .Pow):=M7 uK λdx dy=>by
 cases dx with
 |int i=>
  cases dy with
  |int j=>
   refine .inl ⟨i,j,rfl,rfl,?_⟩;rw[sE];split
   .rename_i h;exact .inl ⟨⟨h.1.1,h.1.2,by omega⟩,rfl⟩
   .exact .inr rfl
  |_=>exact .inr rfl
 |_=>exact .inr rfl
theorem Uw(op:Ge):OpD X CL W (Ct op) (C1 op):=by
 cases op with
 |Add=>exact Ux
 |Sub=>exact jJ
 |Mult=>exact jL
 |FloorDiv=>exact cX
 |Mod=>exact jM
 |Pow=>exact jK
 |_=>
  intro A pI s Z H x y v u Q I rx ry ⟨hA,dx,dy,hx,hy,p⟩;exact p.elim
noncomputable abbrev A0:Am->Prop:=λ_=>Bz
theorem Dh.plain(h:Dh K CL H A v d):Rep K CL H A0 v d:=by
 rcases h with h|⟨a,xs,ds,rfl,rfl,e,r⟩
 .exact Rep.sub (λ_ z=>z.elim) d h
 .exact⟨a,xs,rfl,.inl λz=>z.elim,SqL.of e,Reps.sub (λ_ z=>z.elim) ds r⟩
mutual
theorem M2:∀(n:Ag)(d:D),flD n d=Aa->eqD d d=Aa
 |_,.non,_=>rfl
 |_,.bl b,_=>by simp
 |_,.int i,_=>by simp
 |_,.str x,_=>by simp
 |n+1,.tup ds,h=>by
  show eqDs ds ds=Aa;exact eqDs_refl n ds h
 |n+1,.lst ds,h=>by
  show eqDs ds ds=Aa;exact eqDs_refl n ds h
 |0,.tup ds,h=>by cases h
 |0,.lst ds,h=>by cases h
 |n,.obj _ _,h=>by cases n<;>cases h
 |n,.exc _ _,h=>by cases n<;>cases h
 |n,.dic _,h=>by cases n<;>cases h
theorem eqDs_refl:∀(n:Ag)(ds:Ac D),ds.all (flD n)=Aa->eqDs ds ds=Aa
 |_,[],_=>rfl
 |n,d::ds,h=>by
  simp only[Hg,Aq]at h;simp only[Pf,Aq];exact⟨M2 n d h.1,eqDs_refl n ds h.2⟩
end
theorem Sz{ys:Ac V}(I:Inv X pI Z H s)(h:SqL X.K H a xs)(h':SqT X.K H a ys):Bz:=by
 obtain⟨its,r,⟨o,n,e,c,_,_⟩,_⟩:=I.list h;obtain⟨its',r',⟨o',e',c',_⟩,_⟩:=I.tuple h';rw[e]at e';cases e';rw[c]at c'
 injection c' with z
 exact absurd z (by decide)
mutual
theorem Ng{pI:Pn}{Z:L2.St}{H:Hp}{s:As}(I:Inv X pI Z H s):∀(n:Ag)(d e:D){v:V},flD n d=Aa->flD n e=Aa->Rep X.K CL H A0 v d->Rep X.K CL H A0 v e->d=e
 |n,.tup ds,e,v,hd,he,r,q=>by
  obtain⟨a,xs,rfl,_,s1,r1⟩:=r;cases e with
  |tup es=>
   obtain⟨b,ys,e,_,s2,r2⟩:=q;cases e;have z:=I.tuple_inj s1 s2;subst z;cases n with
   |zero=>cases hd
   |succ n=>rw[reps_inj I n ds es hd he r1 r2]
  |lst es=>
   obtain⟨b,ys,e,_,s2,r2⟩:=q;cases e;exact(Sz I s2 s1).elim
  |obj=>cases n<;>cases he
  |exc=>cases n<;>cases he
  |dic=>cases n<;>cases he
  |_=>cases q
 |n,.lst ds,e,v,hd,he,r,q=>by
  obtain⟨a,xs,rfl,_,s1,r1⟩:=r;cases e with
  |lst es=>
   obtain⟨b,ys,e,_,s2,r2⟩:=q;cases e;have z:=I.list_inj s1 s2;subst z;cases n with
   |zero=>cases hd
   |succ n=>rw[reps_inj I n ds es hd he r1 r2]
  |tup es=>
   obtain⟨b,ys,e,_,s2,r2⟩:=q;cases e;exact(Sz I s1 s2).elim
  |obj=>cases n<;>cases he
  |exc=>cases n<;>cases he
  |dic=>cases n<;>cases he
  |_=>cases q
 |n,.obj _ _,e,v,hd,he,r,q=>by cases n<;>cases hd
 |n,.exc _ _,e,v,hd,he,r,q=>by cases n<;>cases hd
 |n,.dic _,e,v,hd,he,r,q=>by cases n<;>cases hd
 |n,.non,e,v,hd,he,r,q=>by
  cases r;cases e with
  |tup=>obtain⟨_,_,z,_⟩:=q;cases z
  |lst=>obtain⟨_,_,z,_⟩:=q;cases z
  |obj=>cases n<;>cases he
  |exc=>cases n<;>cases he
  |dic=>cases n<;>cases he
  |_=>cases q<;>rfl
 |n,.bl b,e,v,hd,he,r,q=>by
  cases r;cases e with
  |tup=>obtain⟨_,_,z,_⟩:=q;cases z
  |lst=>obtain⟨_,_,z,_⟩:=q;cases z
  |obj=>cases n<;>cases he
  |exc=>cases n<;>cases he
  |dic=>cases n<;>cases he
  |_=>cases q<;>rfl
 |n,.int b,e,v,hd,he,r,q=>by
  cases r;cases e with
  |tup=>obtain⟨_,_,z,_⟩:=q;cases z
  |lst=>obtain⟨_,_,z,_⟩:=q;cases z
  |obj=>cases n<;>cases he
  |exc=>cases n<;>cases he
  |dic=>cases n<;>cases he
  |_=>cases q<;>rfl
 |n,.str b,e,v,hd,he,r,q=>by
  cases r;cases e with
  |tup=>obtain⟨_,_,z,_⟩:=q;cases z
  |lst=>obtain⟨_,_,z,_⟩:=q;cases z
  |obj=>cases n<;>cases he
  |exc=>cases n<;>cases he
  |dic=>cases n<;>cases he
  |_=>cases q<;>rfl
theorem reps_inj{pI:Pn}{Z:L2.St}{H:Hp}{s:As}(I:Inv X pI Z H s):∀(n:Ag)(ds es:Ac D){xs:Ac V},ds.all (flD n)=Aa->es.all (flD n)=Aa->Reps X.K CL H A0 xs ds->Reps X.K CL H A0 xs es->ds=es
 |_,[],[],_,_,_,_,_=>rfl
 |n,d::ds,e::es,x::xs,hd,he,r,q=>by
  simp only[Hg,Aq]at hd he;rw[Ng I n d e hd.1 he.1 r.1 q.1,reps_inj I n ds es hd.2 he.2 r.2 q.2]
 |_,[],_::_,[],_,_,_,q=>q.elim
 |_,[],_::_,_::_,_,_,r,_=>r.elim
 |_,_::_,[],[],_,_,r,_=>r.elim
 |_,_::_,[],_::_,_,_,_,q=>q.elim
 |_,_::_,_::_,[],_,_,r,_=>r.elim
end
theorem LZ:∀{ds es:Ac D},ds.length≠es.length->eqDs ds es=Af
 |[],[],h=>absurd rfl h
 |[],_::_,_=>rfl
 |_::_,[],_=>rfl
 |d::ds,e::es,h=>by
  simp only[Pf,LZ (ds:=ds) (es:=es) (by simpa using h),FJ]
theorem R5(n:Ag)(f:Ag->Aj):(A4 (n+1)).all f=(f 0&&(A4 n).all λj=>f (j+1)):=by
 rw[EL,Hg,List.all_map];rfl
theorem L0:∀{ds es:Ac D},ds.length=es.length->eqDs ds es=(A4 ds.length).all λj=>eqD (ds.getD j .non) (es.getD j .non)
 |[],[],_=>rfl
 |d::ds,e::es,h=>by
  rw[Pf,L0 (ds:=ds) (es:=es) (by simpa using h),BU,R5]
  rfl
 |[],_::_,h=>by cases h
 |_::_,[],h=>by cases h
theorem Kj{ds:Ac D}(r:Reps K CL H A0 xs ds)(rv:Bi xs its)(h:j<its.length):∃ x,Rep K CL H A0 x (ds.getD j .non)/\B5 x its[j]:=by
 have e1:=rv.length;have e2:=r.length;have hd:ds[j]?=Ab (ds.getD j .non):=by
  rw[D7,BS (by omega)];rfl
 obtain⟨x,hx,q⟩:=r.get hd;obtain⟨u,hu,ru⟩:=rv.get hx;refine⟨x,q,?_⟩;rw[BS h]at hu;cases hu;exact ru
theorem Kb{ds:Ac D}(h:ds.all (flD n)=Aa)(j:Ag):flD n (ds.getD j .non)=Aa:=by
 rw[D7];cases e:ds[j]? with
 |none=>cases n<;>rfl
 |some d=>exact List.all_eq_true.mp h d (DD e)
def C2(B:Bc)(s:As)(u t:Ai)(k:Aj):Prop:=Kw B s u t k/\GF B s u t k/\Jv B s u t (!k)
section
variable{B:Bc}{s:As}
open SeqAt
theorem zG:C2 B s .none .none Aa:=⟨RcAt.none_none,EqAt.same _,RcNeAt.none_none⟩
theorem yG(a b:Aj):C2 B s (.bool a) (.bool b) (a==b):=⟨RcAt.bool_bool _ _,EqAt.bool_bool _ _,RcNeAt.bool_bool _ _⟩
theorem xP(b:Aj):C2 B s .none (.bool b) Af:=⟨RcAt.none_bool _,EqAt.none_bool _,RcNeAt.none_bool _⟩
theorem yD(b:Aj):C2 B s (.bool b) .none Af:=⟨RcAt.bool_none _,EqAt.bool_none _,RcNeAt.bool_none _⟩
theorem xZ(a:Ad)(t:DF)(b:Ad)(u:DF):C2 B s (.int a t) (.int b u) (a==b):=⟨RcAt.int_int _ _ _ _,EqAt.int_int _ _ _ _,RcNeAt.int_int _ _ _ _⟩
theorem yY(a:Al)(t:DF)(b:Al)(u:DF):C2 B s (.str a t) (.str b u) (a==b):=⟨RcAt.str_str _ _ _ _,EqAt.str_str _ _ _ _,RcNeAt.str_str _ _ _ _⟩
theorem xW(a:Ad)(t:DF)(b:Al)(u:DF):C2 B s (.int a t) (.str b u) Af:=⟨RcAt.int_str _ _ _ _,EqAt.int_str _ _ _ _,RcNeAt.int_str _ _ _ _⟩
theorem zC(a:Al)(t:DF)(b:Ad)(u:DF):C2 B s (.str a t) (.int b u) Af:=⟨RcAt.str_int _ _ _ _,EqAt.str_int _ _ _ _,RcNeAt.str_int _ _ _ _⟩
theorem xO(b:Ad)(u:DF):C2 B s .none (.int b u) Af:=⟨RcAt.none_int _ _,EqAt.none_int _ _,RcNeAt.none_int _ _⟩
theorem xX(b:Ad)(u:DF):C2 B s (.int b u) .none Af:=⟨RcAt.int_none _ _,EqAt.int_none _ _,RcNeAt.int_none _ _⟩
theorem zF(b:Al)(u:DF):C2 B s .none (.str b u) Af:=⟨RcAt.none_str _ _,EqAt.none_str _ _,RcNeAt.none_str _ _⟩
theorem yZ(b:Al)(u:DF):C2 B s (.str b u) .none Af:=⟨RcAt.str_none _ _,EqAt.str_none _ _,RcNeAt.str_none _ _⟩
theorem yF(a:Aj)(b:Ad)(u:DF):C2 B s (.bool a) (.int b u) (b2i a==b):=⟨RcAt.bool_int _ _ _,EqAt.bool_int _ _ _,RcNeAt.bool_int _ _ _⟩
theorem yA(a:Aj)(b:Ad)(u:DF):C2 B s (.int b u) (.bool a) (b==b2i a):=⟨RcAt.int_bool _ _ _,EqAt.int_bool _ _ _,RcNeAt.int_bool _ _ _⟩
theorem yC(a:Aj)(b:Al)(u:DF):C2 B s (.bool a) (.str b u) Af:=⟨RcAt.bool_str _ _ _,EqAt.bool_str _ _ _,RcNeAt.bool_str _ _ _⟩
theorem zD(a:Aj)(b:Al)(u:DF):C2 B s (.str b u) (.bool a) Af:=⟨RcAt.str_bool _ _ _,EqAt.str_bool _ _ _,RcNeAt.str_bool _ _ _⟩
variable{l:Am}{items:AY Ai}
theorem xS(h:s.heap.IsList l items)(hu:B.units<CH):C2 B s (.ref l) .none Af:=⟨RcAt.list_none h hu,EqAt.list_none h hu,RcNeAt.list_none h hu⟩
theorem zH(h:s.heap.IsList l items)(hu:B.units<CH):C2 B s .none (.ref l) Af:=⟨RcAt.none_list h hu,EqAt.none_list h hu,RcNeAt.none_list h hu⟩
theorem xU(b:Aj)(h:s.heap.IsList l items)(hu:B.units<CH):C2 B s (.ref l) (.bool b) Af:=⟨RcAt.list_bool b h hu,EqAt.list_bool b h hu,RcNeAt.list_bool b h hu⟩
theorem yE(b:Aj)(h:s.heap.IsList l items)(hu:B.units<CH):C2 B s (.bool b) (.ref l) Af:=⟨RcAt.bool_list b h hu,EqAt.bool_list b h hu,RcNeAt.bool_list b h hu⟩
theorem xT(b:Ad)(u:DF)(h:s.heap.IsList l items)(hu:B.units<CH):C2 B s (.ref l) (.int b u) Af:=⟨RcAt.list_int b u h hu,EqAt.list_int b u h hu,RcNeAt.list_int b u h hu⟩
theorem xY(b:Ad)(u:DF)(h:s.heap.IsList l items)(hu:B.units<CH):C2 B s (.int b u) (.ref l) Af:=⟨RcAt.int_list b u h hu,EqAt.int_list b u h hu,RcNeAt.int_list b u h hu⟩
theorem xR(b:Al)(u:DF)(h:s.heap.IsList l items)(hu:B.units<CH):C2 B s (.ref l) (.str b u) Af:=⟨RcAt.list_str b u h hu,EqAt.list_str b u h hu,RcNeAt.list_str b u h hu⟩
theorem zA(b:Al)(u:DF)(h:s.heap.IsList l items)(hu:B.units<CH):C2 B s (.str b u) (.ref l) Af:=⟨RcAt.str_list b u h hu,EqAt.str_list b u h hu,RcNeAt.str_list b u h hu⟩
theorem yT(h:s.heap.IsTuple l items)(hu:B.units<CH):C2 B s (.ref l) .none Af:=⟨RcAt.tuple_none h hu,EqAt.tuple_none h hu,RcNeAt.tuple_none h hu⟩
theorem zE(h:s.heap.IsTuple l items)(hu:B.units<CH):C2 B s .none (.ref l) Af:=⟨RcAt.none_tuple h hu,EqAt.none_tuple h hu,RcNeAt.none_tuple h hu⟩
theorem yW(b:Aj)(h:s.heap.IsTuple l items)(hu:B.units<CH):C2 B s (.ref l) (.bool b) Af:=⟨RcAt.tuple_bool b h hu,EqAt.tuple_bool b h hu,RcNeAt.tuple_bool b h hu⟩
theorem yB(b:Aj)(h:s.heap.IsTuple l items)(hu:B.units<CH):C2 B s (.bool b) (.ref l) Af:=⟨RcAt.bool_tuple b h hu,EqAt.bool_tuple b h hu,RcNeAt.bool_tuple b h hu⟩
theorem yV(b:Ad)(u:DF)(h:s.heap.IsTuple l items)(hu:B.units<CH):C2 B s (.ref l) (.int b u) Af:=⟨RcAt.tuple_int b u h hu,EqAt.tuple_int b u h hu,RcNeAt.tuple_int b u h hu⟩
theorem xV(b:Ad)(u:DF)(h:s.heap.IsTuple l items)(hu:B.units<CH):C2 B s (.int b u) (.ref l) Af:=⟨RcAt.int_tuple b u h hu,EqAt.int_tuple b u h hu,RcNeAt.int_tuple b u h hu⟩
theorem yS(b:Al)(u:DF)(h:s.heap.IsTuple l items)(hu:B.units<CH):C2 B s (.ref l) (.str b u) Af:=⟨RcAt.tuple_str b u h hu,EqAt.tuple_str b u h hu,RcNeAt.tuple_str b u h hu⟩
theorem yX(b:Al)(u:DF)(h:s.heap.IsTuple l items)(hu:B.units<CH):C2 B s (.str b u) (.ref l) Af:=⟨RcAt.str_tuple b u h hu,EqAt.str_tuple b u h hu,RcNeAt.str_tuple b u h hu⟩
theorem xQ(h:s.heap.IsList l items)(h2:s.heap.IsTuple b items2)(hu:B.units<CH):C2 B s (.ref l) (.ref b) Af:=⟨RcAt.list_tuple h h2 hu,EqAt.list_tuple h h2 hu,RcNeAt.list_tuple h h2 hu⟩
theorem yU(h:s.heap.IsTuple l items)(h2:s.heap.IsList b items2)(hu:B.units<CH):C2 B s (.ref l) (.ref b) Af:=⟨RcAt.tuple_list h h2 hu,EqAt.tuple_list h h2 hu,RcNeAt.tuple_list h h2 hu⟩
end
end
section
variable{X:Cx}{CL:ClA}{W:XW}
theorem Iy{its:AY Ai}(x:PlainL h a its):h.IsList a its:=let ⟨o,n,e,c,_,d⟩:=x;⟨o,e,c,n,d⟩
def Zr(X:Cx)(CL:ClA)(H:Hp)(s:As)(d:D)(u:Ai):Prop:=match d with
  |.non=>u=.none
  |.bl b=>u=.bool b
  |.int i=>∃ t,u=.int i t
  |.str x=>∃ t,u=.str x t
  |.tup ds=>∃ a xs its,u=.ref a/\Reps X.K CL H A0 xs ds/\Bi xs its/\s.heap.IsTuple a its.toArray
  |.lst ds=>∃ a xs its,u=.ref a/\Reps X.K CL H A0 xs ds/\Bi xs its/\s.heap.IsList a its.toArray
  |_=>Bz
theorem UG(I:Inv X pI Z H s)(hd:flD n d=Aa)(r:Rep X.K CL H A0 v d)(q:B5 v u):Zr X CL H s d u:=by
 cases d with
 |non=>cases r;exact q
 |bl b=>cases r;exact q
 |int b=>cases r;exact q
 |str b=>cases r;exact q
 |tup ds=>
  obtain⟨a,xs,rfl,_,sq,r⟩:=r;obtain⟨its,rv,p,_⟩:=I.tuple sq;cases q;exact⟨a,xs,its,rfl,r,rv,p⟩
 |lst ds=>
  obtain⟨a,xs,rfl,_,sq,r⟩:=r;obtain⟨its,rv,p,_⟩:=I.list sq;cases q;exact⟨a,xs,its,rfl,r,rv,Iy p⟩
 |obj=>cases n<;>cases hd
 |exc=>cases n<;>cases hd
 |dic=>cases n<;>cases hd
theorem fY{B:Bc}{ds es:Ac D}(hl:s.heap.IsList l its.toArray)(hb:s.heap.IsList b its2.toArray)(e1:its.length=ds.length)(e2:its2.length=es.length)(hu:B.units<CH)(hs:l=b->eqDs ds es=Aa)(he:∀ j (h1:j<its.length) (h2:j<its2.length),GF B.in1 s its[j] its2[j] (eqD (ds.getD j .non) (es.getD j .non))):C2 B s (.ref l) (.ref b) (eqDs ds es):=by
 have rc:Kw B s (.ref l) (.ref b) (eqDs ds es):=by
  by_cases hz:its.length=its2.length
  .have q:=SeqAt.RcAt.lists (e:=λj=>eqD (ds.getD j .non) (es.getD j .non)) hl hb (by simpa using hz) hu (λj h1 h2=>by simpa using he j (by simpa using h1) (by simpa using h2))
   rw[L0 (by omega)]
   have e:its.toArray.size=ds.length:=by simpa using e1
   rw[e]at q;exact q
  .rw[LZ (by omega)]
   exact SeqAt.RcAt.lists_lengths hl hb (by simpa using hz) hu
 have ne:Jv B s (.ref l) (.ref b) (!eqDs ds es):=by
  by_cases hz:its.length=its2.length
  .have q:=SeqAt.RcNeAt.lists (e:=λj=>eqD (ds.getD j .non) (es.getD j .non)) hl hb (by simpa using hz) hu (λj h1 h2=>by simpa using he j (by simpa using h1) (by simpa using h2))
   rw[L0 (by omega)]
   have e:its.toArray.size=ds.length:=by simpa using e1
   rw[e]at q;exact q
  .rw[LZ (by omega)]
   exact SeqAt.RcNeAt.lists_lengths hl hb (by simpa using hz) hu
 refine⟨rc,?_,ne⟩;by_cases hlb:l=b
 .rw[hs hlb,hlb];exact X6 _
 .exact X5 hlb rc
theorem fV{B:Bc}{ds es:Ac D}(hl:s.heap.IsTuple l its.toArray)(hb:s.heap.IsTuple b its2.toArray)(e1:its.length=ds.length)(e2:its2.length=es.length)(hu:B.units<CH)(hs:l=b->eqDs ds es=Aa)(he:∀ j (h1:j<its.length) (h2:j<its2.length),GF B.in1 s its[j] its2[j] (eqD (ds.getD j .non) (es.getD j .non))):C2 B s (.ref l) (.ref b) (eqDs ds es):=by
 have rc:Kw B s (.ref l) (.ref b) (eqDs ds es):=by
  have q:=SeqAt.RcAt.tuples (e:=λj=>eqD (ds.getD j .non) (es.getD j .non)) hl hb hu (λj h1 h2=>by simpa using he j (by simpa using h1) (by simpa using h2))
  have e:its.toArray.size=ds.length:=by simpa using e1
  have e':its2.toArray.size=es.length:=by simpa using e2
  rw[e,e']at q;by_cases hz:ds.length=es.length
  .rw[L0 hz];rw[hz,WX,Ew,Wr]at q;rw[hz];exact q
  .rw[LZ hz];rw[DQ.mpr hz,FJ]at q;exact q
 have ne:Jv B s (.ref l) (.ref b) (!eqDs ds es):=by
  have q:=SeqAt.RcNeAt.tuples (e:=λj=>eqD (ds.getD j .non) (es.getD j .non)) hl hb hu (λj h1 h2=>by simpa using he j (by simpa using h1) (by simpa using h2))
  have e:its.toArray.size=ds.length:=by simpa using e1
  have e':its2.toArray.size=es.length:=by simpa using e2
  rw[e,e']at q;by_cases hz:ds.length=es.length
  .rw[L0 hz];rw[hz,WX,Ew,Wr]at q;rw[hz];exact q
  .rw[LZ hz];rw[DQ.mpr hz,FJ]at q;exact q
 refine⟨rc,?_,ne⟩;by_cases hlb:l=b
 .rw[hs hlb,hlb];exact X6 _
 .exact X5 hlb rc
theorem Mk{pI:Pn}{Z:L2.St}{H:Hp}{s:As}(I:Inv X pI Z H s):∀(n:Ag)(d e:D)(v w':V)(u t:Ai)(B:Bc),flD n d=Aa->flD n e=Aa->Rep X.K CL H A0 v d->Rep X.K CL H A0 w' e->B5 v u->B5 w' t->B.units+n<CH->C2 B s u t (eqD d e)
  |n,d,e,v,w',u,t,B,hd,he,r,q,rv,rw',hu=>by
    have hu0:B.units<CH:=by omega
    have sd:=UG I hd r rv;have se:=UG I he q rw'
    match d,e,sd,se with
    |.non,.non,s1,s2=>cases s1;cases s2;exact zG
    |.non,.bl b,s1,s2=>cases s1;cases s2;exact xP b
    |.non,.int b,s1,s2=>cases s1;obtain⟨_,rfl⟩:=s2;exact xO b _
    |.non,.str b,s1,s2=>cases s1;obtain⟨_,rfl⟩:=s2;exact zF b _
    |.non,.tup es,s1,s2=>cases s1;obtain⟨_,_,_,rfl,_,_,p⟩:=s2;exact zE p hu0
    |.non,.lst es,s1,s2=>cases s1;obtain⟨_,_,_,rfl,_,_,p⟩:=s2;exact zH p hu0
    |.bl a,.non,s1,s2=>cases s1;cases s2;exact yD a
    |.bl a,.bl b,s1,s2=>cases s1;cases s2;exact yG a b
    |.bl a,.int b,s1,s2=>cases s1;obtain⟨_,rfl⟩:=s2;exact yF a b _
    |.bl a,.str b,s1,s2=>cases s1;obtain⟨_,rfl⟩:=s2;exact yC a b _
    |.bl a,.tup es,s1,s2=>cases s1;obtain⟨_,_,_,rfl,_,_,p⟩:=s2;exact yB a p hu0
    |.bl a,.lst es,s1,s2=>cases s1;obtain⟨_,_,_,rfl,_,_,p⟩:=s2;exact yE a p hu0
    |.int a,.non,s1,s2=>obtain⟨_,rfl⟩:=s1;cases s2;exact xX a _
    |.int a,.bl b,s1,s2=>obtain⟨_,rfl⟩:=s1;cases s2;exact yA b a _
    |.int a,.int b,s1,s2=>obtain⟨_,rfl⟩:=s1;obtain⟨_,rfl⟩:=s2;exact xZ a _ b _
    |.int a,.str b,s1,s2=>obtain⟨_,rfl⟩:=s1;obtain⟨_,rfl⟩:=s2;exact xW a _ b _
    |.int a,.tup es,s1,s2=>obtain⟨_,rfl⟩:=s1;obtain⟨_,_,_,rfl,_,_,p⟩:=s2;exact xV a _ p hu0
    |.int a,.lst es,s1,s2=>obtain⟨_,rfl⟩:=s1;obtain⟨_,_,_,rfl,_,_,p⟩:=s2;exact xY a _ p hu0
    |.str a,.non,s1,s2=>obtain⟨_,rfl⟩:=s1;cases s2;exact yZ a _
    |.str a,.bl b,s1,s2=>obtain⟨_,rfl⟩:=s1;cases s2;exact zD b a _
    |.str a,.int b,s1,s2=>obtain⟨_,rfl⟩:=s1;obtain⟨_,rfl⟩:=s2;exact zC a _ b _
    |.str a,.str b,s1,s2=>obtain⟨_,rfl⟩:=s1;obtain⟨_,rfl⟩:=s2;exact yY a _ b _
    |.str a,.tup es,s1,s2=>obtain⟨_,rfl⟩:=s1;obtain⟨_,_,_,rfl,_,_,p⟩:=s2;exact yX a _ p hu0
    |.str a,.lst es,s1,s2=>obtain⟨_,rfl⟩:=s1;obtain⟨_,_,_,rfl,_,_,p⟩:=s2;exact zA a _ p hu0
    |.tup ds,.non,s1,s2=>cases s2;obtain⟨_,_,_,rfl,_,_,p⟩:=s1;exact yT p hu0
    |.tup ds,.bl b,s1,s2=>cases s2;obtain⟨_,_,_,rfl,_,_,p⟩:=s1;exact yW b p hu0
    |.tup ds,.int b,s1,s2=>obtain⟨_,rfl⟩:=s2;obtain⟨_,_,_,rfl,_,_,p⟩:=s1;exact yV b _ p hu0
    |.tup ds,.str b,s1,s2=>obtain⟨_,rfl⟩:=s2;obtain⟨_,_,_,rfl,_,_,p⟩:=s1;exact yS b _ p hu0
    |.tup ds,.lst es,s1,s2=>obtain⟨_,_,_,rfl,_,_,p⟩:=s1;obtain⟨_,_,_,rfl,_,_,p2⟩:=s2;exact yU p p2 hu0
    |.lst ds,.non,s1,s2=>cases s2;obtain⟨_,_,_,rfl,_,_,p⟩:=s1;exact xS p hu0
    |.lst ds,.bl b,s1,s2=>cases s2;obtain⟨_,_,_,rfl,_,_,p⟩:=s1;exact xU b p hu0
    |.lst ds,.int b,s1,s2=>obtain⟨_,rfl⟩:=s2;obtain⟨_,_,_,rfl,_,_,p⟩:=s1;exact xT b _ p hu0
    |.lst ds,.str b,s1,s2=>obtain⟨_,rfl⟩:=s2;obtain⟨_,_,_,rfl,_,_,p⟩:=s1;exact xR b _ p hu0
    |.lst ds,.tup es,s1,s2=>obtain⟨_,_,_,rfl,_,_,p⟩:=s1;obtain⟨_,_,_,rfl,_,_,p2⟩:=s2;exact xQ p p2 hu0
    |.tup ds,.tup es,s1,s2=>
      match n,hd,he,hu with
      |n+1,hd,he,hu=>
        obtain⟨a,xs,its,rfl,r1,v1,p1⟩:=s1;obtain⟨b,ys,its2,rfl,r2,v2,p2⟩:=s2;have l1:=v1.length;have l2:=r1.length;have l3:=v2.length;have l4:=r2.length
        refine fV p1 p2 (by omega) (by omega) hu0 (λhab=>?_) λj h1 h2=>?_
        · have e1:v=.ref a:=B5.inj rv rfl;have e2:w'=.ref b:=B5.inj rw' rfl;subst e1 e2 hab;have z:=Ng I (n+1) _ _ hd he r q
          injection z with z
          rw[z];exact eqDs_refl n es he
        · obtain⟨x,rx,qx⟩:=Kj r1 v1 h1;obtain⟨y,ry,qy⟩:=Kj r2 v2 h2;exact(Mk I n _ _ x y _ _ B.in1 (Kb hd j) (Kb he j) rx ry qx qy (by show B.units+1+n<CH;omega)).2.1
    |.lst ds,.lst es,s1,s2=>
      match n,hd,he,hu with
      |n+1,hd,he,hu=>
        obtain⟨a,xs,its,rfl,r1,v1,p1⟩:=s1;obtain⟨b,ys,its2,rfl,r2,v2,p2⟩:=s2;have l1:=v1.length;have l2:=r1.length;have l3:=v2.length;have l4:=r2.length
        refine fY p1 p2 (by omega) (by omega) hu0 (λhab=>?_) λj h1 h2=>?_
        · have e1:v=.ref a:=B5.inj rv rfl;have e2:w'=.ref b:=B5.inj rw' rfl;subst e1 e2 hab;have z:=Ng I (n+1) _ _ hd he r q
          injection z with z
          rw[z];exact eqDs_refl n es he
        · obtain⟨x,rx,qx⟩:=Kj r1 v1 h1;obtain⟨y,ry,qy⟩:=Kj r2 v2 h2;exact(Mk I n _ _ x y _ _ B.in1 (Kb hd j) (Kb he j) rx ry qx qy (by show B.units+1+n<CH;omega)).2.1
    |.obj _ _,_,s1,_=>exact s1.elim
    |.exc _ _,_,s1,_=>exact s1.elim
    |.dic _,_,s1,_=>exact s1.elim
    |_,.obj _ _,_,s2=>exact s2.elim
    |_,.exc _ _,_,s2=>exact s2.elim
    |_,.dic _,_,s2=>exact s2.elim
end
section
variable{X:Cx}{CL:ClA}{W:XW}
theorem Nn(I:Inv X pI Z H s){ds:Ac D}(B:Bc)(hd:flD n d=Aa)(hs:ds.all (flD n)=Aa)(r:Reps X.K CL H A0 xs ds)(rv:Bi xs its)(q:Rep X.K CL H A0 v d)(qv:B5 v u)(hu:B.units+n<CH):∃ e:Ai->Aj,(∀ y,y∈its.toArray->GF B s y u (e y))/\its.toArray.any e=ds.any λy=>eqD y d:=by
 have l1:=rv.length;have l2:=r.length
 have key:∀ y,y∈its->∃ k:Aj,GF B s y u k/\∀ j (h:j<its.length),its[j]=y->eqD (ds.getD j .non) d=k:=λy hy=>by
  obtain⟨j,hj,rfl⟩:=DO hy;obtain⟨x,rx,qx⟩:=Kj r rv hj;refine⟨eqD (ds.getD j .non) d,(Mk I n _ _ x v _ _ B (Kb hs j) hd rx q qx qv hu).2.1,λj' hj' e=>?_⟩
  obtain⟨x',rx',qx'⟩:=Kj r rv hj';rw[e]at qx';have z:=B5.inj qx qx';subst z;rw[Ng I n _ _ (Kb hs j') (Kb hs j) rx' rx]
 have key2:∀ y,∃ k:Aj,y∈its->GF B s y u k/\∀ j (h:j<its.length),its[j]=y->eqD (ds.getD j .non) d=k:=λy=>by
  by_cases hy:y∈its
  .obtain⟨k,hk⟩:=key y hy;exact⟨k,λ_=>hk⟩
  .exact⟨Aa,λh=>absurd h hy⟩
 refine⟨λy=>HH (key2 y),λy hy=>(D0 (key2 y) (by simpa using hy)).1,?_⟩
 rw[DZ];simp only[List.any_toArray,WB];constructor
 .rintro⟨y,hy,hk⟩;obtain⟨j,hj,rfl⟩:=DO hy;have z:=(D0 (key2 its[j]) hy).2 j hj rfl;rw[hk]at z;refine⟨ds.getD j .non,?_,z⟩;rw[D7,BS (by omega)]
  exact CB _
 .rintro⟨y,hy,hk⟩;obtain⟨j,hj,rfl⟩:=DO hy;have hj':j<its.length:=by omega
  refine⟨its[j],CB _,?_⟩;have z:=(D0 (key2 its[j]) (CB _)).2 j hj' rfl;rw[<-z,D7,BS hj];exact hk
theorem MP{g:Ad->Ad->Aj}(ho:OpR X (CW op) (rI0 λi j=>.bl (g i j)))(hg:∀ dx dy,(∃ i j,dx=.int i/\dy=.int j/\Cf op dx dy=.ok (.bl (g i j)))\/Cf op dx dy=.bad):OpD X CL W (CW op) (Cf op):=by
 intro A pI s Z H x y v u Q I rx ry ⟨hA,dx,dy,hx,hy,p⟩;rcases hg dx dy with ⟨i,j,rfl,rfl,e⟩|e
 .have ex:=hx.int_of;have ey:=hy.int_of
  subst ex ey;rw[e]at p;exact ho pI s Z H _ _ v u Q I rx ry ⟨i,j,rfl,rfl,p _ H (AM.refl H) rfl⟩
 .rw[e]at p;exact p.elim
theorem VA{x:V}(h:Dh X.K CL H A x d)(hd:d≠.non):x≠.non:=by
 rintro rfl;have h:=h.plain;cases d with
 |non=>exact hd rfl
 |tup=>obtain⟨_,_,e,_⟩:=h;cases e
 |lst=>obtain⟨_,_,e,_⟩:=h;cases e
 |obj=>obtain⟨_,_,_,_,e,_⟩:=h;cases e
 |exc=>obtain⟨_,_,_,e,_⟩:=h;cases e
 |dic=>exact h.elim
 |_=>cases h
theorem KY(hu:X.A.units+64<CH)(op:DA):OpD X CL W (CW op) (Cf op):=by
 cases op with
 |Eq=>
  intro A pI s Z H x y v u Q I rx ry ⟨hA,dx,dy,hx,hy,p⟩;rw[cu]at p;split at p
  .rename_i h;simp only[Aq]at h;exact(Mk I 5 dx dy x y v u X.A h.1 h.2 hx.plain hy.plain rx ry (by omega)).1 X.prog X.w X.xe _ ⟨.bl _,H,I,rfl,p _ H (AM.refl H) rfl⟩
  .exact p.elim
 |NotEq=>
  intro A pI s Z H x y v u Q I rx ry ⟨hA,dx,dy,hx,hy,p⟩;rw[ay]at p;split at p
  .rename_i h;simp only[Aq]at h;exact(Mk I 5 dx dy x y v u X.A h.1 h.2 hx.plain hy.plain rx ry (by omega)).2.2 X.prog X.w X.xe _ ⟨.bl _,H,I,rfl,p _ H (AM.refl H) rfl⟩
  .exact p.elim
 |Lt=>
  refine MP ak λdx dy=>?_
  cases dx with
  |int i=>
   cases dy with
   |int j=>exact .inl ⟨i,j,rfl,rfl,rfl⟩
   |_=>exact .inr rfl
  |_=>exact .inr rfl
 |LtE=>
  refine MP ao λdx dy=>?_
  cases dx with
  |int i=>
   cases dy with
   |int j=>exact .inl ⟨i,j,rfl,rfl,rfl⟩
   |_=>exact .inr rfl
  |_=>exact .inr rfl
 |Gt=>
  refine MP aq λdx dy=>?_
  cases dx with
  |int i=>
   cases dy with
   |int j=>exact .inl ⟨i,j,rfl,rfl,rfl⟩
   |_=>exact .inr rfl
  |_=>exact .inr rfl
 |GtE=>
  refine MP ar λdx dy=>?_
  cases dx with
  |int i=>
   cases dy with
   |int j=>exact .inl ⟨i,j,rfl,rfl,rfl⟩
   |_=>exact .inr rfl
  |_=>exact .inr rfl
 |In=>
  intro A pI s Z H x y v u Q I rx ry ⟨hA,dx,dy,hx,hy,p⟩;cases dy with
  |lst es=>
   rw[Y_0]at p;split at p
   .rename_i h;simp only[Aq]at h;obtain⟨a,xs,e,_,sq,r⟩:=hy.plain;subst e;cases ry;obtain⟨its,rv,pl,_⟩:=I.list sq;obtain⟨e,he,ha⟩:=Nn I (n:=5) X.A.in1 h.1 h.2 r rv hx.plain rx (by show X.A.units+1+5<CH;omega)
    refine SeqAt.in_listAt e (Iy pl) he ?_;rw[ha];exact⟨.bl _,H,I,rfl,p _ H (AM.refl H) rfl⟩
   .exact p.elim
  |tup es=>
   rw[YZ]at p;split at p
   .rename_i h;simp only[Aq]at h;obtain⟨a,xs,e,_,sq,r⟩:=hy.plain;subst e;cases ry;obtain⟨its,rv,pl,_⟩:=I.tuple sq;obtain⟨e,he,ha⟩:=Nn I (n:=5) X.A.in1 h.1 h.2 r rv hx.plain rx (by show X.A.units+1+5<CH;omega)
    refine SeqAt.in_tupleAt e pl he ?_;rw[ha];exact⟨.bl _,H,I,rfl,p _ H (AM.refl H) rfl⟩
   .exact p.elim
  |dic kvs=>exact hy.plain.elim
  |_=>exact p.elim
 |NotIn=>
  intro A pI s Z H x y v u Q I rx ry ⟨hA,dx,dy,hx,hy,p⟩;cases dy with
  |lst es=>
   rw[av]at p;split at p
   .rename_i h;simp only[Aq]at h;obtain⟨a,xs,e,_,sq,r⟩:=hy.plain;subst e;cases ry;obtain⟨its,rv,pl,_⟩:=I.list sq;obtain⟨e,he,ha⟩:=Nn I (n:=5) X.A.in1 h.1 h.2 r rv hx.plain rx (by show X.A.units+1+5<CH;omega)
    refine SeqAt.notIn_listAt e (Iy pl) he ?_;rw[ha];exact⟨.bl _,H,I,rfl,p _ H (AM.refl H) rfl⟩
   .exact p.elim
  |tup es=>
   rw[au]at p;split at p
   .rename_i h;simp only[Aq]at h;obtain⟨a,xs,e,_,sq,r⟩:=hy.plain;subst e;cases ry;obtain⟨its,rv,pl,_⟩:=I.tuple sq;obtain⟨e,he,ha⟩:=Nn I (n:=5) X.A.in1 h.1 h.2 r rv hx.plain rx (by show X.A.units+1+5<CH;omega)
    refine SeqAt.notIn_tupleAt e pl he ?_;rw[ha];exact⟨.bl _,H,I,rfl,p _ H (AM.refl H) rfl⟩
   .exact p.elim
  |_=>exact p.elim
 |Is=>
  intro A pI s Z H x y v u Q I rx ry ⟨hA,dx,dy,hx,hy,p⟩;cases dy with
  |non=>
   have ey:=hy.non_of;subst ey;refine uM pI s Z H _ _ v u Q I rx ry ⟨rfl,?_⟩;cases dx with
   |non=>
    have ex:=hx.non_of;subst ex;exact p _ H (AM.refl H) rfl
   |exc=>exact p.elim
   |dic=>exact p.elim
   |_=>rw[CM (VA hx (by simp))];exact p _ H (AM.refl H) rfl
  |bl b=>
   cases dx with
   |bl a=>
    have ey:=hy.bl_of;have ex:=hx.bl_of;subst ex ey;cases rx;cases ry;refine wpAny_is_plain rfl ⟨.bl (a==b),H,I,?_,p _ H (AM.refl H) rfl⟩;cases a<;>cases b<;>rfl
   |_=>exact p.elim
  |_=>cases dx<;>exact p.elim
 |IsNot=>
  intro A pI s Z H x y v u Q I rx ry ⟨hA,dx,dy,hx,hy,p⟩;cases dy with
  |non=>
   have ey:=hy.non_of;subst ey;refine jN pI s Z H _ _ v u Q I rx ry ⟨rfl,?_⟩;cases dx with
   |non=>
    have ex:=hx.non_of;subst ex;exact p _ H (AM.refl H) rfl
   |exc=>exact p.elim
   |dic=>exact p.elim
   |_=>rw[CM (VA hx (by simp))];exact p _ H (AM.refl H) rfl
  |bl b=>
   cases dx with
   |bl a=>
    have ey:=hy.bl_of;have ex:=hx.bl_of;subst ex ey;cases rx;cases ry;refine wpAny_isNot_plain rfl ⟨.bl (!(a==b)),H,I,?_,p _ H (AM.refl H) rfl⟩;cases a<;>cases b<;>rfl
   |_=>exact p.elim
  |_=>cases dx<;>exact p.elim
end
section
variable{X:Cx}{CL:ClA}{W:XW}{a b c:An}{fa fb fc:Rho->R D}{pos:A7}
theorem Du.bind{f:D->R Aj}{Q:Aj->Hp->Prop}{Q':VK}(h:Du W H (r.bind f) Q)(k:∀ d v H',r=.ok d->AM H H'->Rp H' v d->Du W H' (f d) Q->Q' v H'):Br Rp W H r Q':=by
 cases r with
 |ok d=>exact λv H2 s2 q=>k d v H2 rfl s2 q (Du.same s2 h)
 |exn x=>exact h
 |bad=>exact h
theorem Du.bindB{r:R Aj}{f:Aj->R Aj}{Q:Aj->Hp->Prop}{Q':Aj->Hp->Prop}(h:Du W H (r.bind f) Q)(k:∀ b H',r=.ok b->AM H H'->Du W H' (f b) Q->Q' b H'):Du W H r Q':=by
 cases r with
 |ok d=>exact λH2 s2=>k d H2 rfl s2 (Du.same s2 h)
 |exn x=>exact h
 |bad=>exact h
theorem HZ.bind{Rp:Hp->Ac V->Ac D->Prop}{r:R (Ac D)}{f:Ac D->R D}{Q':Ac V->Hp->Prop}(h:Br Rq W H (r.bind f) Q)(k:∀ d v H',r=.ok d->AM H H'->Rp H' v d->Br Rq W H' (f d) Q->Q' v H'):HZ Rp W H r Q':=by
 cases r with
 |ok d=>exact λv H2 s2 q=>k d v H2 rfl s2 q (Br.same s2 h)
 |exn x=>exact h
 |bad=>exact h
theorem pG(ha:ST X CL W a fa):SE X CL W (.UnaryOp .USub a pos) (λU=>(fa U).bind λx=>unD .USub x):=λA=>PE.weak (xN qO (ha A)) λZ H Q ⟨hA,U,g,p⟩=>⟨hA,U,g,Br.bind p λd v H1 _ s1 r1 p1=>by
 cases d with
 |int i=>
  have e:=r1.int_of;subst e;exact⟨i,rfl,p1 _ H1 (AM.refl H1) rfl⟩
 | _=>exact p1.elim⟩
theorem MS{f:Aj->R D}(h:Br Rq W H ((Eb d).bind f) Q):∃ c,d=.bl c/\Br Rq W H (f c) Q:=by
 cases d with
 |bl c=>exact⟨c,rfl,h⟩
 |_=>exact h.elim
theorem pB(ha:ST X CL W a fa):SE X CL W (.UnaryOp .Not a pos) (λU=>(fa U).bind λx=>(Eb x).bind λb=>.ok (.bl (!b))):=λA=>PE.weak (qZ (ha A)) λZ H Q ⟨hA,U,g,p⟩=>⟨hA,U,g,Br.bind p λd v H1 _ s1 r1 p1=>by
 obtain⟨c,rfl,p2⟩:=MS p1;exact⟨c,r1.bl_of,p2 _ H1 (AM.refl H1) rfl⟩⟩
theorem Vo{op}(ha:SE X CL W a fa):SE X CL W (.BoolOp op [a] pos) fa:=λA=>qY (ha A)
theorem sP{rest:Ac An}(ha:SE X CL W a fa)(hb:SE X CL W (.BoolOp .And (b::rest) pos) fb):SE X CL W (.BoolOp .And (a::b::rest) pos) (λU=>(fa U).bind λx=>(Eb x).bind λc=>if c=Aa then fb U else .ok (.bl Af)):=
 λA=>PE.weak (uH (ha A) (hb A)) λZ H Q ⟨hA,U,g,p⟩=>⟨hA,U,g,Br.bind p λd v H1 _ s1 r1 p1=>by
  obtain⟨c,rfl,p2⟩:=MS p1;refine⟨c,r1,?_⟩;cases c with
  |true=>exact⟨hA.same s1,U,g.same s1,p2⟩
  | false=>exact p2 _ H1 (AM.refl H1) rfl⟩
theorem yP{rest:Ac An}(ha:SE X CL W a fa)(hb:SE X CL W (.BoolOp .Or (b::rest) pos) fb):SE X CL W (.BoolOp .Or (a::b::rest) pos) (λU=>(fa U).bind λx=>(Eb x).bind λc=>if c=Aa then .ok (.bl Aa) else fb U):=
 λA=>PE.weak (ae (ha A) (hb A)) λZ H Q ⟨hA,U,g,p⟩=>⟨hA,U,g,Br.bind p λd v H1 _ s1 r1 p1=>by
  obtain⟨c,rfl,p2⟩:=MS p1;refine⟨c,r1,?_⟩;cases c with
  |false=>exact⟨hA.same s1,U,g.same s1,p2⟩
  | true=>exact p2 _ H1 (AM.refl H1) rfl⟩
theorem dN{op':DA}(hu:X.A.units+64<CH)(ha:ST X CL W a fa)(hb:ST X CL W b fb)(hc:ST X CL W c fc)(hm:Jz [op,op'] [b,c]=Af):SE X CL W (.Compare a [op,op'] [b,c] pos) (λU=>(fa U).bind λx=>(fb U).bind λy=>(Cf op x y).bind λz=>(Eb z).bind λk=>if k=Aa then (fc U).bind λu=>Cf op' y u else .ok (.bl Af)):=
 λA=>PE.weak (eO (KY hu op A) (KY hu op' A) (ha A) (hb A) (hc A) hm) λZ H Q ⟨hA,U,g,p⟩=>⟨hA,U,g,Br.bind p λdx x H1 _ s1 r1 p1=>⟨hA.same s1,U,g.same s1,Br.bind p1 λdy y H2 _ s2 r2 p2=>
  ⟨(hA.same s1).same s2,dx,dy,r1.same s2,r2,Br.bind p2 λdz z H3 _ s3 r3 p3=>by
   obtain⟨k,rfl,p4⟩:=MS p3;refine⟨k,r3,?_⟩;cases k with
   |false=>exact p4 _ H3 (AM.refl H3) rfl
   | true=>exact⟨((hA.same s1).same s2).same s3,U,((g.same s1).same s2).same s3,Br.bind p4 λdu u H4 _ s4 r4 p5=>⟨(((hA.same s1).same s2).same s3).same s4,dy,du,(r2.same s3).same s4,r4,p5⟩⟩⟩⟩⟩
theorem lH{xs:Ac D}{i:Ad}(h:Ds xs i=.ok d):∃ k,plD xs.length i=Ab k/\xs[k]?=Ab d:=by
 unfold Ds at h;split at h
 .rename_i k e;split at h
  .rename_i d' e';cases h;exact⟨k,e,e'⟩
  .cases h
 .cases h
theorem T4{xs:Ac D}{i:Ad}(h:Ds xs i=.exn x):Bz:=by
 unfold Ds at h;split at h
 .split at h<;>cases h
 .cases h
theorem UM{ds:Ac D}{i:Ad}(r:Reps K CL H A xs ds)(h:Ds ds i=.ok d):∃ v,atI xs i=Ab v/\Rep K CL H A v d:=by
 obtain⟨k,e,q⟩:=lH h;obtain⟨v,hv,rv⟩:=r.get q;refine⟨v,?_,rv⟩;unfold atI;have:ixN xs.length i=Ab k:=by rw[r.length];exact e
 rw[this];exact hv
theorem sJ(hs:P7 b)(ha:ST X CL W a fa)(hb:ST X CL W b fb):SE X CL W (.Subscript a b pos) (λU=>(fa U).bind λx=>(fb U).bind λy=>CF x y):=
 λA=>PE.weak (ag (r:=λx y H Q=>Rt X.K x y H Q\/Rs X.K x y H Q) (mS.or tR) (ha A) (hb A) hs) λZ H Q h=>by
  obtain⟨hA,U,g,h⟩:=op2 h;refine⟨hA,U,g,?_⟩;cases e:fa U with
  |bad=>rw[e]at h;exact h
  |exn x=>rw[e]at h;exact h
  |ok dx0=>
   rw[e]at h;intro x H1 s1 r1;obtain⟨hA1,U1,g1,h1⟩:=h x H1 s1 r1;refine⟨hA1,U1,g1,?_⟩;cases e1:fb U1 with
   |bad=>rw[e1]at h1;exact h1
   |exn x=>rw[e1]at h1;exact h1
   |ok dy0=>
    rw[e1]at h1;intro y H2 s2 r2;obtain⟨hA2,dx,dy,rx,ry,p⟩:=h1 y H2 s2 r2;cases dy with
    |int i=>
     have ey:=ry.int_of;subst ey;cases dx with
     |lst ds=>
      obtain⟨q,xs,rfl,sq,r⟩:=rx.lst_of;rw[zW]at p;cases e2:Ds ds i with
      |ok d=>
       rw[e2]at p;obtain⟨v,hv,rv⟩:=UM r e2;exact .inl ⟨q,xs,i,v,rfl,rfl,sq,hv,p v H2 (AM.refl H2) rv⟩
      |exn x=>exact(T4 e2).elim
      |bad=>rw[e2]at p;exact p.elim
     |tup ds=>
      obtain⟨q,xs,rfl,_,sq,r⟩:=rx.tup_of;rw[zV]at p;cases e2:Ds ds i with
      |ok d=>
       rw[e2]at p;obtain⟨v,hv,rv⟩:=UM r e2;exact .inr ⟨q,xs,i,v,rfl,rfl,sq,hv,p v H2 (AM.refl H2) rv⟩
      |exn x=>exact(T4 e2).elim
      |bad=>rw[e2]at p;exact p.elim
     |dic=>exact rx.plain.elim
     |_=>exact p.elim
    |_=>cases dx<;>first|exact p.elim|exact rx.plain.elim
theorem sT:SA X CL W [] (λ_=>.ok []):=λA=>PA.weak G0 λZ H Q ⟨hA,U,g,p⟩=>p [] H (AM.refl H) trivial
theorem fU(ha:SE X CL W a fa)(hs:SA X CL W es fs)(hst:AF (a::es) X.env=(Af,eval a X.env)::AF es X.env):SA X CL W (a::es) (λU=>(fa U).bind λx=>(fs U).bind λxs=>.ok (x::xs)):=
 λA=>PA.weak (Fo (ha A) (hs A) hst) λZ H Q ⟨hA,U,g,p⟩=>by
  dsimp only at p;refine⟨hA,U,g,?_⟩;cases e:fa U with
  |bad=>rw[e]at p;exact p
  |exn x=>rw[e]at p;exact p
  |ok d=>
   rw[e]at p;intro v H1 s1 r1;refine⟨hA.same s1,U,g.same s1,?_⟩;cases e1:fs U with
   |bad=>rw[R.bind_ok,e1]at p;exact p
   |exn x=>rw[R.bind_ok,e1]at p;exact λH2 s2=>p H2 (s1.trans s2)
   |ok ds=>
    rw[R.bind_ok,e1]at p;exact λvs H2 s2 r2=>p (v::vs) H2 (s1.trans s2) ⟨r1.same s2,r2⟩
theorem oZ(hs:SA X CL W es fs)(hz:∀ U ds,fs U=.ok ds->ds.length<=100000):SE X CL W (.Tuple es k pos) (λU=>(fs U).bind λxs=>.ok (.tup xs)):=
 λA=>PE.weak (qV (hs A)) λZ H Q ⟨hA,U,g,p⟩=>⟨hA,U,g,HZ.bind p λds vs H1 e s1 r1 p1=>⟨by
  rw[r1.length,DT];have:=hz U ds e;omega,λq hq=>p1 _ _ (FE hq _) (KZ (hA.same s1) hq r1)⟩⟩
def Ko(W:XW)(H:Hp)(r:R (Ap Ad))(Q:Ap Ad->Hp->Prop):Prop:=match r with
  |.ok o=>∀ H',AM H H'->Q o H'
  |.exn x=>∀ H',AM H H'->W x H'
  |.bad=>Bz
theorem Ko.bind{r:R (Ap Ad)}{f:Ap Ad->R D}(h:Br Rq W H (r.bind f) Q)(k:∀ o H',r=.ok o->AM H H'->Br Rq W H' (f o) Q->Q' o H'):Ko W H r Q':=by
 cases r with
 |ok d=>exact λH2 s2=>k d H2 rfl s2 (Br.same s2 h)
 |exn x=>exact h
 |bad=>exact h
def SO(X:Cx)(CL:ClA)(W:XW)(e:Ap An)(f:Rho->R (Ap Ad)):Prop:=∀ A,PO X e (λZ H Q=>AOk H A/\∃ U,Good X.K CL A U Z H/\Ko W H (f U) Q)
theorem PO.weak{e:Ap An}{t t':TO}(h:PO X e t)(k:∀ Z H Q,t' Z H Q->t Z H Q):PO X e t':=λpI s Z H Q I q=>h pI s Z H Q I (k _ _ _ q)
theorem gU:SO X CL W Ae (λ_=>.ok Ae):=λA=>PO.weak jA λZ H Q ⟨hA,U,g,p⟩=>p H (AM.refl H)
theorem gS(ha:ST X CL W a fa):SO X CL W (Ab a) (λU=>(fa U).bind λd=>(EQ d).bind λi=>.ok (Ab i)):=λA=>PO.weak (iZ (ha A)) λZ H Q ⟨hA,U,g,p⟩=>by
 dsimp only at p;refine⟨hA,U,g,?_⟩;cases e:fa U with
 |bad=>rw[e]at p;exact p
 |exn x=>rw[e]at p;exact p
 |ok d=>
  rw[e]at p;intro v H1 s1 r1;cases d with
  |int i=>exact⟨i,r1.int_of,p H1 s1⟩
  |_=>exact p.elim
theorem U_1{ds:Ac D}(lo hi:Ap Ad)(r:Reps K CL H A xs ds):Reps K CL H A (JO xs lo hi) (Lu ds lo hi):=by
 unfold JO Lu;have e:∀ d o,HT.sIx xs.length d o=G7 ds.length d o:=λd o=>by rw[r.length];cases o<;>rfl
 rw[e,e,r.length];exact(r.drop _).take _
end
section
variable{X:Cx}{CL:ClA}{W:XW}{a b c:An}{fa fb fc:Rho->R D}{pos:A7}
def Gk(K:Fg)(CL:ClA)(H:Hp)(A:Am->Prop):Ac V->Ac D->Prop
 |[],[]=>GL
 |v::vs,d::ds=>Dh K CL H A v d/\Gk K CL H A vs ds
 |_,_=>Bz
theorem Gk.same{K:Fg}{H H':Hp}{A:Am->Prop}(s:AM H H'):∀{vs:Ac V}{ds:Ac D},Gk K CL H A vs ds->Gk K CL H' A vs ds
 |[],[],h=>h
 |_::_,_::_,h=>⟨h.1.same s,Gk.same s h.2⟩
 |[],_::_,h=>h.elim
 |_::_,[],h=>h.elim
theorem Gk.one(h:Gk K CL H A vs [d]):∃ v,vs=[v]/\Dh K CL H A v d:=by
 cases vs with
 |nil=>exact h.elim
 |cons v vs=>
  cases vs with
  |nil=>exact⟨v,rfl,h.1⟩
  |cons=>exact h.2.elim
theorem Gk.two{e:D}(h:Gk K CL H A vs [d,e]):∃ v w',vs=[v,w']/\Dh K CL H A v d/\Dh K CL H A w' e:=by
 cases vs with
 |nil=>exact h.elim
 |cons v vs=>
  cases vs with
  |nil=>exact h.2.elim
  |cons w' vs=>
   cases vs with
   |nil=>exact⟨v,w',rfl,h.1,h.2.1⟩
   |cons=>exact h.2.2.elim
def SAT(X:Cx)(CL:ClA)(W:XW)(es:Ac An)(f:Rho->R (Ac D)):Prop:=∀ A,PA X es (λZ H Q=>AOk H A/\∃ U,Good X.K CL A U Z H/\HZ (λH=>Gk X.K CL H A) W H (f U) Q)
theorem fS:SAT X CL W [] (λ_=>.ok []):=λA=>PA.weak G0 λZ H Q ⟨hA,U,g,p⟩=>p [] H (AM.refl H) trivial
theorem dQ(ha:ST X CL W a fa)(hs:SAT X CL W es fs)(hst:AF (a::es) X.env=(Af,eval a X.env)::AF es X.env):SAT X CL W (a::es) (λU=>(fa U).bind λx=>(fs U).bind λxs=>.ok (x::xs)):=
 λA=>PA.weak (Fo (ha A) (hs A) hst) λZ H Q ⟨hA,U,g,p⟩=>by
  dsimp only at p;refine⟨hA,U,g,?_⟩;cases e:fa U with
  |bad=>rw[e]at p;exact p
  |exn x=>rw[e]at p;exact p
  |ok d=>
   rw[e]at p;intro v H1 s1 r1;refine⟨hA.same s1,U,g.same s1,?_⟩;cases e1:fs U with
   |bad=>rw[R.bind_ok,e1]at p;exact p
   |exn x=>rw[R.bind_ok,e1]at p;exact λH2 s2=>p H2 (s1.trans s2)
   |ok ds=>
    rw[R.bind_ok,e1]at p;exact λvs H2 s2 r2=>p (v::vs) H2 (s1.trans s2) ⟨r1.same s2,r2⟩
def Jg(X:Cx)(CL:ClA)(W:XW)(f:Ai)(g:Ac D->R D):Prop:=∀ A,H9 X f (λxs H Q=>AOk H A/\∃ ds,Gk X.K CL H A xs ds/\Br (λH=>Rep X.K CL H A) W H (g ds) Q)
theorem K1{x:Al}{id:Dj}{g:Ac D->R D}(hc:Jg X CL W (.builtin id) g)(hg:Gl X x)(hm:X.mg x=Ae)(hv:Dr x=Ab (.builtin id))(ha:SAT X CL W (e::es) fs)(hn:x≠"__name__")(hdb:(x==("__debug__" : Al))=Af)(he:AF (e::es) X.env=(Af,eval e X.env)::AF es X.env)(hpl:∀ pos,(C4 pos (AF es X.env)).any (·.1)=Af):SE X CL W (.Call (.Name x p) (e::es) [] pos) (λU=>(fs U).bind g):=λA=>PE.weak (TF (hc A) hg hm hv (ha A) hn hdb he (hpl _)) λZ H Q ⟨hA,U,gd,q⟩=>⟨hA,U,gd,HZ.bind q λds vs H1 _ s1 r1 p1=>⟨hA.same s1,ds,r1,p1⟩⟩
theorem sO{x:Al}{g:Ac D->R D}(hc:Jg X CL W (.type T) g)(hg:Gl X x)(hm:X.mg x=Ae)(hv:Dr x=Ab (.type T))(ha:SAT X CL W (e::es) fs)(hn:x≠"__name__")(hdb:(x==("__debug__" : Al))=Af)(he:AF (e::es) X.env=(Af,eval e X.env)::AF es X.env)(hpl:∀ pos,(C4 pos (AF es X.env)).any (·.1)=Af):SE X CL W (.Call (.Name x p) (e::es) [] pos) (λU=>(fs U).bind g):=λA=>PE.weak (SZ (hc A) hg hm hv (ha A) hn hdb he (hpl _)) λZ H Q ⟨hA,U,gd,q⟩=>⟨hA,U,gd,HZ.bind q λds vs H1 _ s1 r1 p1=>⟨hA.same s1,ds,r1,p1⟩⟩
theorem uY:Jg X CL W (.builtin "len") (biD .len):=by
  intro A pI s Z H xs us Q I r ⟨hA,ds,rs,p⟩
  match ds,rs,p with
  |[.lst es],rs,p=>
    obtain⟨v,rfl,rv⟩:=rs.one;obtain⟨q,ys,rfl,sq,ry⟩:=rv.lst_of;exact RZ pI s Z H _ us Q I r ⟨q,ys,rfl,.inl sq,p _ H (AM.refl H) (by rw[ry.length];rfl)⟩
  |[.tup es],rs,p=>
    obtain⟨v,rfl,rv⟩:=rs.one;obtain⟨q,ys,rfl,_,sq,ry⟩:=rv.tup_of;exact RZ pI s Z H _ us Q I r ⟨q,ys,rfl,.inr sq,p _ H (AM.refl H) (by rw[ry.length];rfl)⟩
  |[.str x],rs,p=>
    obtain⟨v,rfl,rv⟩:=rs.one;have e:=rv.str_of;subst e;have p':Br (λH=>Rep X.K CL H A) W H (if Di x.length=Aa then .ok (.int x.length) else .bad) Q:=p
    split at p'
    · rename_i h;exact ZJ pI s Z H _ us Q I r ⟨x,rfl,IZ h,p' _ H (AM.refl H) rfl⟩
    · exact p'.elim
  |[],_,p=>exact p.elim
  |[.non],_,p=>exact p.elim
  |[.bl _],_,p=>exact p.elim
  |[.int _],_,p=>exact p.elim
  |[.obj _ _],_,p=>exact p.elim
  |[.exc _ _],_,p=>exact p.elim
  |[.dic _],rs,p=>first|exact p.elim|(obtain⟨v,rfl,rv⟩:=rs.one;exact rv.plain.elim)
  |x::_::_,_,p=>cases x<;>exact p.elim
theorem aO(ds:Ac D):(∃ i j,ds=[.int i,.int j])\/biD .max ds=.bad:=by
  match ds with
  |[.int i,.int j]=>exact .inl ⟨i,j,rfl⟩
  |[]=>exact .inr rfl
  |[x]=>cases x<;>exact .inr rfl
  |x::y::z::r=>cases x<;>cases y<;>exact .inr rfl
  |[x,.non]=>cases x<;>exact .inr rfl
  |[x,.bl _]=>cases x<;>exact .inr rfl
  |[x,.str _]=>cases x<;>exact .inr rfl
  |[x,.tup _]=>cases x<;>exact .inr rfl
  |[x,.lst _]=>cases x<;>exact .inr rfl
  |[x,.obj _ _]=>cases x<;>exact .inr rfl
  |[x,.exc _ _]=>cases x<;>exact .inr rfl
  |[x,.dic _]=>cases x<;>exact .inr rfl
  |[.non,.int _]=>exact .inr rfl
  |[.bl _,.int _]=>exact .inr rfl
  |[.str _,.int _]=>exact .inr rfl
  |[.tup _,.int _]=>exact .inr rfl
  |[.lst _,.int _]=>exact .inr rfl
  |[.obj _ _,.int _]=>exact .inr rfl
  |[.exc _ _,.int _]=>exact .inr rfl
  |[.dic _,.int _]=>exact .inr rfl
theorem S9:∀(is:Ac Ad)(i:Ad),IG i is∈i::is/\∀ a∈i::is,IG i is<=a
 |[],i=>⟨Az,λa h=>by rw[List.mem_singleton]at h;rw[h];exact G9 _⟩
 |j::r,i=>by
  obtain⟨h1,h2⟩:=S9 r (if j<i then j else i)
  refine⟨?_,λa h=>?_⟩
  .show IG (if j<i then j else i) r∈_
   rcases At.mp h1 with e|e
   .rw[e];split
    .exact Au _ Az
    .exact Az
   .exact Au _ (Au _ e)
  .show IG (if j<i then j else i) r<=a
   have h0:=h2 _ Az;rcases At.mp h with e|e
   .subst e;refine Jr h0 ?_;split<;>omega
   .rcases At.mp e with e|e
    .subst e;refine Jr h0 ?_;split<;>omega
    .exact h2 a (Au _ e)
theorem Sn:∀{is:Ac Ad}{its:Ac Ai},Bi (is.map V.int) its->∃ xs:AY (Ad×DF),its.toArray=LH xs/\xs.toList.map (·.1)=is
 |[],_,h=>by cases h;exact⟨#[],by simp[LH],rfl⟩
 |i::is,_,h=>by
  cases h with
  |cons h1 h2=>
   obtain⟨t,rfl⟩:=h1;obtain⟨xs,e1,e2⟩:=Sn h2;refine⟨((i,t)::xs.toList).toArray,?_,?_⟩
   .apply Array.toList_inj.mp
    have e1':=congrArg Jq e1;simp[LH]at e1' ⊢;exact e1'
   .simp[e2]
theorem cE(hc:X.calm=Aa):H9 X (.builtin "min") (λxs H Q=>∃ a i is,xs=[.ref a]/\SqL X.K H a ((i::is).map V.int)/\Q (.int (IG i is)) H):=by
 intro pI s Z H xs us Q I r h;obtain⟨a,i,is,rfl,sq,q⟩:=h;obtain⟨u,rfl,ru⟩:=IC r;cases ru;obtain⟨its,rv,pl,hz⟩:=I.list sq;obtain⟨ys,e1,e2⟩:=Sn rv;have hsz:0<ys.size:=by
  have:=congrArg WI e2;simp at this;omega
 have hl:=pl.isList;rw[e1]at hl;refine min_intList (I.ok.hd hc) hl hsz λv h' tk hv hk=>?_
 obtain⟨t,rfl⟩:=intItems_at hv;obtain⟨h1,h2⟩:=argBest_lt (IX ys) (ys.size-1);have nm:∀ j,j<ys.size->IX ys j∈i::is:=λj hj=>by
  rw[<-e2];unfold IX;rw[BN hj];simp only[D5,Option.getD_some];exact BL.mpr ⟨ys[j],by simp,rfl⟩
 have nx:∀ x∈i::is,∃ j,j<ys.size/\IX ys j=x:=λx hx=>by
  rw[<-e2]at hx;obtain⟨y,hy,rfl⟩:=BL.mp hx;obtain⟨j,hj,ej⟩:=Array.mem_iff_getElem.mp (Wp.mp hy);refine⟨j,hj,?_⟩;unfold IX;rw[BN hj,ej];rfl
 obtain⟨m1,m2⟩:=S9 is i;have em:IX ys (argBest (λi j=>decide (IX ys i<IX ys j)) (ys.size-1))=IG i is:=by
  refine Int.le_antisymm ?_ (m2 _ (nm _ (by omega)))
  obtain⟨j,hj,ej⟩:=nx _ m1;rw[<-ej];exact h2 j (by omega)
 rw[em];exact⟨.int (IG i is),H,I.kept hk,⟨_,rfl⟩,q⟩
theorem So{K:Fg}{CL:ClA}{H:Hp}{A:Am->Prop}:∀{es:Ac D}{is:Ac Ad}{ys:Ac V},Jh es=Ab is->Reps K CL H A ys es->ys=is.map V.int
 |[],_,[],h,_=>by cases h;rfl
 |[],_,_::_,_,r=>r.elim
 |_::_,_,[],_,r=>r.elim
 |e::es,is,y::ys,h,r=>by
  cases e with
  |int i=>
   have h':(Jh es).map (i :: ·)=Ab is:=h;cases e2:Jh es with
   |none=>rw[e2]at h';cases h'
   |some js=>
    rw[e2]at h';cases h';have ih:=So e2 r.2;have e1:y=.int i:=r.1;rw[ih,e1];rfl
  |_=>cases h
theorem aN(ds:Ac D)(hl:∀ es,ds≠[.lst es]):(∃ i j,ds=[.int i,.int j])\/biD .min ds=.bad:=by
 rcases ds with _|⟨x,_|⟨y,_|⟨z,r⟩⟩⟩
 .exact .inr rfl
 .cases x with
  |lst es=>exact absurd rfl (hl es)
  |_=>exact .inr rfl
 .cases x with
  |int i=>
   cases y with
   |int j=>exact .inl ⟨i,j,rfl⟩
   |_=>exact .inr rfl
  |_=>exact .inr rfl
 .cases x with
  |int i=>cases y<;>exact .inr rfl
  |_=>exact .inr rfl
theorem uX(hc:X.calm=Aa):Jg X CL W (.builtin "max") (biD .max):=by
 intro A pI s Z H xs us Q I r ⟨hA,ds,rs,p⟩;rcases aO ds with ⟨i,j,rfl⟩|e
 .obtain⟨v,w',rfl,rv,rw'⟩:=rs.two;have e1:=rv.int_of;have e2:=rw'.int_of
  subst e1 e2;exact cI hc pI s Z H _ us Q I r ⟨i,j,rfl,p _ H (AM.refl H) rfl⟩
 .rw[e]at p;exact p.elim
theorem wH(hc:X.calm=Aa):Jg X CL W (.builtin "min") (biD .min):=by
  intro A pI s Z H xs us Q I r ⟨hA,ds,rs,p⟩;by_cases hls:∃ es,ds=[.lst es]
  · obtain⟨es,rfl⟩:=hls;obtain⟨v,rfl,rv⟩:=rs.one;obtain⟨a,ys,rfl,sq,ry⟩:=rv.lst_of;have p':Br (Rep X.K CL · A) W H (match Jh es with
      |some (i::is)=>R.ok (.int (IG i is))
      | _=>.bad) Q:=p
    cases e1:Jh es with
    |none=>rw[e1]at p';exact p'.elim
    |some is=>
      cases is with
      |nil=>rw[e1]at p';exact p'.elim
      |cons i is=>
        rw[e1]at p';have ey:=So e1 ry;subst ey;exact cE hc pI s Z H _ us Q I r ⟨a,i,is,rfl,sq,p' _ H (AM.refl H) rfl⟩
  rcases aN ds (λes z=>hls ⟨es,z⟩) with ⟨i,j,rfl⟩|e
  · obtain⟨v,w',rfl,rv,rw'⟩:=rs.two;have e1:=rv.int_of;have e2:=rw'.int_of
    subst e1 e2;exact cH hc pI s Z H _ us Q I r ⟨i,j,rfl,p _ H (AM.refl H) rfl⟩
  · rw[e]at p;exact p.elim
theorem fE:Jg X CL W (.type "tuple") (biD .tuple):=by
  intro A pI s Z H xs us Q I r ⟨hA,ds,rs,p⟩
  match ds,rs,p with
  |[.lst es],rs,p=>
    obtain⟨v,rfl,rv⟩:=rs.one;obtain⟨q,ys,rfl,sq,ry⟩:=rv.lst_of;exact R6 pI s Z H _ us Q I r ⟨q,ys,rfl,.inl ⟨sq,λl hl=>p _ _ (FE hl _) (KZ hA hl ry)⟩⟩
  |[.tup es],rs,p=>
    obtain⟨v,rfl,rv⟩:=rs.one;obtain⟨q,ys,rfl,na,sq,ry⟩:=rv.tup_of;exact R6 pI s Z H _ us Q I r ⟨q,ys,rfl,.inr ⟨sq,p _ H (AM.refl H) ⟨q,ys,rfl,na,sq,ry⟩⟩⟩
  |[],_,p=>exact p.elim
  |[.non],_,p=>exact p.elim
  |[.bl _],_,p=>exact p.elim
  |[.int _],_,p=>exact p.elim
  |[.str _],_,p=>exact p.elim
  |[.obj _ _],_,p=>exact p.elim
  |[.exc _ _],_,p=>exact p.elim
  |[.dic _],rs,p=>first|exact p.elim|(obtain⟨v,rfl,rv⟩:=rs.one;exact rv.plain.elim)
  |x::_::_,_,p=>cases x<;>exact p.elim
end
section
variable{X:Cx}{CL:ClA}{W:XW}{a b c:An}{fa fb fc:Rho->R D}{pos:A7}
theorem SB.congr{g:Rho->R Aj}(h:SB X CL W a f)(e:∀ U,g U=f U):SB X CL W a g:=λA=>PT.weak (h A) λZ H Q ⟨hA,U,q,p⟩=>⟨hA,U,q,by rw[<-e];exact p⟩
theorem sR(ha:SB X CL W a f):SB X CL W (.UnaryOp .Not a pos) (λU=>(f U).bind λb=>.ok (!b)):=λA=>PT.weak (rZ (ha A)) λZ H Q ⟨hA,U,g,p⟩=>⟨hA,U,g,Du.bindB p λb H1 _ s1 p1=>p1 H1 (AM.refl H1)⟩
def SW(X:Cx)(CL:ClA)(W:XW)(e:An)(f:Rho->R Aj):Prop:=∀ A,PW X e (λZ H Q=>AOk H A/\∃ U,Good X.K CL A U Z H/\Du W H (f U) Q)
theorem PW.weak{t t':TT}(h:PW X e t)(k:∀ Z H Q,t' Z H Q->t Z H Q):PW X e t':=λwh pI s Z H Q I q=>h wh pI s Z H Q I (k _ _ _ q)
theorem SW.sb(h:SW X CL W a f):SB X CL W a f:=λA=>PW.pt (h A)
theorem SW.congr{g:Rho->R Aj}(h:SW X CL W a f)(e:∀ U,g U=f U):SW X CL W a g:=λA=>PW.weak (h A) λZ H Q ⟨hA,U,q,p⟩=>⟨hA,U,q,by rw[<-e];exact p⟩
theorem gE(ha:SB X CL W a f):SW X CL W (.BoolOp .And [a] pos) f:=λA=>kP (ha A)
theorem pO(ha:SB X CL W a f):SW X CL W (.BoolOp .Or [a] pos) f:=λA=>rX (ha A)
theorem pP{g:Rho->R Aj}{rest:Ac An}(ha:SB X CL W a f)(hb:SW X CL W (.BoolOp .And (b::rest) pos) g):SW X CL W (.BoolOp .And (a::b::rest) pos) (λU=>(f U).bind λc=>if c=Aa then g U else .ok Af):=
 λA=>PW.weak (rY (ha A) (hb A)) λZ H Q ⟨hA,U,gd,p⟩=>⟨hA,U,gd,Du.bindB p λc H1 _ s1 p1=>by
  cases c with
  |true=>exact⟨hA.same s1,U,gd.same s1,p1⟩
  | false=>exact p1 H1 (AM.refl H1)⟩
theorem wO{g:Rho->R Aj}{rest:Ac An}(ha:SB X CL W a f)(hb:SW X CL W (.BoolOp .Or (b::rest) pos) g):SW X CL W (.BoolOp .Or (a::b::rest) pos) (λU=>(f U).bind λc=>if c=Aa then .ok Aa else g U):=
 λA=>PW.weak (xJ (ha A) (hb A)) λZ H Q ⟨hA,U,gd,p⟩=>⟨hA,U,gd,Du.bindB p λc H1 _ s1 p1=>by
  cases c with
  |false=>exact⟨hA.same s1,U,gd.same s1,p1⟩
  | true=>exact p1 H1 (AM.refl H1)⟩
theorem sS(ho:OpD X CL W (CW op) g)(ha:ST X CL W a fa)(hb:ST X CL W b fb)(hm:Hi op b=Af):SB X CL W (.Compare a [op] [b] pos) (λU=>(fa U).bind λx=>(fb U).bind λy=>(g x y).bind Eb):=
 λA=>PT.weak (iV (ho A) (ha A) (hb A) hm) λZ H Q ⟨hA,U,gd,p⟩=>⟨hA,U,gd,Du.bind p λdx x H1 _ s1 r1 p1=>⟨hA.same s1,U,gd.same s1,Du.bind p1 λdy y H2 _ s2 r2 p2=>
  ⟨(hA.same s1).same s2,dx,dy,r1.same s2,r2,Du.bind p2 λdz z H3 _ s3 r3 p3=>by
   cases dz with
   |bl k=>exact⟨k,r3,p3 H3 (AM.refl H3)⟩
   | _=>exact p3.elim⟩⟩⟩
theorem dP{op':DA}(hu:X.A.units+64<CH)(ha:ST X CL W a fa)(hb:ST X CL W b fb)(hc:ST X CL W c fc)(hm:Jz [op,op'] [b,c]=Af):SB X CL W (.Compare a [op,op'] [b,c] pos) (λU=>(fa U).bind λx=>(fb U).bind λy=>(Cf op x y).bind λz=>(Eb z).bind λk=>if k=Aa then (fc U).bind λu=>(Cf op' y u).bind Eb else .ok Af):=
  λA=>PT.weak (eH (KY hu op A) (KY hu op' A) (ha A) (hb A) (hc A) hm) λZ H Q ⟨hA,U,g,p⟩=>⟨hA,U,g,Du.bind p λdx x H1 _ s1 r1 p1=>⟨hA.same s1,U,g.same s1,Du.bind p1 λdy y H2 _ s2 r2 p2=>
    ⟨(hA.same s1).same s2,dx,dy,r1.same s2,r2,Du.bind p2 λdz z H3 _ s3 r3 p3=>by
      cases dz with
      |bl k=>
        refine⟨k,r3,?_⟩;cases k with
        |false=>exact⟨Af,rfl,p3 H3 (AM.refl H3)⟩
        | true=>exact⟨((hA.same s1).same s2).same s3,U,((g.same s1).same s2).same s3,Du.bind p3 λdu u H4 _ s4 r4 p5=>⟨(((hA.same s1).same s2).same s3).same s4,dy,du,(r2.same s3).same s4,r4,Du.bind p5 λdv v H5 _ s5 r5 p6=>by
            cases dv with
            |bl k'=>exact⟨k',r5,p6 H5 (AM.refl H5)⟩
            | _=>exact p6.elim⟩⟩
      | _=>exact p3.elim⟩⟩⟩
theorem sQ(ha:ST X CL W a fa)(he:∀ whole,IM a X.env whole=(do let v <-whole;JU a.pos;holding [v] (truthy v))):SB X CL W a (λU=>(fa U).bind CD):=
 λA=>PT.weak (eG (ha A) he) λZ H Q ⟨hA,U,g,p⟩=>⟨hA,U,g,Du.bind p λd v H1 _ s1 r1 p1=>by
  cases d with
  |non=>
   have e:=r1.non_of;subst e;exact⟨Af,rfl,p1 H1 (AM.refl H1)⟩
  |bl b=>
   have e:=r1.bl_of;subst e;exact⟨b,rfl,p1 H1 (AM.refl H1)⟩
  |int i=>
   have e:=r1.int_of;subst e;exact⟨_,rfl,p1 H1 (AM.refl H1)⟩
  |str x=>
   have e:=r1.str_of;subst e;have p2:Du W H1 (if Di x.length=Aa then .ok (x.length != 0) else .bad) Q:=p1
   split at p2
   .rename_i h;refine⟨_,⟨IZ h,rfl⟩,?_⟩;have e:((x.length:Ad) != 0)=(x.length != 0):=by
     rw[DZ];simp
    rw[e];exact p2 H1 (AM.refl H1)
   .exact p2.elim
  |tup ds=>
   obtain⟨q,xs,rfl,_,sq,r⟩:=r1.tup_of;refine⟨_,.inr (.inl ⟨xs,sq,rfl⟩),?_⟩;have e:xs.isEmpty=ds.isEmpty:=by
    have:=r.length;cases xs<;>cases ds<;>first|rfl|cases this
   rw[e];exact p1 H1 (AM.refl H1)
  |lst ds=>
   obtain⟨q,xs,rfl,sq,r⟩:=r1.lst_of;refine⟨_,.inl ⟨xs,sq,rfl⟩,?_⟩;have e:xs.isEmpty=ds.isEmpty:=by
    have:=r.length;cases xs<;>cases ds<;>first|rfl|cases this
   rw[e];exact p1 H1 (AM.refl H1)
  | _=>exact p1.elim⟩
noncomputable def Zp(K:Fg)(CL:ClA)(H:Hp)(A:Am->Prop)(cls:Ai)(dx:Ap Am)(x:Ex):Prop:=
 ∃ C,CL x.c=Ab C/\cls=.ref C/\(x.fs=[]\/∃ d vs,dx=Ab d/\¬ A d/\H d=Ab (.xd vs)/\Repf K CL H A vs x.fs)
def HY(K:Fg)(CL:ClA)(H:Hp)(cls:Ai)(dx:Ap Am)(x:Ex):Prop:=∀ A,AOk H A->Zp K CL H A cls dx x
end
def BG(B:Am->Prop)(U:Rho)(Z:L2.St):Am->Prop:=λa=>B a\/∃(j:Ag)(d:D),U[j]?=Ab (Ab (d,Aa))/\Z[j]?=Ab (Ab (.ref a))
structure Sx (K:Fg) (CL:ClA) (Fz:Am->HO->Prop) (B:Am->Prop) (U:Rho) (Z:L2.St) (H:Hp):Prop where
 good:Good K CL (BG B U Z) U Z H
 aok:AOk H (BG B U Z)
 new:∀(j:Ag)(d:D)(a:Am),U[j]?=Ab (Ab (d,Aa))->Z[j]?=Ab (Ab (.ref a))->(∀ o,¬ Fz a o)/\¬ B a
 dis:∀(i j:Ag)(d e:D)(a:Am),U[i]?=Ab (Ab (d,Aa))->U[j]?=Ab (Ab (e,Aa))->Z[i]?=Ab (Ab (.ref a))->Z[j]?=Ab (Ab (.ref a))->i=j
 same:∀ b o,Fz b o->H b=Ab o
 len:U.length=Z.length
def CQ(K:Fg)(CL:ClA)(Fz:Am->HO->Prop)(B:Am->Prop)(W:XW)(o:O)(D:Ends):Prop:=match o with
  |.next U=>∀ Z H,Sx K CL Fz B U Z H->D.nx Z H
  |.brk U=>∀ Z H,Sx K CL Fz B U Z H->D.bk Z H
  |.cont U=>∀ Z H,Sx K CL Fz B U Z H->D.ct Z H
  |.ret d fr=>∀ v H,(∀ b o,Fz b o->H b=Ab o)->Rep K CL H B v d->(fr=Aa->∀ ds,d=.lst ds->∃ a xs,v=.ref a/\(∀ o,¬ Fz a o)/\H a=Ab (.lst xs)/\Reps K CL H (λb=>B b\/b=a) xs ds)->D.rt v H
  |.exn x _=>∀ H,(∀ b o,Fz b o->H b=Ab o)->W x H
  |.bad=>Bz
section
variable{K:Fg}{CL:ClA}{Fz Fy:Am->HO->Prop}{B:Am->Prop}{U:Rho}{Z:L2.St}{H H':Hp}
theorem Sx.mono(k:∀ b o,Fz b o->Fy b o)(x:Sx K CL Fy B U Z H):Sx K CL Fz B U Z H:=⟨x.good,x.aok,λj d a h1 h2=>⟨λo z=>(x.new j d a h1 h2).1 o (k _ _ z),(x.new j d a h1 h2).2⟩,x.dis,λb o z=>x.same b o (k _ _ z),x.len⟩
theorem Sx.grow(x:Sx K CL Fz B U Z H)(s:AM H H'):Sx K CL Fz B U Z H':=⟨x.good.same s,x.aok.same s,x.new,x.dis,λb o z=>s _ _ (x.same b o z),x.len⟩
theorem Cj{l:Ac α}{v:α}(h:i≠j):(l.set i v)[j]?=l[j]?:=by rw[Gx h]
theorem Hm{l:Ac α}{v w':α}(h:(l.set i v)[i]?=Ab w'):w'=v:=by
 rw[FR]at h;cases e:l[i]? with
 |none=>rw[e]at h;cases h
 |some x=>rw[e]at h;cases h;rfl
theorem Sx.set(x:Sx K CL Fz B U Z H){v:V}{d:D}(i:Ag)(r:Rep K CL H (BG B U Z) v d):Sx K CL Fz B (U.set i (Ab (d,Af))) (Z.set i (Ab v)) H:=by
 have own:∀(j:Ag)(e:D),(U.set i (Ab (d,Af)))[j]?=Ab (Ab (e,Aa))->i≠j/\U[j]?=Ab (Ab (e,Aa)):=λj e h=>by
  by_cases hj:i=j
  .subst hj;have:=Hm h;cases this
  .exact⟨hj,by rw[Cj hj]at h;exact h⟩
 have sub:∀ a,BG B (U.set i (Ab (d,Af))) (Z.set i (Ab v)) a->BG B U Z a:=λa h=>by
  rcases h with h|⟨j,e,h1,h2⟩
  .exact .inl h
  .obtain⟨hj,h1⟩:=own j e h1;rw[Cj hj]at h2;exact .inr ⟨j,e,h1,h2⟩
 refine⟨⟨λj e h=>?_,λj e h=>?_,by rw[Bj,Bj];exact x.len⟩,λa h=>x.aok a (sub a h),λj e a h1 h2=>?_,λj k e f a h1 h2 h3 h4=>?_,x.same,by rw[Bj,Bj];exact x.len⟩
 .by_cases hj:i=j
  .subst hj;have e1:=Hm h;cases e1;refine⟨v,?_,Rep.sub sub _ r⟩;have hl:i<Z.length:=by
    rw[<-x.len];have:=(AX.mp h).1;simpa using this
   rw[CA hl]
  .rw[Cj hj]at h;obtain⟨w',q,rw'⟩:=x.good.sh j e h;exact⟨w',by rw[Cj hj];exact q,Rep.sub sub _ rw'⟩
 .obtain⟨hj,h1⟩:=own j e h;obtain⟨a,xs,ds,q,z,ha,hh,rr⟩:=x.good.ow j e h1;exact⟨a,xs,ds,by rw[Cj hj];exact q,z,.inr ⟨j,e,h,by rw[Cj hj];exact q⟩,hh,Reps.sub sub _ rr⟩
 .obtain⟨hj,h1⟩:=own j e h1;rw[Cj hj]at h2;exact x.new j e a h1 h2
 .obtain⟨hj,h1⟩:=own j e h1;obtain⟨hk,h2⟩:=own k f h2;rw[Cj hj]at h3;rw[Cj hk]at h4;exact x.dis j k e f a h1 h2 h3 h4
end
section
variable{X:Cx}{CL:ClA}{W:XW}{pos:A7}{e:An}{fe:Rho->R D}
def SS(X:Cx)(CL:ClA)(W:XW)(st:Bx)(f:Rho->O):Prop:=∀ Fz B,PS X st (λD Z H=>∃ U,Sx X.K CL Fz B U Z H/\CQ X.K CL Fz B W (f U) D)
def SSs(X:Cx)(CL:ClA)(W:XW)(st:Ac Bx)(f:Rho->O):Prop:=∀ Fz B,PSs X st (λD Z H=>∃ U,Sx X.K CL Fz B U Z H/\CQ X.K CL Fz B W (f U) D)
theorem PS.weak{e:Bx}{t t':TS}(h:PS X e t)(k:∀ D Z H,t' D Z H->t D Z H):PS X e t':=λpI s Z H D I q=>h pI s Z H D I (k _ _ _ q)
theorem PSs.weak{e:Ac Bx}{t t':TS}(h:PSs X e t)(k:∀ D Z H,t' D Z H->t D Z H):PSs X e t':=λpI s Z H D I q=>h pI s Z H D I (k _ _ _ q)
theorem CQ.ex{f:D->O}(x:Sx X.K CL Fz B U Z H)(h:CQ X.K CL Fz B W (O.of U r f) D')(k:∀ d v H',r=.ok d->AM H H'->Rp H' v d->Sx X.K CL Fz B U Z H'->CQ X.K CL Fz B W (f d) D'->Q v H'):Br Rp W H r Q:=by
 cases r with
 |ok d=>exact λv H' s r=>k d v H' rfl s r (x.grow s) h
 |exn y=>exact λH' s=>h H' λb o z=>s _ _ (x.same b o z)
 |bad=>exact h
theorem CQ.exB{r:R Aj}{f:Aj->O}{Q:Aj->Hp->Prop}(x:Sx X.K CL Fz B U Z H)(h:CQ X.K CL Fz B W (O.of U r f) D')(k:∀ b H',r=.ok b->AM H H'->Sx X.K CL Fz B U Z H'->CQ X.K CL Fz B W (f b) D'->Q b H'):Du W H r Q:=by
 cases r with
 |ok d=>exact λH' s=>k d H' rfl s (x.grow s) h
 |exn y=>exact λH' s=>h H' λb o z=>s _ _ (x.same b o z)
 |bad=>exact h
theorem gO(he:SE X CL W e fe)(hs:DJ e Ae pos.line X.env=pure Af):SS X CL W (.Expr e pos) (λU=>O.of U (fe U) λ_=>.next U):=λFz B pI s Z H D I ⟨U,x,p⟩=>
 Nh (he (BG B U Z)) hs pI s Z H D I ⟨x.aok,U,x.good,CQ.ex x p λd v H' _ s r x' q=>q Z H' x'⟩
theorem gL(he:SE X CL W e fe):SS X CL W (.Return (Ab e) pos) (λU=>O.of U (fe U) λd=>.ret d Af):=λFz B pI s Z H D I ⟨U,x,p⟩=>
 Qm (he (BG B U Z)) pI s Z H D I ⟨x.aok,U,x.good,CQ.ex x p λd v H' _ s r x' q=>q v H' x'.same (Rep.sub (λa h=>.inl h) _ r) λz=>nomatch z⟩
theorem wW{a b:Ac Bx}{fa fb:Rho->O}(hc:SB X CL W c fc)(ha:SSs X CL W a fa)(hb:SSs X CL W b fb):SS X CL W (.If c a b pos) (λU=>O.of U (fc U) λk=>if k=Aa then fa U else fb U):=λFz B pI s Z H D I ⟨U,x,p⟩=>
 xL (hc (BG B U Z)) (ha Fz B) (hb Fz B) pI s Z H D I ⟨x.aok,U,x.good,CQ.exB x p λk H' _ s x' q=>by
  cases k with
  |true=>exact⟨U,x',q⟩
  | false=>exact⟨U,x',q⟩⟩
theorem gJ:SSs X CL W [] (λU=>.next U):=λFz B=>PSs.weak iW λD Z H ⟨U,x,p⟩=>p Z H x
theorem bN{st:Bx}{rest:Ac Bx}{f g:Rho->O}(h1:SS X CL W st f)(h2:SSs X CL W rest g):SSs X CL W (st::rest) (λU=>(f U).seq g):=λFz B=>PSs.weak (eI (h1 Fz B) (h2 Fz B)) λD Z H ⟨U,x,p⟩=>⟨U,x,by
 dsimp only at p;cases e:f U with
 |next U'=>rw[e]at p;exact λZ' H' x'=>⟨U',x',p⟩
 |ret d b=>rw[e]at p;exact p
 |brk U'=>rw[e]at p;exact p
 |cont U'=>rw[e]at p;exact p
 |exn y U'=>rw[e]at p;exact p
 | bad=>rw[e]at p;exact p⟩
end
def II(K:Fg)(CL:ClA)(A:Am->Prop)(ds:Ac D)(J:It)(H1:Hp):Prop:=∀ H,Kp A H1 H->∀ i:Ag,(ds.length<=i->J.stop i H)/\∀ d,ds[i]?=Ab d->J.go i H/\∀ x H',J.yld i H x H'->AM H H'/\∀ B,(∀ a,B a->A a\/H1 a=Ae)->AOk H B->Rep K CL H' B x d
def E4(K:Fg)(CL:ClA)(A:Am->Prop)(W:XW)(H:Hp)(r:R (Ac D))(Q:It->Hp->Prop):Prop:=match r with
  |.ok ds=>∀ J H',AM H H'->II K CL A ds J H'->ds.length<=sizeLine->Q J H'
  |.exn x=>∀ H',AM H H'->W x H'
  |.bad=>Bz
def SI(X:Cx)(CL:ClA)(W:XW)(tg iter:An)(f:Rho->R (Ac D)):Prop:=∀ A,PI X tg iter (λZ H R=>AOk H A/\∃ U,Good X.K CL A U Z H/\E4 X.K CL A W H (f U) R)
theorem PI.weak{t t':TI}(h:PI X tg e t)(k:∀ Z H Q,t' Z H Q->t Z H Q):PI X tg e t':=λpI s Z H Q I q=>h pI s Z H Q I (k _ _ _ q)
section
variable{X:Cx}{CL:ClA}{W:XW}{pos p:A7}{tg e a b:An}{fe fa fb:Rho->R D}
theorem E4.ex{f:D->R (Ac D)}{Q:It->Hp->Prop}{Q':VK}(h:E4 X.K CL A W H (r.bind f) Q)(k:∀ d v H',r=.ok d->AM H H'->Rp H' v d->E4 X.K CL A W H' (f d) Q->Q' v H'):Br Rp W H r Q':=by
  cases r with
  | ok d=>exact λv H' s q=>k d v H' rfl s q (by
      have h':E4 X.K CL A W H (f d) Q:=h;cases e:f d with
      |ok ds=>rw[e]at h';exact λJ H2 s2 y z=>h' J H2 (s.trans s2) y z
      |exn y=>rw[e]at h';exact λH2 s2=>h' H2 (s.trans s2)
      | bad=>rw[e]at h';exact h')
  |exn y=>exact h
  |bad=>exact h
theorem LV{x:V}(r:Rep K CL H1 A x d)(k:Kp A H1 H)(hB:∀ a,B a->A a\/H1 a=Ae):Rep K CL H B x d:=by
 have r1:Rep K CL H1 (λa=>A a\/B a) x d:=Rep.wide (λa ha=>ha.elim .inl (hB a)) _ r
 have r2:Rep K CL H (λa=>A a\/B a) x d:=Rep.kp (λb o e na=>k b o e λz=>na (.inl z)) _ r1
 exact Rep.sub (λa ha=>.inr ha) _ r2
theorem Z_8{ds:Ac D}(na:¬ A q\/KL K q xs)(s:SqL K H q xs)(r:Reps K CL H A xs ds):II K CL A ds (Itl K q) H:=λH' k i=>by
 have s':=Nr k na s;refine⟨λh=>⟨xs,s',by rw[r.length];exact h⟩,λd hd=>?_⟩
 obtain⟨v,hv,rv⟩:=r.get hd;exact⟨⟨xs,v,s',hv⟩,λx H2 ⟨e,y⟩=>by
  subst e;have:=y xs s';rw[hv]at this;cases this;exact⟨AM.refl _,λB hB _=>LV rv k hB⟩⟩
theorem bF{ds:Ac D}(na:¬ A q\/KT K q xs)(s:SqT K H q xs)(r:Reps K CL H A xs ds):II K CL A ds (Itt K q) H:=λH' k i=>by
 have s':=Nq k na s;refine⟨λh=>⟨xs,s',by rw[r.length];exact h⟩,λd hd=>?_⟩
 obtain⟨v,hv,rv⟩:=r.get hd;exact⟨⟨xs,v,s',hv⟩,λx H2 ⟨e,y⟩=>by
  subst e;have:=y xs s';rw[hv]at this;cases this;exact⟨AM.refl _,λB hB _=>LV rv k hB⟩⟩
theorem T9(lo:Ad)(n:Ag):II K CL A (CS lo n) (Itr lo n) H:=λH' k i=>by
 refine⟨λh=>by rw[LP]at h;exact h,λd hd=>?_⟩
 obtain⟨h1,rfl⟩:=Pp hd;exact⟨h1,λx H2 ⟨e,y⟩=>by
  subst e y;exact⟨AM.refl _,λ_ _ _=>rfl⟩⟩
theorem sH{l:An}{tl:TE}(hl:PE X l tl):PI X tg l (λZ H R=>tl Z H λx H1=>(∃ a,x=.ref a/\(∃ xs,SqL X.K H1 a xs/\(xs.length<=sizeLine->R (Itl X.K a) H1)))\/∃ a,x=.ref a/\(∃ xs,SqT X.K H1 a xs/\(xs.length<=sizeLine->R (Itt X.K a) H1))):=by
 intro pI s Z H R I h;refine thn (hl pI s Z H _ I h) λv s1 ⟨x,H1,I1,r1,q1⟩=>?_
 rcases q1 with ⟨a,e,xs,hq,q⟩|⟨a,e,xs,hq,q⟩
 .subst e;cases r1;obtain⟨its,rv,p,hz⟩:=I1.list hq;refine Ee p.isList ?_;refine⟨s1.heap.objs.size,[s1.heap.objs.size],_,_,H1,rfl,I1.kept (t':=s1.toks) λb o e=>Ar _ e,ZQ a _,⟨_,Aw _ rfl,rfl,rfl⟩,λb hb=>?_,q hz⟩
  have e:b=s1.heap.objs.size:=by simpa using hb
  subst e;exact I1.fpOk (A6 _) (I1.hok.fresh (A6 _))
 .subst e;cases r1;obtain⟨its,rv,p,hz⟩:=I1.tuple hq;refine FD (show s1.heap.IsTuple a its.toArray from p) ?_
  refine⟨s1.heap.objs.size,[s1.heap.objs.size],_,_,H1,rfl,I1.kept (t':=s1.toks) λb o e=>Ar _ e,Z_9 a _,⟨_,Aw _ rfl,rfl,rfl⟩,λb hb=>?_,q hz⟩
  have e:b=s1.heap.objs.size:=by simpa using hb
  subst e;exact I1.fpOk (A6 _) (I1.hok.fresh (A6 _))
theorem YV(he:SE X CL W e fe):SI X CL W tg e (λU=>(fe U).bind CC):=λA=>PI.weak (sH (he A)) λZ H R ⟨hA,U,g,p⟩=>⟨hA,U,g,E4.ex p λd v H1 _ s1 r1 p1=>by
 cases d with
 |lst ds=>
  obtain⟨q,xs,rfl,na,sq,r⟩:=r1;exact .inl ⟨q,rfl,xs,sq,λhz=>p1 _ H1 (AM.refl H1) (Z_8 na sq r) (by rw[<-r.length];exact hz)⟩
 |tup ds=>
  obtain⟨q,xs,rfl,na,sq,r⟩:=r1;exact .inr ⟨q,rfl,xs,sq,λhz=>p1 _ H1 (AM.refl H1) (bF na sq r) (by rw[<-r.length];exact hz)⟩
 | _=>exact p1.elim⟩
theorem SV{lo hi:Ad}{ds:Ac D}(h:CP lo hi=.ok ds):(-(2 ^ 62)<=lo/\lo<2 ^ 62)/\(-(2 ^ 62)<=hi/\hi<2 ^ 62)/\ds=CS lo (hi-lo).toNat/\(CS lo (hi-lo).toNat).length<=sizeLine:=by
 unfold CP at h;split at h
 .rename_i q;cases h;exact⟨by omega,by omega,rfl,by rw[LP,DT];omega⟩
 .cases h
theorem Sj{lo hi:Ad}(h:CP lo hi=.exn x):Bz:=by
 unfold CP at h;split at h<;>cases h
theorem qF(ha:ST X CL W a fa)(hg:Gl X "range")(hm:X.mg "range" = Ae)(hs:AF [a] X.env=[(Af,eval a X.env)]):SI X CL W tg (.Call (.Name "range" p) [a] [] pos) (λU=>(fa U).bind λx=>(EQ x).bind λj=>CP 0 j):=
 λA=>PI.weak (aH hg hm (Fo (ha A) G0 hs) hs) λZ H R ⟨hA,U,g,q⟩=>⟨hA,U,g,E4.ex q λd v H1 _ s1 r1 p1=>by
  cases d with
  |int j=>
   have e:=r1.int_of;subst e;have p2:E4 X.K CL A W H1 (CP 0 j) R:=p1;cases e2:CP 0 j with
   |ok ds=>
    rw[e2]at p2;obtain⟨_,h2,rfl,hz⟩:=SV e2;exact⟨j,rfl,h2.1,h2.2,p2 _ H1 (AM.refl H1) (by rw[Gw];exact T9 0 j.toNat) hz⟩
   |exn y=>exact(Sj e2).elim
   |bad=>rw[e2]at p2;exact p2.elim
  | _=>exact p1.elim⟩
theorem fM(ha:ST X CL W a fa)(hb:ST X CL W b fb)(hg:Gl X "range")(hm:X.mg "range" = Ae)(hs:AF [a,b] X.env=[(Af,eval a X.env),(Af,eval b X.env)])(hs2:AF [b] X.env=[(Af,eval b X.env)]):
  SI X CL W tg (.Call (.Name "range" p) [a,b] [] pos) (λU=>(fa U).bind λx=>(fb U).bind λy=>(EQ x).bind λi=>(EQ y).bind λj=>CP i j):=
 λA=>PI.weak (bB hg hm (Fo (ha A) (Fo (hb A) G0 hs2) (by rw[hs,hs2])) hs hs2) λZ H R ⟨hA,U,g,q⟩=>⟨hA,U,g,E4.ex q λd v H1 _ s1 r1 p1=>⟨hA.same s1,U,g.same s1,E4.ex p1 λd2 v2 H2 _ s2 r2 p2=>by
  cases d with
  |int i=>
   cases d2 with
   |int j=>
    have e:=r1.int_of;have e':=r2.int_of
    subst e e';have p3:E4 X.K CL A W H2 (CP i j) R:=p2;cases e2:CP i j with
    |ok ds=>
     rw[e2]at p3;obtain⟨h1,h2,rfl,hz⟩:=SV e2;exact⟨i,j,rfl,⟨h1.1,h1.2,h2.1,h2.2⟩,p3 _ H2 (AM.refl H2) (T9 _ _) hz⟩
    |exn y=>exact(Sj e2).elim
    |bad=>rw[e2]at p3;exact p3.elim
   |_=>exact p2.elim
  | _=>exact p2.elim⟩⟩
theorem CQ.exI{r:R (Ac D)}{f:Ac D->O}{Q:It->Hp->Prop}(x:Sx X.K CL Fz B U Z H)(h:CQ X.K CL Fz B W (O.of U r f) D')(k:∀ ds J H',r=.ok ds->AM H H'->II X.K CL A ds J H'->ds.length<=sizeLine->Sx X.K CL Fz B U Z H'->CQ X.K CL Fz B W (f ds) D'->Q J H'):E4 X.K CL A W H r Q:=by
 cases r with
 |ok d=>exact λJ H' s y z=>k d J H' rfl s y z (x.grow s) h
 |exn y=>exact λH' s=>h H' λb o z=>s _ _ (x.same b o z)
 |bad=>exact h
theorem CQ.turn{Fy:Am->HO->Prop}{o:O}{g:Rho->O}{N:L2.St->Hp->Prop}(hf:∀ b q,Fz b q->Fy b q)(h:CQ K CL Fz B W (o.turn g) D')(k:∀ U' Z' H',Sx K CL Fy B U' Z' H'->CQ K CL Fz B W (g U') D'->N Z' H'):CQ K CL Fy B W o {D' with nx:=N,ct:=N,bk:=D'.nx}:=by
 cases o with
 |next U'=>exact λZ' H' x=>k U' Z' H' x h
 |cont U'=>exact λZ' H' x=>k U' Z' H' x h
 |brk U'=>exact λZ' H' x=>h Z' H' (x.mono hf)
 |ret d b=>exact λv H' s r n=>h v H' (λb o z=>s b o (hf b o z)) r λz ds e=>let ⟨a,xs,h1,h2,h3⟩:=n z ds e;⟨a,xs,h1,λo q=>h2 o (hf a o q),h3⟩
 |exn y U'=>exact λH' s=>h H' (λb o z=>s b o (hf b o z))
 |bad=>exact h
noncomputable def FH(ts:Ac Ag)(U:Rho):Rho:=ts.foldl (λU t=>U.set t Ae) U
def GT(K:Fg)(CL:ClA)(as:D->Rho->R Rho)(g:TG):Prop:=∀ Fz B U Z H v d U' Q,Sx K CL Fz B U Z H->Rep K CL H (BG B U Z) v d->as d U=.ok U'->(∀ Z',Sx K CL Fz B U' Z' H->Q Z' H)->g v Z H Q
theorem kZ(i:Ag):GT K CL (λd U=>.ok (U.set i (Ab (d,Af)))) (ED i):=λFz B U Z H v d U' Q x r e k=>by
 cases e;exact k _ (x.set i r)
theorem Qd{K:Fg}{Fz:Am->HO->Prop}{B:Am->Prop}{H:Hp}:∀(ts:Ac Ag)(ds:Ac D)(vs:Ac V)(U U':Rho)(Z:L2.St)(Q:L2.St->Hp->Prop),Sx K CL Fz B U Z H->Reps K CL H (BG B U Z) vs ds->E2 ts ds U=Ab U'->(∀ Z',Sx K CL Fz B U' Z' H->Q Z' H)->(ts.foldr (λt u=>Ib (ED t) u) Ic) vs Z H Q
 |[],[],[],U,U',Z,Q,x,_,e,k=>by
  cases e;exact⟨rfl,k Z x⟩
 |t::ts,d::ds,v::vs,U,U',Z,Q,x,r,e,k=>by
  refine⟨v,vs,rfl,Qd ts ds vs _ U' _ Q (x.set t r.1) (Reps.sub (λa ha=>?_) ds r.2) e k⟩
  rcases ha with ha|⟨j,c,h1,h2⟩
  .exact .inl ha
  .by_cases hj:t=j
   .subst hj;have:=Hm h1;cases this
   .rw[Cj hj]at h1 h2;exact .inr ⟨j,c,h1,h2⟩
 |[],_::_,_,_,_,_,_,_,_,e,_=>by cases e
 |_::_,[],_,_,_,_,_,_,_,e,_=>by cases e
 |[],[],_::_,_,_,_,_,_,r,_,_=>r.elim
 |_::_,_::_,[],_,_,_,_,_,r,_,_=>r.elim
theorem MJ:∀(ts:Ac Ag)(ds:Ac D)(U U':Rho),E2 ts ds U=Ab U'->ds.length=ts.length
 |[],[],_,_,_=>rfl
 |_::ts,_::ds,_,_,e=>congrArg (· + 1) (MJ ts ds _ _ e)
 |[],_::_,_,_,e=>by cases e
 |_::_,[],_,_,e=>by cases e
theorem VB(ts:Ac Ag):GT K CL (Gh ts) (Lr K ts.length (ts.foldr (λt u=>Ib (ED t) u) Ic)):=λFz B U Z H v d U' Q x r e k=>by
 cases d with
 |tup ds=>
  obtain⟨a,xs,rfl,na,sq,rs⟩:=r;rw[Sv]at e;cases e2:E2 ts ds U with
  |none=>rw[e2]at e;cases e
  |some U2=>
   rw[e2]at e;cases e;exact⟨a,xs,rfl,sq,by rw[rs.length];exact MJ _ _ _ _ e2,Qd ts ds xs U _ Z Q x rs e2 k⟩
 |_=>cases e
theorem Vm{body:Ac Bx}{fbd:Rho->O}{g:TG}(hp:Gu (model X.prog X.w) X.A X.env X.xe)(hc:X.calm=Aa)(hGT:GT X.K CL as g)(hg:PG X tg g)(hit:SI X CL W tg iter fi)(hb:SSs X CL W body fbd)(hs:∀ x,CY iter X.env x=pure x)(hax:∀ d U x,as d U≠.exn x):SS X CL W (.For tg iter body [] pos) (λU=>O.of U (fi U) λxs=>C8 (λx U'=>O.of U' (as x U') fbd) xs U):=λFz B pI s Z H D I ⟨U,x,p⟩=>by
 refine sB hp hc (hit (BG B U Z)) hg (tb:=λD Z H=>∃ Fy,(λD Z H=>∃ U,Sx X.K CL Fy B U Z H/\CQ X.K CL Fy B W (fbd U) D) D Z H) (λpI s Z H D I ⟨Fy,q⟩=>hb Fy B pI s Z H D I q) hs pI s Z H D I ⟨x.aok,U,x.good,CQ.exI x p λds J H1 _ s1 y _ x1 q=>?_⟩
 let Fy:Am->HO->Prop:=λb o=>H1 b=Ab o/\¬ ∃(j:Ag)(d:Ov.D),U[j]?=Ab (Ab (d,Aa))/\Z[j]?=Ab (Ab (.ref b))
 have hfy:∀ b o,Fz b o->Fy b o:=λb o z=>⟨x1.same b o z,λ⟨j,d,h1,h2⟩=>(x1.new j d b h1 h2).1 o z⟩
 have xy:Sx X.K CL Fy B U Z H1:=⟨x1.good,x1.aok,λj d a h1 h2=>⟨λo z=>z.2 ⟨j,d,h1,h2⟩,(x1.new j d a h1 h2).2⟩,x1.dis,λb o z=>z.1,x1.len⟩
 refine⟨λk m Z' H'=>m=ds.length-k/\k<=ds.length/\∃ U',Sx X.K CL Fy B U' Z' H'/\CQ X.K CL Fz B W (C8 (λx U'=>O.of U' (as x U') fbd) (ds.drop k) U') D,⟨ds.length,by simp,Em _,U,xy,q⟩,?_⟩
 rintro k m Z' H' ⟨rfl,hk,U',x',q'⟩;have kp:Kp (BG B U Z) H1 H':=λb o e na=>x'.same b o ⟨e,λz=>na (.inr z)⟩
 obtain⟨yst,ygo⟩:=y H' kp k;by_cases hlt:k<ds.length
 .have hd:ds[k]?=Ab ds[k]:=BS hlt;obtain⟨hgo,hyl⟩:=ygo _ hd;refine .inr ⟨hgo,λZ'' H''=>∃ U'',Sx X.K CL Fy B U'' Z'' H''/\CQ X.K CL Fz B W (C8 (λx U'=>O.of U' (as x U') fbd) (ds.drop (k+1)) U'') D,λZ'' H'' z=>⟨ds.length-(k+1),by omega,rfl,hlt,z⟩,λv H2 hv=>?_⟩
  obtain⟨e2,rv⟩:=hyl v H2 hv;rw[Eg hlt]at q';have q2:CQ X.K CL Fz B W ((O.of U' (as ds[k] U') fbd).turn (C8 (λx U'=>O.of U' (as x U') fbd) (ds.drop (k+1)))) D:=q'
  have rv':Rep X.K CL H2 (BG B U' Z') v ds[k]:=rv _ (λa ha=>by
    rcases ha with ha|⟨j,d,h1,h2⟩
    .exact .inl (.inl ha)
    .cases e:H1 a with
     |none=>exact .inr rfl
     |some o=>
      by_cases ho:∃(j:Ag)(d:Ov.D),U[j]?=Ab (Ab (d,Aa))/\Z[j]?=Ab (Ab (.ref a))
      .exact .inl (.inr ho)
      .exact absurd ⟨e,ho⟩ ((x'.new j d a h1 h2).1 o)) x'.aok
  cases ea:as ds[k] U' with
  |bad=>rw[ea]at q2;exact q2.elim
  |exn z=>exact absurd ea (hax _ _ z)
  |ok U2=>
   rw[ea,O.of_ok]at q2;exact hGT Fy B U' Z' H2 v ds[k] U2 _ (x'.grow e2) rv' ea λZ3 x3=>⟨Fy,U2,x3,CQ.turn hfy q2 λU3 Z3 H3 x3 q3=>⟨U3,x3,q3⟩⟩
 .have hk':ds.length<=k:=by omega
  rw[F3 hk']at q';exact .inl ⟨yst hk',q' Z' H' (x'.mono hfy)⟩
end
section
variable{X:Cx}{CL:ClA}{W:XW}{a b c:An}{fa fb fc:Rho->R D}{pos:A7}
noncomputable def tyK:Ki->Ap Dj
 |.int=>Ab "int"
 |.bool=>Ab "bool"
 |.str=>Ab "str"
 |.list=>Ab "list"
 |.tuple=>Ab "tuple"
 |_=>Ae
noncomputable def Qn:D->Aj
 |.obj _ _=>Af
 |.exc _ _=>Af
 |.dic _=>Af
 |_=>Aa
theorem tS{k:Ki}{Q:Vq}{E:Vq}(I:Inv X pI Z H s)(r:Dh X.K CL H A v d)(q:B5 v u)(hT:tyK k=Ab T)(hd:Qn d=Aa)(h:∀ s',Inv X pI Z H s'->Q (.bool (kiD up k d)) s'):
  AB (model X.prog X.w) X.A (call (.builtin "isinstance") [u,.type T]) Q E s:=by
 have r':=r.plain;have it:=λt=>h _ (I.tok t)
 cases d with
 |obj=>cases hd
 |exc=>cases hd
 |dic=>cases hd
 |non=>
  cases r';cases q;cases k<;>simp only[tyK]at hT<;>cases hT
  .exact IsiPair.NoneType_int (it _)
  .exact IsiPair.NoneType_bool (it _)
  .exact IsiPair.NoneType_str (it _)
  .exact IsiPair.NoneType_list (it _)
  .exact IsiPair.NoneType_tuple (it _)
 |bl b=>
  cases r';cases q;cases k<;>simp only[tyK]at hT<;>cases hT
  .exact IsiPair.bool_int (h _ I)
  .exact IsiPair.bool_bool (h _ I)
  .exact IsiPair.bool_str (it _)
  .exact IsiPair.bool_list (it _)
  .exact IsiPair.bool_tuple (it _)
 |int i=>
  cases r';obtain⟨t,rfl⟩:=q;cases k<;>simp only[tyK]at hT<;>cases hT
  .exact IsiPair.int_int (h _ I)
  .exact IsiPair.int_bool (it _)
  .exact IsiPair.int_str (it _)
  .exact IsiPair.int_list (it _)
  .exact IsiPair.int_tuple (it _)
 |str x=>
  cases r';obtain⟨t,rfl⟩:=q;cases k<;>simp only[tyK]at hT<;>cases hT
  .exact IsiPair.str_int (it _)
  .exact IsiPair.str_bool (it _)
  .exact IsiPair.str_str (h _ I)
  .exact IsiPair.str_list (it _)
  .exact IsiPair.str_tuple (it _)
 |tup ds=>
  obtain⟨p,xs,rfl,_,sq,rr⟩:=r';obtain⟨its,rv,pt,_⟩:=I.tuple sq;cases q;have pt':s.heap.IsTuple p its.toArray:=pt;cases k<;>simp only[tyK]at hT<;>cases hT
  .exact IsiPair.isTuple_int pt' (λ_ _ e=>e) (it _)
  .exact IsiPair.isTuple_bool pt' (λ_ _ e=>e) (it _)
  .exact IsiPair.isTuple_str pt' (λ_ _ e=>e) (it _)
  .exact IsiPair.isTuple_list pt' (λ_ _ e=>e) (it _)
  .exact IsiPair.isTuple_tuple pt' (λ_ _ e=>e) (h _ I)
 |lst ds=>
  obtain⟨p,xs,rfl,_,sq,rr⟩:=r';obtain⟨its,rv,pl,_⟩:=I.list sq;cases q;have pt':s.heap.IsList p its.toArray:=Iy pl;cases k<;>simp only[tyK]at hT<;>cases hT
  .exact IsiPair.isList_int pt' (λ_ _ e=>e) (it _)
  .exact IsiPair.isList_bool pt' (λ_ _ e=>e) (it _)
  .exact IsiPair.isList_str pt' (λ_ _ e=>e) (it _)
  .exact IsiPair.isList_list pt' (λ_ _ e=>e) (h _ I)
  .exact IsiPair.isList_tuple pt' (λ_ _ e=>e) (it _)
theorem aQ{k:Ki}(hT:tyK k=Ab T)(p:Br Rp W H (G3 up [k] d) Q):Qn d=Aa/\Br Rp W H (.ok (.bl (kiD up k d))) Q:=by
 cases k<;>simp only[tyK]at hT<;>cases hT<;>cases d<;>first|exact p.elim|exact⟨rfl,by simpa using p⟩
theorem pJ{k:Ki}{x:Al}(hT:tyK k=Ab T)(hg:Gl X "isinstance")(hm:X.mg "isinstance" = Ae)(hg2:Gl X x)(hm2:X.mg x=Ae)(hv:Dr x=Ab (.type T))(hn:x≠"__name__")(hdb:(x==("__debug__" : Al))=Af)(ha:ST X CL W a fa)(he:AF [a,.Name x p2] X.env=(Af,eval a X.env)::AF [.Name x p2] X.env):SE X CL W (.Call (.Name "isinstance" p) [a,.Name x p2] [] pos) (λU=>(fa U).bind λx=>G3 up [k] x):=λA=>
 PE.weak (TF (r:=λxs H Q=>∃ y d,xs=[y,.ty T]/\Dh X.K CL H A y d/\Qn d=Aa/\Q (.bl (kiD up k d)) H) (λpI s Z H xs us Q I r ⟨y,d,e,ry,hd,q⟩=>by
   subst e;obtain⟨u,w',rfl,r1,r2⟩:=Qz r;cases r2;exact tS I ry r1 hT hd λs' I'=>⟨.bl _,H,I',rfl,q⟩)
  hg hm boot_isinstance (Fo (ha A) (Fo (jD (v:=.ty T) hg2 hm2 hv rfl hn hdb) G0 rfl) he) (by decide) (by decide) he rfl) λZ H Q ⟨hA,U,g,q⟩=>⟨hA,U,g,Br.bind q λd v H1 _ s1 r1 p1=>by
   obtain⟨hd,p2⟩:=aQ hT p1;exact⟨v,d,rfl,r1,hd,p2 _ H1 (AM.refl H1) rfl⟩⟩
theorem PQ{b:Aj}{A':Bc}{E:Vq}{Q:Aj->As->Prop}(r:Rep X.K CL H A v d)(q:B5 v u)(h:EF d=.ok b)(hq:Q b s):AB (model prog w) A' (truthy u) Q E s:=by
 cases d with
 |non=>
  cases r;cases q;cases h;exact truthy_none hq
 |bl k=>
  cases r;cases q;cases h;exact CZ hq
 |int i=>
  cases r;obtain⟨t,rfl⟩:=q;cases h;exact truthy_int hq
 |_=>cases h
theorem Sb:∀{ds:Ac D}{b:Aj},Gj ds=.ok b->(∀ j,j<ds.length->∃ c,EF (ds.getD j .non)=.ok c)/\b=(A4 ds.length).all λj=>match EF (ds.getD j .non) with
  |.ok c=>c
  |_=>Af
 |[],b,h=>by cases h;exact⟨λj hj=>absurd hj (Ft _),rfl⟩
 |d::ds,b,h=>by
  rw[OZ]at h;cases e:EF d with
  |bad=>rw[e]at h;cases h
  |exn x=>rw[e]at h;cases h
  |ok c=>
   rw[e,R.bind_ok]at h;cases e2:Gj ds with
   |bad=>rw[e2]at h;cases h
   |exn x=>rw[e2]at h;cases h
   |ok c2=>
    rw[e2,R.bind_ok]at h;cases h;obtain⟨h1,h2⟩:=Sb e2;refine⟨λj hj=>?_,?_⟩
    .cases j with
     |zero=>exact⟨c,e⟩
     |succ j=>exact h1 j (by simpa using hj)
    .rw[BU,R5,h2];show (c&&_)=((match EF d with | .ok c=>c|_=>Af)&&_)
     rw[e];rfl
theorem Sa:∀{ds:Ac D}{b:Aj},F0 ds=.ok b->(∀ j,j<ds.length->∃ c,EF (ds.getD j .non)=.ok c)/\b=(A4 ds.length).any λj=>match EF (ds.getD j .non) with
  |.ok c=>c
  |_=>Af
 |[],b,h=>by cases h;exact⟨λj hj=>absurd hj (Ft _),rfl⟩
 |d::ds,b,h=>by
  rw[Sy]at h;cases e:EF d with
  |bad=>rw[e]at h;cases h
  |exn x=>rw[e]at h;cases h
  |ok c=>
   rw[e,R.bind_ok]at h;cases e2:F0 ds with
   |bad=>rw[e2]at h;cases h
   |exn x=>rw[e2]at h;cases h
   |ok c2=>
    rw[e2,R.bind_ok]at h;cases h;obtain⟨h1,h2⟩:=Sa e2;refine⟨λj hj=>?_,?_⟩
    .cases j with
     |zero=>exact⟨c,e⟩
     |succ j=>exact h1 j (by simpa using hj)
    .rw[BU,EL,Jm,List.any_map,h2];show (c||_)=((match EF d with | .ok c=>c|_=>Af)||_)
     rw[e];rfl
theorem Ud:∀(ds:Ac D)(a z:Ad),GQ a ds=.ok z->(∀ j,j<ds.length->∃ i,ds.getD j .non=.int i)/\z=a+JB (λj=>match ds.getD j .non with
  |.int i=>i
  | _=>0) ds.length
 |[],a,z,h=>by cases h;exact⟨λj hj=>absurd hj (Ft _),by simp[JB]⟩
 |.int i::ds,a,z,h=>by
  obtain⟨h1,h2⟩:=Ud ds (a+i) z h;refine⟨λj hj=>?_,?_⟩
  .cases j with
   |zero=>exact⟨i,rfl⟩
   |succ j=>exact h1 j (by simpa using hj)
  .have key:∀ n,JB (λj=>match (D.int i::ds).getD j .non with | .int i=>i|_=>0) (n+1)=i+JB (λj=>match ds.getD j .non with | .int i=>i|_=>0) n:=by
    intro n
    induction n with
    |zero=>show (0:Ad)+i=i+0;omega
    |succ n ih=>
     show JB _ (n+1)+(match ds.getD n .non with | .int i=>i|_=>0)=i+(JB _ n+(match ds.getD n .non with | .int i=>i|_=>0))
     rw[ih];omega
   rw[h2,BU,key];omega
 |.non::_,_,_,h=>by cases h
 |.bl _::_,_,_,h=>by cases h
 |.str _::_,_,_,h=>by cases h
 |.tup _::_,_,_,h=>by cases h
 |.lst _::_,_,_,h=>by cases h
 |.obj _ _::_,_,_,h=>by cases h
 |.exc _ _::_,_,_,h=>by cases h
 |.dic _::_,_,_,h=>by cases h
theorem L5{ds:Ac D}(r:Reps X.K CL H A0 xs ds)(rv:Bi xs its){v:Ai}(h:its.toArray[j]?=Ab v):j<ds.length/\∃ x,Rep X.K CL H A0 x (ds.getD j .non)/\B5 x v:=by
 have h':its[j]?=Ab v:=by simpa using h
 obtain⟨hj,e⟩:=AX.mp h';obtain⟨x,rx,q⟩:=Kj r rv hj;have l1:=rv.length;have l2:=r.length
 exact⟨by omega,x,rx,by rw[<-e];exact q⟩
theorem Mn(k:∀ b q,b∉[h.objs.size]->(h.push o).get? b=Ab q->h'.get? b=Ab q):∀ b q,h.get? b=Ab q->h'.get? b=Ab q:=λb q e=>k b q (by
 intro z;have:=Ci.mp z;rw[this]at e;exact absurd (Ax e) (Bu _)) (Ar _ e)
theorem vA(hc:X.calm=Aa):Jg X CL W (.builtin "all") (biD .all):=by
  intro A pI s Z H xs us Q I r ⟨hA,ds,rs,p⟩
  match ds,rs,p with
  |[.lst es],rs,p=>
    obtain⟨v,rfl,rv⟩:=rs.one;obtain⟨q,ys,e,_,sq,ry⟩:=rv.plain;subst e;obtain⟨u,rfl,ru⟩:=IC r;cases ru;rw[cm]at p;cases e1:Gj es with
    |bad=>rw[e1]at p;exact p.elim
    |exn x=>
      exfalso
      have:∀(es:Ac D) x,Gj es≠.exn x:=by
        intro es
        induction es with
        |nil=>intro x h;cases h
        |cons d ds ih=>
          intro x h;rw[OZ]at h;cases e:EF d with
          |bad=>rw[e]at h;cases h
          |exn y=>cases d<;>cases e
          |ok c=>
            rw[e,R.bind_ok]at h;cases e2:Gj ds with
            |bad=>rw[e2]at h;cases h
            |exn y=>exact ih y e2
            |ok c2=>rw[e2]at h;cases h
      exact this es x e1
    |ok b=>
      rw[e1,R.bind_ok]at p;obtain⟨h1,h2⟩:=Sb e1;obtain⟨its,rvv,pl,_⟩:=I.list sq;have hlt:q<s.heap.objs.size:=by obtain⟨o,n,e,_⟩:=pl;exact Ax e
      have hl:its.toArray.size=es.length:=by rw[AC,<-rvv.length,ry.length]
      refine call_all_walk (Ee (Iy pl) ⟨s.heap.objs.size,_,_,_,_,_,(λj=>match EF (es.getD j .non) with | .ok c=>c|_=>Af),rfl,Kx (A:=X.A.in1) (I.ok.hd hc) s.heap.objs.size q (A1 hlt) its.toArray,⟨⟨_,Aw _ rfl,rfl,rfl⟩,(Iy pl).push _⟩,λj v s' Q' E' hv hQ=>?_,λh' tk k=>?_⟩)
      · obtain⟨hj,x,rx,qx⟩:=L5 ry rvv hv;obtain⟨c,ec⟩:=h1 j hj;exact PQ rx qx ec (by dsimp only at hQ;rw[ec]at hQ;exact hQ)
      · rw[hl,<-h2];exact⟨.bl b,H,I.kept (Mn k),rfl,p _ H (AM.refl H) rfl⟩
  |[],_,p=>exact p.elim
  |[.non],_,p=>exact p.elim
  |[.bl _],_,p=>exact p.elim
  |[.int _],_,p=>exact p.elim
  |[.str _],_,p=>exact p.elim
  |[.tup _],_,p=>exact p.elim
  |[.obj _ _],_,p=>exact p.elim
  |[.exc _ _],_,p=>exact p.elim
  |[.dic _],_,p=>exact p.elim
  |x::_::_,_,p=>cases x<;>exact p.elim
theorem UO(hc:X.calm=Aa){ys:Ac V}{es:Ac D}(I:Inv X pI Z H s)(sq:SqL X.K H q ys\/SqT X.K H q ys)(ry:Reps X.K CL H A0 ys es)(p:Br (λH=>Rep X.K CL H A) W H ((F0 es).bind λb=>.ok (.bl b)) Q):AB (model X.prog X.w) X.A (call (.builtin "any") [.ref q]) (EP X pI Z Q) X.xe s:=by
 cases e1:F0 es with
 |bad=>rw[e1]at p;exact p.elim
 |exn x=>
  exfalso
  clear p
  have:∀(es:Ac D) x,F0 es≠.exn x:=by
   intro es
   induction es with
   |nil=>intro x h;cases h
   |cons d ds ih=>
    intro x h;rw[Sy]at h;cases e:EF d with
    |bad=>rw[e]at h;cases h
    |exn y=>cases d<;>cases e
    |ok c=>
     rw[e,R.bind_ok]at h;cases e2:F0 ds with
     |bad=>rw[e2]at h;cases h
     |exn y=>exact ih y e2
     |ok c2=>rw[e2]at h;cases h
  exact this es x e1
 |ok b=>
  rw[e1,R.bind_ok]at p;obtain⟨h1,h2⟩:=Sa e1;rcases sq with sq|sq
  .obtain⟨its,rvv,pl,_⟩:=I.list sq;have hlt:q<s.heap.objs.size:=by obtain⟨o,n,e,_⟩:=pl;exact Ax e
   have hl:its.toArray.size=es.length:=by rw[AC,<-rvv.length,ry.length]
   refine call_any_walk (Ee (Iy pl) ⟨s.heap.objs.size,_,_,_,_,_,(λj=>match EF (es.getD j .non) with | .ok c=>c|_=>Af),rfl,Kx (A:=X.A.in1) (I.ok.hd hc) s.heap.objs.size q (A1 hlt) its.toArray,⟨⟨_,Aw _ rfl,rfl,rfl⟩,(Iy pl).push _⟩,λj v s' Q' E' hv hQ=>?_,λh' tk k=>?_⟩)
   .obtain⟨hj,x,rx,qx⟩:=L5 ry rvv hv;obtain⟨c,ec⟩:=h1 j hj;exact PQ rx qx ec (by dsimp only at hQ;rw[ec]at hQ;exact hQ)
   .rw[hl,<-h2];exact⟨.bl b,H,I.kept (Mn k),rfl,p _ H (AM.refl H) rfl⟩
  .obtain⟨its,rvv,pl,_⟩:=I.tuple sq;have pl':s.heap.IsTuple q its.toArray:=pl;have hlt:q<s.heap.objs.size:=by obtain⟨o,e,_⟩:=pl';exact Ax e
   have hl:its.toArray.size=es.length:=by rw[AC,<-rvv.length,ry.length]
   refine call_any_walk (FD pl' ⟨s.heap.objs.size,_,_,_,_,_,(λj=>match EF (es.getD j .non) with | .ok c=>c|_=>Af),rfl,Ys (A:=X.A.in1) (I.ok.hd hc) s.heap.objs.size q (A1 hlt) its.toArray,⟨⟨_,Aw _ rfl,rfl,rfl⟩,pl'.push _⟩,λj v s' Q' E' hv hQ=>?_,λh' tk k=>?_⟩)
   .obtain⟨hj,x,rx,qx⟩:=L5 ry rvv hv;obtain⟨c,ec⟩:=h1 j hj;exact PQ rx qx ec (by dsimp only at hQ;rw[ec]at hQ;exact hQ)
   .rw[hl,<-h2];exact⟨.bl b,H,I.kept (Mn k),rfl,p _ H (AM.refl H) rfl⟩
theorem uZ(hc:X.calm=Aa):Jg X CL W (.builtin "any") (biD .any):=by
  intro A pI s Z H xs us Q I r ⟨hA,ds,rs,p⟩
  match ds,rs,p with
  |[.lst es],rs,p=>
    obtain⟨v,rfl,rv⟩:=rs.one;obtain⟨q,ys,e,_,sq,ry⟩:=rv.plain;subst e;obtain⟨u,rfl,ru⟩:=IC r;cases ru;exact UO hc I (.inl sq) ry p
  |[.tup es],rs,p=>
    obtain⟨v,rfl,rv⟩:=rs.one;obtain⟨q,ys,e,_,sq,ry⟩:=rv.plain;subst e;obtain⟨u,rfl,ru⟩:=IC r;cases ru;exact UO hc I (.inr sq) ry p
  |[],_,p=>exact p.elim
  |[.non],_,p=>exact p.elim
  |[.bl _],_,p=>exact p.elim
  |[.int _],_,p=>exact p.elim
  |[.str _],_,p=>exact p.elim
  |[.obj _ _],_,p=>exact p.elim
  |[.exc _ _],_,p=>exact p.elim
  |[.dic _],_,p=>exact p.elim
  |x::_::_,_,p=>cases x<;>exact p.elim
theorem UC(hc:X.calm=Aa){ys:Ac V}{es:Ac D}(I:Inv X pI Z H s)(sq:SqL X.K H q ys\/SqT X.K H q ys)(ry:Reps X.K CL H A0 ys es)(p:Br (λH=>Rep X.K CL H A) W H ((GQ 0 es).bind λb=>.ok (.int b)) Q):AB (model X.prog X.w) X.A (call (.builtin "sum") [.ref q]) (EP X pI Z Q) X.xe s:=by
 cases e1:GQ 0 es with
 |bad=>rw[e1]at p;exact p.elim
 |exn x=>
  exfalso
  have:∀(es:Ac D)(a:Ad) x,GQ a es≠.exn x:=by
   intro es
   induction es with
   |nil=>intro a x h;cases h
   |cons d ds ih=>
    intro a x h;cases d<;>first|exact ih _ _ h|cases h
  exact this es 0 x e1
 |ok z=>
  rw[e1,R.bind_ok]at p;obtain⟨h1,h2⟩:=Ud es 0 z e1;rw[C9]at h2;rcases sq with sq|sq
  .obtain⟨its,rvv,pl,_⟩:=I.list sq;have hlt:q<s.heap.objs.size:=by obtain⟨o,n,e,_⟩:=pl;exact Ax e
   have hl:its.toArray.size=es.length:=by rw[AC,<-rvv.length,ry.length]
   refine Yu (Ee (Iy pl) ⟨s.heap.objs.size,_,_,_,_,_,(λj=>match es.getD j .non with | .int i=>i|_=>0),rfl,Kx (A:=X.A.in1) (I.ok.hd hc) s.heap.objs.size q (A1 hlt) its.toArray,⟨⟨_,Aw _ rfl,rfl,rfl⟩,(Iy pl).push _⟩,λb hb=>?_,λj v hv=>?_,λh' tk t' k=>?_⟩)
   .show b<(s.heap.push _).objs.size;rw[Bm];rcases At.mp hb with rfl|hb
    .exact E9 _
    .rw[Ci.mp hb];exact DI hlt
   .obtain⟨hj,x,rx,qx⟩:=L5 ry rvv hv;obtain⟨i,ei⟩:=h1 j hj;rw[ei]at rx;dsimp only;rw[ei];cases rx;exact qx
   .rw[hl,<-h2];exact⟨.int z,H,I.kept (Mn k),⟨_,rfl⟩,p _ H (AM.refl H) rfl⟩
  .obtain⟨its,rvv,pl,_⟩:=I.tuple sq;have pl':s.heap.IsTuple q its.toArray:=pl;have hlt:q<s.heap.objs.size:=by obtain⟨o,e,_⟩:=pl';exact Ax e
   have hl:its.toArray.size=es.length:=by rw[AC,<-rvv.length,ry.length]
   refine Yu (FD pl' ⟨s.heap.objs.size,_,_,_,_,_,(λj=>match es.getD j .non with | .int i=>i|_=>0),rfl,Ys (A:=X.A.in1) (I.ok.hd hc) s.heap.objs.size q (A1 hlt) its.toArray,⟨⟨_,Aw _ rfl,rfl,rfl⟩,pl'.push _⟩,λb hb=>?_,λj v hv=>?_,λh' tk t' k=>?_⟩)
   .show b<(s.heap.push _).objs.size;rw[Bm];rcases At.mp hb with rfl|hb
    .exact E9 _
    .rw[Ci.mp hb];exact DI hlt
   .obtain⟨hj,x,rx,qx⟩:=L5 ry rvv hv;obtain⟨i,ei⟩:=h1 j hj;rw[ei]at rx;dsimp only;rw[ei];cases rx;exact qx
   .rw[hl,<-h2];exact⟨.int z,H,I.kept (Mn k),⟨_,rfl⟩,p _ H (AM.refl H) rfl⟩
theorem wG(hc:X.calm=Aa):Jg X CL W (.builtin "sum") (biD .sum):=by
  intro A pI s Z H xs us Q I r ⟨hA,ds,rs,p⟩
  match ds,rs,p with
  |[.lst es],rs,p=>
    obtain⟨v,rfl,rv⟩:=rs.one;obtain⟨q,ys,e,_,sq,ry⟩:=rv.plain;subst e;obtain⟨u,rfl,ru⟩:=IC r;cases ru;exact UC hc I (.inl sq) ry p
  |[.tup es],rs,p=>
    obtain⟨v,rfl,rv⟩:=rs.one;obtain⟨q,ys,e,_,sq,ry⟩:=rv.plain;subst e;obtain⟨u,rfl,ru⟩:=IC r;cases ru;exact UC hc I (.inr sq) ry p
  |[],_,p=>exact p.elim
  |[.non],_,p=>exact p.elim
  |[.bl _],_,p=>exact p.elim
  |[.int _],_,p=>exact p.elim
  |[.str _],_,p=>exact p.elim
  |[.obj _ _],_,p=>exact p.elim
  |[.exc _ _],_,p=>exact p.elim
  |[.dic _],_,p=>exact p.elim
  |x::_::_,_,p=>cases x<;>exact p.elim
end
section
variable(K:Fg)(CL:ClA)
def bg(H0:Hp)(A:Am->Prop)(H:Hp)(v:V)(d:D):Prop:=∀ ds,d=.lst ds->∃ a xs,v=.ref a/\H0 a=Ae/\H a=Ab (.lst xs)/\Reps K CL H (λb=>A b\/b=a) xs ds
def E6(fr:Aj)(H0:Hp)(A:Am->Prop)(H:Hp)(v:V)(d:D):Prop:=Rep K CL H A v d/\(fr=Aa->bg K CL H0 A H v d)
end
section
variable{X:Cx}{CL:ClA}{W:XW}{a b c:An}{fa fb fc:Rho->R D}{pos:A7}
def SC(X:Cx)(CL:ClA)(W:XW)(fr:Aj)(e:An)(f:Rho->R D):Prop:=∀ A,PE X e (λZ H Q=>AOk H A/\∃ U,Good X.K CL A U Z H/\Br (E6 X.K CL fr H A) W H (f U) Q)
theorem SC.se{fr:Aj}(h:SC X CL W fr a fa):SE X CL W a fa:=λA=>PE.weak (h A) λZ H Q ⟨hA,U,g,p⟩=>⟨hA,U,g,by
 cases e:fa U with
 |ok d=>rw[e]at p;exact λv H' s r=>p v H' s r.1
 |exn x=>rw[e]at p;exact p
 | bad=>rw[e]at p;exact p⟩
theorem SE.sc(h:SE X CL W a fa):SC X CL W Af a fa:=λA=>PE.weak (h A) λZ H Q ⟨hA,U,g,p⟩=>⟨hA,U,g,by
 cases e:fa U with
 |ok d=>rw[e]at p;exact λv H' s r=>p v H' s ⟨r,λz=>nomatch z⟩
 |exn x=>rw[e]at p;exact p
 | bad=>rw[e]at p;exact p⟩
theorem SC.congr{fr:Aj}{f g:Rho->R D}(h:SC X CL W fr a f)(e:∀ U,g U=f U):SC X CL W fr a g:=λA=>PE.weak (h A) λZ H Q ⟨hA,U,q,p⟩=>⟨hA,U,q,by rw[<-e];exact p⟩
theorem KO{p:Am}{ds:Ac D}(s:AM H0 H)(hA:AOk H A)(hp:H p=Ae)(r:Reps K CL H A xs ds):E6 K CL Aa H0 A (upd H p (.lst xs)) (.ref p) (.lst ds):=
 ⟨PF hA hp r,λ_ ds' e=>by
  cases e;exact⟨p,xs,rfl,s.free hp,Ix,(Reps.wide (λa ha=>ha.imp id λe=>by rw[e];exact hp) _ r).same (FE hp _)⟩⟩
theorem UH{fr:Aj}(r:Rep K CL H A v d)(h:∀ ds,d≠.lst ds):E6 K CL fr H0 A H v d:=⟨r,λ_ ds e=>absurd e (h ds)⟩
theorem qA(hs:SA X CL W es fs)(hz:∀ U ds,fs U=.ok ds->ds.length<=100000):SC X CL W Aa (.List es pos) (λU=>(fs U).bind λxs=>.ok (.lst xs)):=
 λA=>PE.weak (rC (hs A)) λZ H Q ⟨hA,U,g,p⟩=>⟨hA,U,g,HZ.bind p λds vs H1 e s1 r1 p1=>⟨by
  rw[r1.length,DT];have:=hz U ds e;omega,λq hq=>p1 _ _ (FE hq _) (KO s1 (hA.same s1) hq r1)⟩⟩
theorem Br.bindF{fr:Aj}{f:D->R D}{Q':VK}(h:Br (E6 K CL fr H A) W H (r.bind f) Q)(k:∀ d v H',r=.ok d->AM H H'->Rp H' v d->Br (E6 K CL fr H A) W H' (f d) Q->Q' v H'):Br Rp W H r Q':=by
 cases r with
 |ok d=>exact λv H2 s2 q=>k d v H2 rfl s2 q (Br.same s2 h)
 |exn x=>exact h
 |bad=>exact h
theorem HZ.bindF{Rp:Hp->Ac V->Ac D->Prop}{r:R (Ac D)}{f:Ac D->R D}{Q':Ac V->Hp->Prop}(h:Br Rq W H (r.bind f) Q)(k:∀ d v H',r=.ok d->AM H H'->Rp H' v d->Br Rq W H' (f d) Q->Q' v H'):HZ Rp W H r Q':=by
 cases r with
 |ok d=>exact λv H2 s2 q=>k d v H2 rfl s2 q (Br.same s2 h)
 |exn x=>exact h
 |bad=>exact h
theorem Ko.bindF{r:R (Ap Ad)}{f:Ap Ad->R D}(h:Br Rq W H (r.bind f) Q)(k:∀ o H',r=.ok o->AM H H'->Br Rq W H' (f o) Q->Q' o H'):Ko W H r Q':=by
 cases r with
 |ok d=>exact λH2 s2=>k d H2 rfl s2 (Br.same s2 h)
 |exn x=>exact h
 |bad=>exact h
theorem wX{lo hi:Ap An}{fl fh:Rho->R (Ap Ad)}(ha:ST X CL W a fa)(hl:SO X CL W lo fl)(hh:SO X CL W hi fh):SC X CL W Aa (.Subscript a (.Slice lo hi Ae p2) pos) (λU=>(fa U).bind λx=>(fl U).bind λl=>(fh U).bind λh=>slD x l h):=
 λA=>PE.weak (eK (r:=λx l h H Q=>RM X.K x l h H Q\/RK X.K x l h H Q) (λpI s Z H x v vl vu lo hi sl Q I rx hs pl pu h=>h.elim (gX pI s Z H x v vl vu lo hi sl Q I rx hs pl pu) (qD pI s Z H x v vl vu lo hi sl Q I rx hs pl pu)) (ha A) (hl A) (hh A)) λZ H Q ⟨hA,U,g,p⟩=>⟨hA,U,g,Br.bindF p λdx x H1 _ s1 r1 p1=>⟨hA.same s1,U,g.same s1,Ko.bindF p1 λl H2 _ s2 p2=>⟨(hA.same s1).same s2,U,(g.same s1).same s2,Ko.bindF p2 λh H3 _ s3 p3=>by
  cases dx with
  |lst ds=>
   obtain⟨q,xs,rfl,sq,r⟩:=((r1.same s2).same s3).lst_of;exact .inl ⟨q,xs,rfl,sq,λt ht=>p3 _ _ (FE ht _) (KO ((s1.trans s2).trans s3) (((hA.same s1).same s2).same s3) ht (U_1 l h r))⟩
  |tup ds=>
   obtain⟨q,xs,rfl,_,sq,r⟩:=((r1.same s2).same s3).tup_of;rw[YU]at p3;split at p3
   .exact p3.elim
   .rename_i hw;refine .inr ⟨q,xs,rfl,sq,?_,λt ht=>p3 _ _ (FE ht _) (UH (KZ (((hA.same s1).same s2).same s3) ht (U_1 l h r)) (by intro _ z;cases z))⟩
    rintro⟨h1,h2⟩;refine hw ?_;have e:∀ d o,HT.sIx xs.length d o=G7 ds.length d o:=λd o=>by rw[r.length];cases o<;>rfl
    rw[e]at h1 h2;rw[r.length]at h2;simp[h1,h2]
  | _=>exact p3.elim⟩⟩⟩
noncomputable def OpN(X:Cx)(CL:ClA)(W:XW)(f:Ai->Ai->Hh Ai)(g:D->D->R D):Prop:=
 ∀ A H0,OpR X f (λx y H Q=>AM H0 H/\AOk H A/\∃ dx dy,Dh X.K CL H A x dx/\Dh X.K CL H A y dy/\Br (E6 X.K CL Aa H0 A) W H (g dx dy) Q)
theorem jI:OpN X CL W (Ct .Add) (C1 .Add):=by
 intro A H0 pI s Z H x y v u Q I rx ry ⟨s0,hA,dx,dy,hx,hy,p⟩;have key:(∀ ds,dx≠.lst ds)->EP X pI Z Q=EP X pI Z Q->AB (model X.prog X.w) X.A (Ct .Add v u) (EP X pI Z Q) X.xe s:=λhd _=>by
  refine Ux (W:=W) A pI s Z H x y v u Q I rx ry ⟨hA,dx,dy,hx,hy,?_⟩;cases e:C1 .Add dx dy with
  |bad=>rw[e]at p;exact p
  |exn x=>rw[e]at p;exact p
  |ok d=>
   rw[e]at p;refine λv' H' s' r'=>p v' H' s' (UH r' λds z=>?_)
   subst z;cases dx with
   |lst ds=>exact hd _ rfl
   |tup xs=>
    cases dy with
    |tup ys=>rw[VE]at e;split at e<;>cases e
    |_=>cases e
   |str xs=>
    cases dy with
    |str ys=>rw[VF]at e;split at e<;>cases e
    |_=>cases e
   |int i=>cases dy<;>cases e
   |_=>cases e
 cases dx with
 |lst ds=>
  cases dy with
  |lst es=>
   obtain⟨a,xs,rfl,s1,r1⟩:=hx.lst_of;obtain⟨b,ys,rfl,s2,r2⟩:=hy.lst_of;simp only[VG]at p;split at p
   .rename_i h;refine Uy pI s Z H _ _ v u Q I rx ry ⟨a,b,xs,ys,rfl,rfl,s1,s2,by rw[r1.length,r2.length];exact IZ h,λq hq=>?_⟩
    exact p _ _ (FE hq _) (KO s0 hA hq (r1.append r2))
   .exact p.elim
  |_=>exact p.elim
 |_=>exact key (by intro _ z;cases z) rfl
theorem qC(ha:ST X CL W a fa)(hb:ST X CL W b fb):SC X CL W Aa (.BinOp a .Add b pos) (λU=>(fa U).bind λx=>(fb U).bind λy=>C1 .Add x y):=
 λA pI s Z H Q I h=>by
  obtain⟨hA,U,g,p⟩:=h;exact VQ (jI (W:=W) A H) (ha A) (hb A) pI s Z H Q I ⟨hA,U,g,Br.bindF p λdx x H1 _ s1 r1 p1=>⟨hA.same s1,U,g.same s1,Br.bind (Rq:=E6 X.K CL Aa H A) p1 λdy y H2 _ s2 r2 p2=>⟨s1.trans s2,(hA.same s1).same s2,dx,dy,r1.same s2,r2,p2⟩⟩⟩
def Wj(X:Cx)(CL:ClA)(W:XW)(f:Ai)(g:Ac D->R D):Prop:=∀ A H0,H9 X f (λxs H Q=>AM H0 H/\AOk H A/\∃ ds,Gk X.K CL H A xs ds/\Br (E6 X.K CL Aa H0 A) W H (g ds) Q)
theorem kS:Wj X CL W (.type "list") (biD .list):=by
  intro A H0 pI s Z H xs us Q I r ⟨s0,hA,ds,rs,p⟩
  match ds,rs,p with
  |[.lst es],rs,p=>
    obtain⟨v,rfl,rv⟩:=rs.one;obtain⟨q,ys,rfl,sq,ry⟩:=rv.lst_of;exact RY pI s Z H _ us Q I r ⟨q,ys,rfl,.inl sq,λl hl=>p _ _ (FE hl _) (KO s0 hA hl ry)⟩
  |[.tup es],rs,p=>
    obtain⟨v,rfl,rv⟩:=rs.one;obtain⟨q,ys,rfl,_,sq,ry⟩:=rv.tup_of;exact RY pI s Z H _ us Q I r ⟨q,ys,rfl,.inr sq,λl hl=>p _ _ (FE hl _) (KO s0 hA hl ry)⟩
  |[],_,p=>exact p.elim
  |[.non],_,p=>exact p.elim
  |[.bl _],_,p=>exact p.elim
  |[.int _],_,p=>exact p.elim
  |[.str _],_,p=>exact p.elim
  |[.obj _ _],_,p=>exact p.elim
  |[.exc _ _],_,p=>exact p.elim
  |[.dic _],_,p=>exact p.elim
  |x::_::_,_,p=>cases x<;>exact p.elim
theorem qB{x:Al}{g:Ac D->R D}(hc:Wj X CL W (.type T) g)(hg:Gl X x)(hm:X.mg x=Ae)(hv:Dr x=Ab (.type T))(ha:SAT X CL W (e::es) fs)(hn:x≠"__name__")(hdb:(x==("__debug__" : Al))=Af)(he:AF (e::es) X.env=(Af,eval e X.env)::AF es X.env)(hpl:∀ pos,(C4 pos (AF es X.env)).any (·.1)=Af):SC X CL W Aa (.Call (.Name x p) (e::es) [] pos) (λU=>(fs U).bind g):=λA pI s Z H Q I ⟨hA,U,gd,q⟩=>
 SZ (hc A H) hg hm hv (ha A) hn hdb he (hpl _) pI s Z H Q I ⟨hA,U,gd,HZ.bindF q λds vs H1 _ s1 r1 p1=>⟨s1,hA.same s1,ds,r1,p1⟩⟩
mutual
theorem Wd{K:Fg}{H:Hp}{A:Am->Prop}(hA:AOk H A):∀(n:Ag)(d:D){v:V},nlD n d=Aa->Rep K CL H A0 v d->Rep K CL H A v d
 |_,.non,_,_,h=>h
 |_,.bl _,_,_,h=>h
 |_,.int _,_,_,h=>h
 |_,.str _,_,_,h=>h
 |0,.tup _,_,hn,_=>by cases hn
 |n+1,.tup ds,_,hn,h=>by
  obtain⟨a,xs,e,_,s,r⟩:=h;refine⟨a,xs,e,?_,s,nls_up hA n ds hn r⟩;rcases s with s|s
  .refine .inl λz=>?_
   obtain⟨ys,q⟩:=hA a z;rcases s with s|⟨o,s⟩<;>rw[q]at s<;>cases s
  .exact .inr s
 |n,.lst _,_,hn,_=>by cases n<;>cases hn
 |n,.obj _ _,_,hn,_=>by cases n<;>cases hn
 |n,.exc _ _,_,hn,_=>by cases n<;>cases hn
 |n,.dic _,_,hn,_=>by cases n<;>cases hn
theorem nls_up{K:Fg}{H:Hp}{A:Am->Prop}(hA:AOk H A):∀(n:Ag)(ds:Ac D){vs:Ac V},ds.all (nlD n)=Aa->Reps K CL H A0 vs ds->Reps K CL H A vs ds
 |_,[],[],_,h=>h
 |n,d::ds,_::_,hn,h=>by
  simp only[Hg,Aq]at hn;exact⟨Wd hA n d hn.1 h.1,nls_up hA n ds hn.2 h.2⟩
 |_,[],_::_,_,h=>h.elim
 |_,_::_,[],_,h=>h.elim
end
theorem vT{fr:Aj}(hA0:AOk H0 A)(s:AM H0 H)(hc:Ie fr d=Aa)(r:E6 K CL fr H0 A0 H v d):E6 K CL fr H0 A H v d:=by
 have hA:=hA0.same s;cases d with
 |lst ds=>
  have hc':(fr&&ds.all (nlD 5))=Aa:=hc;rw[Aq]at hc';obtain⟨a,xs,e,h0,h1,rs⟩:=r.2 hc'.1 ds rfl;have hA2:AOk H (λb=>A b\/b=a):=λb hb=>hb.elim (hA b) λe=>by rw[e];exact⟨xs,h1⟩
  have rs':=nls_up hA2 5 ds hc'.2 (Reps.sub (λ_ z=>z.elim) _ rs)
  refine⟨⟨a,xs,e,.inl (hA0.new h0),SqL.of h1,Reps.sub (λ_ z=>.inl z) _ rs'⟩,λ_ ds' e'=>?_⟩
  cases e';exact⟨a,xs,e,h0,h1,rs'⟩
 |_=>exact⟨Wd hA 5 _ hc r.1,λ_ _ z=>nomatch z⟩
def spD(K:Fg)(CL:ClA)(n:Ag)(fr:Aj)(F:Ac D->R D):Sp:=λvs H Q E=>∃(ds:Ac D)(A:Am->Prop),vs.length=n/\AOk H A/\Reps K CL H A vs ds/\(match F ds with
  |.ok d=>∀ v H',AM H H'->E6 K CL fr H A H' v d->Q v H'
  |.exn x=>∀ cls dx H',AM H H'->HY K CL H' cls dx x->E cls dx H'
  | .bad=>Bz)
def EKW(K:Fg)(CL:ClA)(A:Am->Prop)(W:XW):XK:=λcls dx H'=>∃ x,HY K CL H' cls dx x/\W x H'
theorem Gk.plain{K:Fg}{H:Hp}{A:Am->Prop}:∀{vs:Ac V}{ds:Ac D},Gk K CL H A vs ds->Reps K CL H A0 vs ds
 |[],[],h=>trivial
 |_::_,_::_,h=>⟨h.1.plain,Gk.plain h.2⟩
 |[],_::_,h=>h.elim
 |_::_,[],h=>h.elim
theorem fR{CX:CXT}{fr:Aj}{f:Am}{fd:Cs}{ps:Ac Al}{F:Ac D->R D}{x:Al}{ft:Rho->R (Ac D)}{sh:Rho->Aj}(G:FnOk X.prog X.w X.K X.mg X.base CX k f fd ps (spD X.K CL n fr F))(hr:Room k X.A)(hg:Gl X x)(hm:X.mg x=Ab (.ref f))(hk:Dx X.K (.ref f)=Aa)(hb:IB X.K fd ps [])(hx:∀ A,K7 CX X (EKW X.K CL A W))(ha:SA X CL W (e::es) fs)(hat:SAT X CL W (e::es) ft)(hst:∀ U,sh U=Aa->ft U=fs U)(hn:∀ U ds,ft U=.ok ds->ds.length=n)(hdb:(x==("__debug__" : Al))=Af)(he:AF (e::es) X.env=(Af,eval e X.env)::AF es X.env)(hpl:∀ pos,(C4 pos (AF es X.env)).any (·.1)=Af):SC X CL W fr (.Call (.Name x p) (e::es) [] pos) (λU=>(ft U).bind λds=>(F ds).bind λd=>if sh U=Aa then .ok d else if Ie fr d=Aa then .ok d else .bad):=λA pI s Z H Q I ⟨hA,U,gd,q⟩=>by
 dsimp only at q;by_cases hs:sh U=Aa
 .rw[hst U hs]at q;refine Uu G hr hg hm hk hb .nil (hx A) (ha A) hdb he (hpl _) pI s Z H Q I ⟨hA,U,gd,?_⟩;cases e1:fs U with
  |bad=>rw[e1]at q;exact q
  |exn y=>rw[e1]at q;exact q
  |ok ds=>
   rw[e1]at q;intro vs H1 s1 r1;refine⟨ds,A,by rw[Do,r1.length];exact hn U ds (by rw[hst U hs];exact e1),hA.same s1,by rw[Do];exact r1,?_⟩
   have q':Br (E6 X.K CL fr H A) W H ((F ds).bind λd=>if sh U=Aa then .ok d else if Ie fr d=Aa then .ok d else .bad) Q:=q
   cases e2:F ds with
   |ok d=>
    rw[e2,R.bind_ok,AI hs]at q';exact λv H2 s2 r2=>q' v H2 (s1.trans s2) ⟨r2.1,λz ds' e'=>let ⟨a,xs,z1,z2,z3⟩:=r2.2 z ds' e';⟨a,xs,z1,s1.free z2,z3⟩⟩
   |exn y=>rw[e2]at q';exact λcls dx H2 s2 xr=>⟨y,xr,q' H2 (s1.trans s2)⟩
   |bad=>rw[e2]at q';exact q'.elim
 .refine Uu G hr hg hm hk hb .nil (hx A0) (hat A) hdb he (hpl _) pI s Z H Q I ⟨hA,U,gd,?_⟩;cases e1:ft U with
  |bad=>rw[e1]at q;exact q
  |exn y=>rw[e1]at q;exact q
  |ok ds=>
   rw[e1]at q;intro vs H1 s1 r1;refine⟨ds,A0,by rw[Do,r1.plain.length];exact hn U ds e1,λ_ z=>z.elim,by rw[Do];exact r1.plain,?_⟩
   have q':Br (E6 X.K CL fr H A) W H ((F ds).bind λd=>if sh U=Aa then .ok d else if Ie fr d=Aa then .ok d else .bad) Q:=q
   cases e2:F ds with
   |ok d=>
    rw[e2,R.bind_ok,AV hs]at q';split at q'
    .rename_i hc;exact λv H2 s2 r2=>q' v H2 (s1.trans s2) (vT hA (s1.trans s2) hc ⟨r2.1,λz ds' e'=>let ⟨a,xs,z1,z2,z3⟩:=r2.2 z ds' e';⟨a,xs,z1,s1.free z2,z3⟩⟩)
    .exact q'.elim
   |exn y=>rw[e2]at q';exact λcls dx H2 s2 xr=>⟨y,xr,q' H2 (s1.trans s2)⟩
   |bad=>rw[e2]at q';exact q'.elim
end
theorem OS(env:CU):∀(ns:Ac (Al×Eu))(acc:Ac (Al×Am)),(∀ x∈ns,x.2=.free->∃ c,env.cells.lookup x.1=Ab c)->(∀ x c,acc.lookup x=Ab c->env.cells.lookup x=Ab c) ->
  ∃ cl,(forIn ns acc fun(x:Al×Eu)(cs:Ac (Al×Am))=>(if (x.2==.free)=Aa then do let c <-cellOf env x.1;pure (EI ((x.1,c)::cs)) else pure (EI cs):Hh (ForInStep (Ac (Al×Am)))))=pure cl /\
   (∀ x c,cl.lookup x=Ab c->env.cells.lookup x=Ab c)/\(∀ x,((x,D9)∈ns\/∃ c,acc.lookup x=Ab c)->∃ c,cl.lookup x=Ab c)
 |[],acc,_,h2=>⟨acc,by rw[DS],h2,λx hx=>hx.elim (λz=>nomatch z) id⟩
 |(n,k)::r,acc,h1,h2=>by
  rw[D4];by_cases hk:k=.free
  .subst hk;obtain⟨c,hc⟩:=h1 (n,.free) Az rfl;obtain⟨cl,e,p,q⟩:=OS env r ((n,c)::acc) (λx hx=>h1 x (Au _ hx)) (λx d hd=>by
    rw[B4]at hd;split at hd
    .rename_i hx;cases hd;rw[eq_of_beq hx];exact hc
    .exact h2 x d hd)
   refine⟨cl,?_,p,λx hx=>q x ?_⟩
   .have e1:cellOf env n=pure c:=by unfold cellOf;dsimp only at hc;rw[hc]
    rw[AI (by rfl),e1]
    exact e
   .rcases hx with hx|⟨d,hd⟩
    .rcases At.mp hx with z|z
     .cases z;exact .inr ⟨c,by simp[B4]⟩
     .exact .inl z
    .by_cases hxn:x=n
     .exact .inr ⟨c,by subst hxn;simp[B4]⟩
     .exact .inr ⟨d,by rw[B4];rw[DQ.mpr hxn];exact hd⟩
  .obtain⟨cl,e,p,q⟩:=OS env r acc (λx hx=>h1 x (Au _ hx)) h2
   refine⟨cl,?_,p,λx hx=>q x ?_⟩
   .rw[AV (by simpa using hk)]
    exact e
   .rcases hx with hx|hx
    .rcases At.mp hx with z|z
     .cases z;exact absurd rfl hk
     .exact .inl z
    .exact .inr hx
theorem Sr(h:∀ x∈scope.names,x.2=.free->∃ c,env.cells.lookup x.1=Ab c):∃ cl,closureFor scope env=pure cl/\(∀ x c,cl.lookup x=Ab c->env.cells.lookup x=Ab c)/\∀ x,(x,D9)∈scope.names->∃ c,cl.lookup x=Ab c:=by
 obtain⟨cl,e,p,q⟩:=OS env scope.names [] h (λx c z=>by simp at z)
 refine⟨cl,?_,p,λx hx=>q x (.inl hx)⟩
 unfold closureFor
 first
  |exact e
  |(simp only[bind_pure];exact e)
  |(rw[show (forIn scope.names ([]:Ac (Al×Am)) _:Hh _)=pure cl from e];rfl)
theorem O2:∀(names:Ac (Al×Eu))(h:AJ)(acc:Ac (Al×Am))(x:Al)(c:Am),(Dy h.objs.size names acc).lookup x=Ab c->acc.lookup x=Ab c\/((x,B9)∈names/\h.objs.size<=c/\(Hd h names).IsCell c Ae)
 |[],_,_,_,_,e=>.inl e
 |(n,k)::r,h,acc,x,c,e=>by
  unfold Dy at e;unfold Hd;by_cases hk:(k==B9)=Aa
  .rw[AI hk]at e ⊢;have hs:h.objs.size+1=(h.push { cls:=.type "cell",data:=.cell Ae }).objs.size:=(Bm ..).symm;rw[hs]at e;rcases O2 r _ _ x c e with q|⟨q1,q2,q3⟩
   .rw[B4]at q;cases hx:x==n with
    |true=>
     rw[hx]at q;cases q;refine .inr ⟨?_,A6 _,?_⟩
     .rw[eq_of_beq hx,eq_of_beq hk];exact Az
     .exact⟨_,Il r _ _ _ (Aw _ rfl),rfl⟩
    |false=>rw[hx]at q;exact .inl q
   .exact .inr ⟨Au _ q1,by omega,q3⟩
  .rw[AV hk]at e ⊢;rcases O2 r h acc x c e with q|⟨q1,q2,q3⟩
   .exact .inl q
   .exact .inr ⟨Au _ q1,q2,q3⟩
theorem O3:∀(names:Ac (Al×Eu))(h:AJ)(acc:Ac (Al×Am)),(∀ x y c,acc.lookup x=Ab c->acc.lookup y=Ab c->x=y)->(∀ x c,acc.lookup x=Ab c->c<h.objs.size)->∀ x y c,(Dy h.objs.size names acc).lookup x=Ab c->(Dy h.objs.size names acc).lookup y=Ab c->x=y
 |[],_,_,i,_,x,y,c,e1,e2=>i x y c e1 e2
 |(n,k)::r,h,acc,i,b,x,y,c,e1,e2=>by
  unfold Dy at e1 e2;by_cases hk:(k==B9)=Aa
  .rw[AI hk]at e1 e2;have hs:h.objs.size+1=(h.push { cls:=.type "cell",data:=.cell Ae }).objs.size:=(Bm ..).symm;rw[hs]at e1 e2;have look:∀ z d,WL z ((n,h.objs.size)::acc)=Ab d->(z=n/\d=h.objs.size)\/(z≠n/\acc.lookup z=Ab d):=λz d q=>by
    rw[B4]at q;cases hx:z==n with
    |true=>rw[hx]at q;cases q;exact .inl ⟨eq_of_beq hx,rfl⟩
    |false=>rw[hx]at q;exact .inr ⟨λe=>by rw[e]at hx;simp at hx,q⟩
   refine O3 r _ _ (λz z' d q q'=>?_) (λz d q=>?_) x y c e1 e2
   .rcases look z d q with ⟨rfl,q1⟩|⟨_,q1⟩<;>rcases look z' d q' with ⟨rfl,q2⟩|⟨_,q2⟩
    .rfl
    .exact absurd (b _ _ q2) (by rw[q1];exact Bu _)
    .exact absurd (b _ _ q1) (by rw[q2];exact Bu _)
    .exact i _ _ _ q1 q2
   .rw[<-hs];rcases look z d q with ⟨_,q1⟩|⟨_,q1⟩
    .rw[q1];exact E9 _
    .exact DI (b _ _ q1)
  .rw[AV hk]at e1 e2;exact O3 r h acc i b x y c e1 e2
theorem OU:∀(names:Ac (Al×Eu))(n:Ag)(acc:Ac (Al×Am))(x:Al),(x,B9)∉names->(Dy n names acc).lookup x=acc.lookup x
 |[],_,_,_,_=>rfl
 |(m,k)::r,n,acc,x,hx=>by
  unfold Dy;have hr:(x,B9)∉r:=λz=>hx (Au _ z)
  by_cases hk:(k==B9)=Aa
  .rw[AI hk,OU r _ _ x hr,B4];cases q:x==m with
   |true=>exact absurd (by rw[eq_of_beq q,eq_of_beq hk];exact Az) hx
   |false=>rfl
  .rw[AV hk];exact OU r n acc x hr
theorem O4(n0:Ag):∀(names:Ac (Al×Eu))(n:Ag)(acc:Ac (Al×Am))(x:Al),n0<=n->((x,B9)∈names\/∃ c,acc.lookup x=Ab c/\n0<=c)->∃ c,(Dy n names acc).lookup x=Ab c/\n0<=c
 |[],_,_,_,_,h=>h.elim (λz=>nomatch z) id
 |(m,k)::r,n,acc,x,hn,h=>by
  unfold Dy;by_cases hk:(k==B9)=Aa
  .rw[AI hk];refine O4 n0 r _ _ x (by omega) ?_
   by_cases hx:(x==m)=Aa
   .exact .inr ⟨n,by rw[B4,hx],hn⟩
   .rcases h with h|⟨c,h,hc⟩
    .rcases At.mp h with z|z
     .cases z;simp at hx
     .exact .inl z
    .exact .inr ⟨c,by rw[B4];simp only[hx];exact h,hc⟩
  .rw[AV hk];refine O4 n0 r _ _ x hn (h.imp (λh=>?_) id)
   rcases At.mp h with z|z
   .cases z;simp at hk
   .exact z
theorem ZC{M:JR}{A:Bc}{E:Vq}{globals:Am}{qual:Al}{Q:CU->As->Prop}(hQ:Q (newEnv scope s.heap.objs.size globals (Dy (s.heap.objs.size+1) scope.names cl) qual Ae .none (Ab env) IV) { s with heap:=Hd (s.heap.push { cls:=.type "dict",data:=.dict #[] }) scope.names }):AB M A (IN scope globals cl [] qual Ae .none (Ab env)) Q E s:=by
 simp only[IN,Option.isSome_some,HG];refine Ah (wpAny_alloc ?_);refine Ah (wpAny_layCells _ (λname kind cells=>by cases hkc:kind==B9<;>simp[hkc]) _ _ _ _ ?_)
 rw[show ({ s with heap:=s.heap.push { cls:=.type "dict",data:=.dict #[] } }:As).heap.objs.size=s.heap.objs.size+1 from Bm ..]
 rw[DS];exact Ah (Av (Av hQ))
noncomputable def cxC(X:Cx)(scope:Cq)(cl:Ac (Al×Am))(C:Am)(N':Ac Al)(s₀:As)(H₀:Hp)(fp:Ac Am):Cx where
 prog:=X.prog
 w:=X.w
 K:=X.K
 mg:=X.mg
 base:=X.base
 A:=X.A
 N:=N'
 s₀:=s₀
 H₀:=H₀
 env:=compEnvC scope cl C X.env
 outer:=X.stack
 stack:=X.stack
 ex:=fp
 fn:=λx=>scope.names.lookup x==Ab B9
 calm:=X.calm
 pn:=[]
 xe:=λ_ _=>Bz
theorem Mu{env:CU}:∀{names:Ac (Al×Eu)}{x:Al}{k:Eu},(names.map λ(n,k)=>if (k==D9&&env.scope.kind==.function&&env.kindOf n==Ab .cell) then (n,B9) else (n,k)).lookup x=Ab k->names.lookup x=Ab k\/(k=.cell/\names.lookup x=Ab .free)
 |[],_,_,h=>by simp at h
 |(n,j)::r,x,k,h=>by
  have ih:=@Mu env r x k;have h':WL x ((if (j==D9&&env.scope.kind==.function&&env.kindOf n==Ab .cell)=Aa then (n,B9) else (n,j))::(r.map λ(n,k)=>if (k==D9&&env.scope.kind==.function&&env.kindOf n==Ab .cell) then (n,B9) else (n,k)))=Ab k:=h
  by_cases hc:(j==D9&&env.scope.kind==.function&&env.kindOf n==Ab .cell)=Aa
  .rw[AI hc]at h';rw[B4]at h' ⊢;cases hx:x==n with
   |true=>
    rw[hx]at h';cases h';simp only[Aq]at hc;exact .inr ⟨rfl,by rw[eq_of_beq hc.1.1]⟩
   |false=>rw[hx]at h';exact ih h'
  .rw[AV hc]at h';rw[B4]at h' ⊢;cases hx:x==n with
   |true=>rw[hx]at h';exact .inl h'
   |false=>rw[hx]at h';exact ih h'
structure BlockOk (X:Cx) (scope:Cq) (N':Ac Al) (ts:Ac Ag):Prop where
 kind:scope.kind=.function
 uniq:∀ y∈scope.names,scope.names.lookup y.1=Ab y.2
 names:∀ y∈scope.names,y.2=.local->scope.names.lookup y.1=Ab .local
 free:∀ y∈scope.names,y.2=.free->X.env.scope.names.lookup y.1=Ab .cell\/X.env.scope.names.lookup y.1=Ab .free
 len:N'.length=X.N.length
 same:∀ i x,N'[i]?=Ab x->scope.names.lookup x=Ab .free->i∉ts->X.N[i]?=Ab x
 loc:∀ i x,N'[i]?=Ab x->(scope.names.lookup x=Ab .local\/scope.names.lookup x=Ab .cell)->i∈ts
structure BCells (X:Cx) (scope:Cq) (cl:Ac (Al×Am)) (C:Am) (h:AJ):Prop where
 own:∀ x c,cl.lookup x=Ab c->X.env.cells.lookup x=Ab c\/(scope.names.lookup x=Ab .cell/\C<c/\h.IsCell c Ae)
 inj:∀ x y c,cl.lookup x=Ab c->cl.lookup y=Ab c->x=y
 has:∀ x,scope.names.lookup x=Ab .cell->∃ c,cl.lookup x=Ab c/\C<c
 fr:∀ x,(x,D9)∈scope.names->∃ c,cl.lookup x=Ab c/\X.env.cells.lookup x=Ab c
section
variable{X:Cx}{pI:Pn}{Z:L2.St}{H:Hp}{s:As}
noncomputable def hideT(ts:Ac Ag)(Z:L2.St):L2.St:=ts.foldl (λZ t=>Z.set t Ae) Z
theorem Pd:∀(ts:Ac Ag)(Z:L2.St),(hideT ts Z).length=Z.length
 |[],_=>rfl
 |t::ts,Z=>by show (hideT ts (Z.set t Ae)).length=_;rw[Pd ts,Bj]
theorem Tg:∀(ts:Ac Ag)(Z:L2.St){i:Ag}{v:V},(hideT ts Z)[i]?=Ab (Ab v)->Z[i]?=Ab (Ab v)/\i∉ts
 |[],_,_,_,h=>⟨h,by simp⟩
 |t::ts,Z,i,v,h=>by
  obtain⟨h1,h2⟩:=Tg ts (Z.set t Ae) (i:=i) (v:=v) h;by_cases e:t=i
  .subst e;have:=Hm h1;cases this
  .rw[Cj e]at h1;exact⟨h1,by simp only[At,DR];exact⟨λz=>e z.symm,h2⟩⟩
theorem ZO{tk:Ag}{C:Am}{m:Al->Ap Ai}(I:Inv X pI Z H s)(B:BlockOk X scope N' ts)(hf:∀ b∈fp,G6 X pI H b)(hfo:∀ b∈fp,b<s.heap.objs.size)(hb:BCells X scope cl C h')(hk:∀ b o,s.heap.get? b=Ab o->h'.get? b=Ab o)(hC:s.heap.objs.size<=C)(hn:h'.Ns C m):Inv (cxC X scope cl C N' s H fp) [] (hideT ts Z) H {s with heap:=h',toks:=tk}:=by
 have stf:∀ b∈fp,b∉frs X.stack:=λb hb z=>by
  rcases At.mp (I.stkSub b z) with e|e
  .exact(hf b hb).2.1 e
  .exact(hf b hb).2.2.1 e
 have frOf:∀ x,((relabel scope X.env).names.lookup x=Ab .cell\/(relabel scope X.env).names.lookup x=Ab .free)->scope.names.lookup x=Ab .free\/scope.names.lookup x=Ab .cell:=λx hx=>by
  rcases hx with z|z
  .rcases Mu z with z|⟨_,z⟩
   .exact .inr z
   .exact .inl z
  .rcases Mu z with z|⟨z,_⟩
   .exact .inl z
   .cases z
 have gtC:∀ c:Am,C<c->s.heap.objs.size<=c:=λc z=>Cb hC (EW z)
 have cellK:∀ c v,s.heap.IsCell c v->h'.IsCell c v:=λc v ⟨o,ho,hd⟩=>⟨o,hk _ _ ho,hd⟩
 refine⟨⟨I.ok.mod,B.kind,I.ok.glob,I.ok.blt,hC,hb.inj,λx hx=>?_,λx c h e=>?_,I.ok.hd,I.ok.frames,.inl rfl,λb hbb=>⟨?_,λx c e=>?_⟩,I.bs,Cb I.ok.bsz I.sz,λb o e hbb=>?_,stf,I.stack,I.stkFree⟩,rfl,I.bare,Un.kept hk,⟨m,hn,λi x v h1 h2 h3=>?_⟩,λx c e=>?_,I.hok.fresh hC,λx c e=>(hb.own x c e).elim (I.freeC x c) (λz=>I.hok.fresh (gtC c z.2.1)),λp hp=>absurd (show p∈([]:Pn) from hp) (by simp),I.hok.kept hk,?_⟩
 .rcases frOf x hx with z|z
  .obtain⟨c,q,_⟩:=hb.fr x (C0 z);exact⟨c,q⟩
  .obtain⟨c,q,_⟩:=hb.has x z;exact⟨c,q⟩
 .obtain⟨c',q,z⟩:=hb.has x (eq_of_beq h);have e':cl.lookup x=Ab c:=e;rw[q]at e';cases e';exact gtC _ z
 .intro z;have z':b=C:=z;have:=hfo b hbb;rw[z']at this;exact absurd (AH this hC) (Bu _)
 .rcases hb.own x c e with z|z
  .exact(hf b hbb).2.2.2.2.1 x c z
  .intro q;have:=hfo b hbb;have:=gtC c z.2.1;rw[q]at this;exact absurd ‹b<_› (FM.mpr this)
 .rcases (hf b hbb).2.2.2.1 with z|z
  .exact I.ok.noex b o e z
  .exact absurd (AH (Ax e) (Cb I.ok.bsz z)) (Bu _)
 .obtain⟨h2,hts⟩:=Tg ts Z h2;have h3':(relabel scope X.env).names.lookup x=Ab .local\/(relabel scope X.env).names.lookup x=Ab .cell\/(relabel scope X.env).names.lookup x=Ab .free:=h3;have h1':N'[i]?=Ab x:=h1;rcases h3' with z|z
  .rcases Mu z with z|⟨z,_⟩
   .exact absurd (B.loc i x h1' (.inl z)) hts
   .cases z
  .have fr:=(frOf x z).resolve_right λq=>hts (B.loc i x h1' (.inr q))
   have hm:=C0 fr;have hX:=B.same i x h1' fr hts;obtain⟨m0,hn0,hl0⟩:=I.loc;obtain⟨u,ru,lk⟩:=hl0 i x v hX h2 (by
    rcases B.free _ hm rfl with q|q
    .exact .inr (.inl q)
    .exact .inr (.inr q))
   refine⟨u,ru,?_⟩;obtain⟨c,hc,hcX⟩:=hb.fr x hm;rcases lk with ⟨q,_⟩|⟨_,c',hc',hcell⟩
   .have q':X.env.scope.names.lookup x=Ab .local:=q;rcases B.free _ hm rfl with p|p
    .rw[show X.env.scope.names.lookup x=_ from p]at q';cases q'
    .rw[show X.env.scope.names.lookup x=_ from p]at q';cases q'
   .have e:=hcX;rw[hc']at e;cases e;exact .inr ⟨z,c,hc,cellK _ _ hcell⟩
 .rcases hb.own x c e with z|z
  .obtain⟨v,q⟩:=I.cell x c z;exact⟨v,cellK _ _ q⟩
  .exact⟨_,z.2.2⟩
 .show (hideT ts Z).length=N'.length;rw[Pd,I.len,B.len]
theorem SG{C D:Am}{s':As}{Z':L2.St}{pins':Pn}{h'':AJ}{ys:Ac Ai}(I:Inv X pI Z H s)(hf:∀ b∈fp,G6 X pI H b)(I':Inv (cxC X scope cl C N' s H fp) pins' Z' H' s')(hD:s.heap.objs.size<=D)(hDC:D≠C)(hC:s.heap.objs.size<=C)(hd:s'.heap.get? D=Ab { cls:=.type "list",data:=.seq ys.toArray n })(hDn:H' D=Ae)(rv:Bi xs ys)(hz:xs.length<=sizeLine)(hs:EY C s'.heap h''):Inv X pI Z (upd H' D (.lst xs)) {s' with heap:=h''}:=by
  have u:Un (frs X.stack) fp H H' s.heap s'.heap:=I'.base;have lt:∀ b o,s.heap.get? b=Ab o->b≠C/\b≠D:=λb o e=>⟨λz=>absurd (AH (Ax e) (z ▸ hC)) (Bu _),λz=>absurd (AH (Ax e) (z ▸ hD)) (Bu _)⟩
  have HD:H D=Ae:=I.hok.fresh hD;have hCn:H' C=Ae:=I'.free;have kb:∀ b o,b≠C->s'.heap.get? b=Ab o->h''.get? b=Ab o:=λb o hb e=>(hs.2 b hb).trans e
  have u2:Un (frs X.stack) fp H (upd H' D (.lst xs)) s.heap h'':=⟨λb o e q hb hx=>kb b o (lt b o e).1 (u.keep b o e q hb hx),λb o e q hb hx=>by
      obtain⟨sl,e1⟩:=u.slot b o e q hb hx;exact⟨sl,kb b _ (lt b o e).1 e1⟩,λb o e q hx=>by rw[Dl (lt b o e).2];exact u.free b o e q hx,λb o e hx=>by
      obtain⟨o',e1⟩:=u.there b o e hx;exact⟨o',kb b _ (lt b o e).1 e1⟩,λb zs q=>by rw[Dl (Gf q HD)];exact u.tups b zs q,λb o zs q=>by rw[Dl (Gf q HD)];exact u.frzs b o zs q,λb ps q=>by rw[Dl (Gf q HD)];exact u.tbls b ps q⟩
  have hok:HOk X.prog X.w (upd H' D (.lst xs)) h'':=λb o e=>by
    by_cases hb:b=D
    · subst hb;rw[Ix]at e;cases e;exact⟨hz,ys,n,rv,kb _ _ hDC hd⟩
    · rw[Dl hb]at e;refine(I'.hok b o e).stay (λc v hc q=>kb c v ?_ q) (λc q=>by rw[Dl (Gf q hDn)];exact q) λc zs q=>by rw[Dl (Gf q hDn)];exact q
      rcases hc with rfl|hc
      · exact Gf e hCn
      · exact Gf hc hCn
  exact I.call' (s':={s' with heap:=h''}) (ch:=fp) I'.os u2 hok I'.bare λb hb=>⟨(hf b hb).2.2.2.1,(hf b hb).2.1,(hf b hb).2.2.2.2.1,(hf b hb).2.2.2.2.2⟩
end
def PTs(X:Cx)(ifs:Ac An)(tt:TT):Prop:=∀(pI:Pn)(s:As)(Z:L2.St)(H:Hp)(Q:Aj->Hp->Prop),Inv X pI Z H s->tt Z H Q ->
 AB (model X.prog X.w) X.A (forIn ifs Aa λc r=>if r=Aa then do let ok <-IM c X.env (eval c X.env);pure (EI ok) else pure (EI r)) (TP X pI Z Q) X.xe s
theorem PR:PTs X [] (λZ H Q=>Q Aa H):=λpI s Z H Q I h=>wpAny_tests_nil ⟨H,I,h⟩
theorem iU{t:TT}(h:PT X c t):PTs X [c] t:=λpI s Z H Q I q=>wpAny_tests_one (h pI s Z H Q I q)
theorem ZY{D:Am}{ys:Ac Ai}{E:Vq}{Q:Vq}(I:Inv X ((D,{ cls:=.type "list",data:=.seq ys.toArray n })::pI) Z H s)(hD:X.s₀.heap.objs.size<=D)(hp:∀ p∈X.pn++pI,p.1≠D)(hc:∀ x c,X.env.cells.lookup x=Ab c->c≠D)(hz:ys.length<=sizeLine)(h:∀ s',Inv X ((D,{ cls:=.type "list",data:=.seq (ys++[y]).toArray (n+1) })::pI) Z H s'->(∀ b o,b≠D->s.heap.get? b=Ab o->s'.heap.get? b=Ab o)->Q .none s'):AB (model X.prog X.w) X.A (call (.builtin "list.append") [.ref D,y]) Q E s:=by
 obtain⟨e,hn,hL,hfs,_⟩:=I.pin (D,{ cls:=.type "list",data:=.seq ys.toArray n }) (BE _ Az);refine append_at (hsz:=by rw[AC];exact hz) e λh' hs hd=>?_
 have hd':h'.get? D=Ab { cls:=.type "list",data:=.seq (ys++[y]).toArray (n+1) }:=by rw[hd];simp
 have kb:∀ b o,b≠D->s.heap.get? b=Ab o->h'.get? b=Ab o:=λb o hb q=>(hs.2 b hb).trans q
 have I0:Inv X pI Z H s:=I.pins_of λp hp=>I.pin p (BE _ (Au _ hp))
 have I1:Inv X pI Z H {s with heap:=h'}:=I0.turned (t':=s.toks) kb hn hL (.inr hD) hc hp
 refine h _ (I1.pins_of λp hp=>?_) kb
 rcases At.mp hp with rfl|hp
 .exact⟨hd',hn,hL,hfs,λv z=>by
   have z':LC _ _=LA v:=z;cases z'⟩
 .exact I1.pin p (BE _ hp)
section
variable{prog:AT}{w:AE}{A:Bc}{R:Ju->As->Prop}{s:As}
theorem ZI{target:An}{it acc:Ai}(I:Ag->As->Prop)(turn:∀ n s,I n s->AB (model prog w) A (Ed it) (λr s₁=>match r with
      |none=>R (.ok .next) s₁
      | some v=>AB (model prog w) A (GH target it v) (λ_ s₁'=>AB (model prog w) A (assign target env v) (λ_ s₂=>
          AB (model prog w) A (forIn ifs Aa λc r=>if r=Aa then do let ok <-IM c env (eval c env);pure (EI ok) else pure (EI r)) (λok s₃=>
            if ok=Aa then AB (model prog w) A (eval elt env) (λx s₄=>
              AB (model prog w) A (call (.builtin "list.append") [acc,x]) (λ_ s₅=>∃ m,m<n/\I m s₅) (IP (model prog w) A env λe s'=>R (.error e) s') s₄) (IP (model prog w) A env λe s'=>R (.error e) s') s₃
            else ∃ m,m<n/\I m s₃) (IP (model prog w) A env λe s'=>R (.error e) s') s₂) (IP (model prog w) A env λe s'=>R (.error e) s') s₁') (IP (model prog w) A env λe s'=>R (.error e) s') s₁) (IP (model prog w) A env λe s'=>R (.error e) s') s)(n:Ag)(h:I n s):FP (model prog w) A (.compLoop (.ListComp elt [⟨target,iter,ifs,0⟩] scope pos) 0 it acc env) R s:=by
  refine codeAny_loop rfl I (λn s hI=>?_) n h
  show AB _ A ((compTurn (.ListComp elt [⟨target,iter,ifs,0⟩] scope pos) 0 it acc env).onRaise (λx=>do JA x env;theTreesLotGoes x)) _ _ s
  refine wpAny_noted ?_;rw[compTurn_list];refine Ah (Hk (Ah (CO (turn n s hI) (λr s₁ h₁=>?_) λ_ _ h'=>h')))
  cases r with
  |none=>exact Av h₁
  |some v=>
    refine Ah (CO h₁ (λ_ s₁' h₁'=>?_) λ_ _ h'=>h')
    refine Ah (CO h₁' (λ_ s₂ h₂=>Ah (CO h₂ (λok s₃ h₃=>?_) λ_ _ h'=>h')) λ_ _ h'=>h')
    cases ok with
    |false=>exact Av ⟨rfl,h₃⟩
    |true=>
      exact Ah (Ah (CO h₃ (λx s₄ h₄=>Ah (CO h₄ (λ_ s₅ h₅=>Av (Av ⟨rfl,h₅⟩)) λ_ _ h'=>h')) λ_ _ h'=>h'))
end
def J9(J:It)(ts:Ac Ag)(g:TG)(tt:TT)(te:TE)(Z:L2.St)(H:Hp)(Q:VK):Prop:=∃ W:Ag->Ag->Ac V->L2.St->Hp->Prop,(∃ m,W 0 m [] (hideT ts Z) H)/\∀ i m xs Z H,W i m xs Z H ->
 (J.stop i H/\∀ p,H p=Ae->Q (.ref p) (upd H p (.lst xs))) \/
 (J.go i H/\xs.length<sizeLine/\∀ x H',J.yld i H x H'->g x Z H' λZ2 H2=>tt Z2 H2 λb H3=>if b=Aa then te Z2 H3 λy H4=>∃ m',m'<m/\W (i+1) m' (xs++[y]) Z2 H4 else ∃ m',m'<m/\W (i+1) m' xs Z2 H3)
theorem Ts{g:TG}{it:Am}{tn:Ag->AJ->Prop}{E:Vq}{RR:Ai->Am->Ju->As->Prop}(hc:X.calm=Aa)(B:BlockOk X scope N' ts)(I:Inv X pI Z H s)(T:Turn X.prog X.w X.K tg J fp it tn)(st:tn 0 s.heap)(hf:∀ b∈fp,G6 X pI H b)(hcl:∀ x c,cl.lookup x=Ab c->X.env.cells.lookup x=Ab c)(hcl2:∀ x,(x,D9)∈scope.names->∃ c,cl.lookup x=Ab c)(hg:∀ cl C s H,PG (cxC X scope cl C N' s H fp) tg g)(ht:∀ cl C s H,PTs (cxC X scope cl C N' s H fp) ifs tt)(he:∀ cl C s H,PE (cxC X scope cl C N' s H fp) elt te)(h:J9 J ts g tt te Z H Q)(hRR:∀ cl D C s' H' Z' pins' xs ys n m,Inv (cxC X scope cl C N' s H fp) pins' Z' H' s'->s'.heap.get? D=Ab { cls:=.type "list",data:=.seq (GA ys) n }->H' D=Ae->Bi xs ys->xs.length<=sizeLine->s.heap.objs.size<=D->D≠C->s.heap.objs.size<=C->s'.heap.Ns C m->Q (.ref D) (upd H' D (.lst xs))->RR (.ref D) C (.ok .next) s'):AB (model X.prog X.w) X.A (newList []) (λacc s₃=>AB (model X.prog X.w) X.A (IN scope X.env.globals cl [] X.env.qual Ae .none (Ab X.env)) (λcenv s₄=>FP (model X.prog X.w) X.A (.compStart (.ListComp elt [⟨tg,iter,ifs,0⟩] scope pos) 0 (.ref it) acc {cenv with scope:=relabel scope X.env}) (RR acc cenv.locals) s₄) E s₃) E s:=by
 refine CI (ZC ?_);dsimp only;generalize hH2:s.heap.push { cls:=.type "list",dict:=Ae,data:=.seq ([]:Ac Ai).toArray }=H2;have hns₁:(Hd (H2.push { cls:=.type "dict",data:=.dict #[] }) scope.names).Ns H2.objs.size (λ_=>Ae):=(Heap.Ns.new H2 (.type "dict")).keeps (Il _ _)
 have hkp₁:∀ b o,H2.get? b=Ab o->(Hd (H2.push { cls:=.type "dict",data:=.dict #[] }) scope.names).get? b=Ab o:=λb o e=>Il _ _ b o (Ar _ e)
 have hown:=O2 scope.names (H2.push { cls:=.type "dict",data:=.dict #[] }) cl;have hinj:=O3 scope.names (H2.push { cls:=.type "dict",data:=.dict #[] }) cl;rw[Bm]at hown hinj;generalize hcl':Dy (H2.objs.size+1) scope.names cl=cl' at hown hinj;have hcf:∀ x,(x,B9)∉scope.names->cl'.lookup x=cl.lookup x:=λx hx=>by rw[<-hcl'];exact OU _ _ _ x hx
 have hch:∀ x,(x,B9)∈scope.names->∃ c,cl'.lookup x=Ab c/\H2.objs.size+1<=c:=λx hx=>by rw[<-hcl'];exact O4 _ _ _ _ x (A6 _) (.inl hx)
 generalize hh₁:Hd (H2.push { cls:=.type "dict",data:=.dict #[] }) scope.names=h₁ at hns₁ hkp₁ hown;have hC:H2.objs.size=s.heap.objs.size+1:=by rw[<-hH2,Bm]
 have hCle:s.heap.objs.size<=H2.objs.size:=by rw[hC];exact Io _
 have hDC:s.heap.objs.size≠H2.objs.size:=by rw[hC];exact A1 (E9 _)
 have below:∀ b,b<s.heap.objs.size->b≠H2.objs.size:=λb hb=>by rw[hC];exact A1 (DI hb)
 have old:∀ b o,s.heap.get? b=Ab o->h₁.get? b=Ab o:=λb o e=>hkp₁ b o (hH2 ▸ Ar _ e)
 have hacc:h₁.get? s.heap.objs.size=Ab { cls:=.type "list",data:=.seq ([]:Ac Ai).toArray 0 }:=hkp₁ _ _ (hH2 ▸ Aw _ rfl);have clt:∀ x c,cl.lookup x=Ab c->c<s.heap.objs.size:=λx c e=>by
  obtain⟨v,q⟩:=I.cell x c (hcl x c e);exact q.lt
 have bc:BCells X scope cl' H2.objs.size h₁:=by
  refine⟨λx c e=>?_,hinj (λx y c e1 e2=>I.ok.inj x y c (hcl x c e1) (hcl y c e2)) (λx c e=>DI (AH (clt x c e) hCle)),λx hx=>?_,λx hx=>?_⟩
  .rcases hown x c e with q|⟨q1,q2,q3⟩
   .exact .inl (hcl x c q)
   .exact .inr ⟨B.uniq _ q1,q2,q3⟩
  .have hm:=C0 hx;obtain⟨c,e,hc⟩:=hch x hm;exact⟨c,e,hc⟩
  .have hno:(x,B9)∉scope.names:=λz=>by
    have e1:=B.uniq _ hx;have e2:=B.uniq _ z;rw[show scope.names.lookup x=_ from e1]at e2
    cases e2
   obtain⟨c,e⟩:=hcl2 x hx;exact⟨c,by rw[hcf x hno];exact e,hcl x c e⟩
 have hfo:∀ b∈fp,b<s.heap.objs.size:=λb hb=>by
  obtain⟨o,e,_⟩:=T.obj 0 _ st b hb;exact Ax e
 generalize hD:s.heap.objs.size=D at *;generalize hC':H2.objs.size=C at *;have I0:Inv (cxC X scope cl' C N' s H fp) [] (hideT ts Z) H {s with heap:=h₁,toks:=s.toks+([]:Ac (Al×Ai)).length}:=ZO (tk:=s.toks+([]:Ac (Al×Ai)).length) I B hf (λb hb=>by rw[hD];exact hfo b hb) bc old (by rw[hD];exact hCle) hns₁
 have nD:H D=Ae:=I.hok.fresh (by rw[hD];exact A6 _)
 have noD:∀ b∈fp,b≠D:=λb hb=>A1 (hfo b hb)
 have noC:∀ b∈fp,b≠C:=λb hb=>below b (hfo b hb)
 have stfs:D∉frs X.stack:=λz=>by
  obtain⟨_,o,ho,_⟩:=I.stack.mem z;exact absurd (Ax ho) (by rw[hD];exact Bu _)
 have cD:∀ x c,cl'.lookup x=Ab c->c≠D:=λx c e z=>by
  rcases bc.own x c e with q|⟨_,q,_⟩
  .obtain⟨v,q⟩:=I.cell x c q;exact absurd q.lt (by rw[z,hD];exact Bu _)
  .rw[z]at q;exact absurd (AH q hCle) (Bu _)
 have I1:Inv (cxC X scope cl' C N' s H fp) [(D,{ cls:=.type "list",data:=.seq ([]:Ac Ai).toArray 0 })] (hideT ts Z) H {s with heap:=h₁,toks:=s.toks+([]:Ac (Al×Ai)).length}:=I0.pins_of λp hp=>by
  have e:=Ci.mp hp;subst e;exact⟨hacc,nD,hDC,stfs,λv z=>by
   have z':LC _ _=LA v:=z;cases z'⟩
 have st1:tn 0 h₁:=T.keep _ _ _ st λb _ o e=>old b o e
 obtain⟨W,⟨m0,w0⟩,turn⟩:=h;have fpk:∀{pl:Pn}{H':Hp},(∀ p∈pl,p.1=D)->(∀ b∈fp,H' b=Ae)->∀ b∈fp,G6 (cxC X scope cl' C N' s H fp) pl H' b:=λ{pl H'} hp hn b hb=>
  ⟨hn b hb,noC b hb,λz=>by
   rcases At.mp (I.stkSub b z) with e|e
   .exact(hf b hb).2.1 e
   .exact(hf b hb).2.2.1 e,.inl hb,λx c e=>(bc.own x c e).elim ((hf b hb).2.2.2.2.1 x c) (λz q=>absurd (DU hCle z.2.1) (FM.mpr (by rw[q];exact EW (hfo b hb)))),λp hp'=>by
   have hp2:p∈pl:=hp';rw[hp p hp2];exact(noD b hb).symm⟩
 have loop:∀ s₃:As,s₃={s with heap:=h₁,toks:=s.toks+([]:Ac (Al×Ai)).length} ->
   FP (model X.prog X.w) X.A (.compLoop (.ListComp elt [⟨tg,iter,ifs,0⟩] scope pos) 0 (.ref it) (.ref D) (compEnvC scope cl' C X.env)) (RR (.ref D) C) s₃:=by
  rintro s₃ rfl;refine ZI (λk s'=>∃ i Z' H' xs ys n,Inv (cxC X scope cl' C N' s H fp) [(D,{ cls:=.type "list",data:=.seq (GA ys) n })] Z' H' s'/\tn i s'.heap/\(∀ b∈fp,H' b=Ae)/\Bi xs ys/\xs.length<=sizeLine/\W i k xs Z' H') ?_ m0
   ⟨0,_,H,[],[],0,I1,st1,λb hb=>(hf b hb).1,.nil,Em _,w0⟩
  rintro k s' ⟨i,Z',H',xs,ys,n,I',st',fr',rv,hz,w'⟩;have one:∀ p∈[((D,{ cls:=.type "list",data:=.seq (GA ys) n }):Am×Dg)],p.1=D:=λp hp=>by rw[Ci.mp hp]
  rcases turn i k xs Z' H' w' with ⟨stop,q⟩|⟨go,hlt,step⟩
  .refine CO (T.done (cxC X scope cl' C N' s H fp) rfl rfl rfl hc i _ s' Z' H' (λ_ _=>Bz) I' (fpk one fr') st' stop) (λr s1 ⟨hr,J1⟩=>?_) λ_ _ f=>f.elim
   subst hr;obtain⟨e,hn,_⟩:=J1.pin _ (BE _ Az);obtain⟨m,hm,_⟩:=J1.loc;exact hRR cl' D C s1 H' Z' _ xs ys n m J1 e hn rv hz (A6 _) hDC hCle hm (q D hn)
  .refine CO (T.item (cxC X scope cl' C N' s H fp) rfl rfl rfl hc i _ s' Z' H' (λ_ _=>Bz) I' (fpk one fr') st' go) (λr s1 ⟨u,hr,h4⟩=>?_) λ_ _ f=>f.elim
   subst hr;refine CO h4 (λ_ s5 ⟨x,H5,I5,r5,y5,st5,fr5⟩=>?_) λ_ _ f=>f.elim
   have I5':=I5.pinned (fpk one fr5) (T.obj _ _ st5);refine CO (hg cl' C s H _ s5 Z' H5 x u _ I5' r5 (step x H5 y5)) (λ_ s6 ⟨Z6,H6,I6,q6⟩=>?_) λ_ _ f=>f.elim
   refine CO (ht cl' C s H _ s6 Z6 H6 _ I6 q6) (λok s7 ⟨H7,I7,q7⟩=>?_) λ_ _ f=>f.elim
   have again:∀{s8:As}{H8:Hp}{ys':Ac Ai}{n':Ag},Inv (cxC X scope cl' C N' s H fp) ((D,{ cls:=.type "list",data:=.seq (GA ys') n' })::Kk fp s5.heap) Z6 H8 s8->Inv (cxC X scope cl' C N' s H fp) [(D,{ cls:=.type "list",data:=.seq (GA ys') n' })] Z6 H8 s8/\tn (i+1) s8.heap/\∀ b∈fp,H8 b=Ae:=λ{s8 H8 ys' n'} I8=>
    ⟨I8.pins_of λp hp=>I8.pin p (BE _ (by rw[Ci.mp hp];exact Az)),T.keep _ _ _ st5 λb hb o e=>(I8.pin (b,o) (BE _ (Au _ (MF hb e)))).1,λb hb=>by
     obtain⟨o,e,d⟩:=T.obj _ _ st5 b hb;exact(I8.pin (b,o) (BE _ (Au _ (MF hb e)))).2.1⟩
   cases ok with
   |false=>
    rw[AV (by decide)]at q7
    obtain⟨m',hm,w7⟩:=q7;obtain⟨a1,a2,a3⟩:=again I7;rw[AV (by decide)]
    exact⟨m',hm,i+1,Z6,H7,xs,ys,n,a1,a2,a3,rv,hz,w7⟩
   |true=>
    rw[AI rfl]at q7;rw[AI rfl];refine CO (he cl' C s H _ s7 Z6 H7 _ I7 q7) (λval s8 ⟨y,H8,I8,r8,m',hm,w8⟩=>?_) λ_ _ f=>f.elim
    have hl:=rv.length;refine ZY (X:=cxC X scope cl' C N' s H fp) (ys:=ys) (n:=n) (pI:=Kk fp s5.heap) I8 (by show s.heap.objs.size<=D;rw[hD];exact A6 _) (λp hp=>?_) cD (by omega) λs9 I9 kb=>?_
    .have hp2:p∈Kk fp s5.heap:=hp;exact noD _ (S6 hp2).1
    .obtain⟨a1,a2,a3⟩:=again I9;exact⟨m',hm,i+1,Z6,H8,xs++[y],ys++[val],n+1,a1,a2,a3,rv.append (.cons r8 .nil),by rw[Ch];exact hlt,w8⟩
 exact codeAny_compStart_list (loop _ rfl) (T.self _ 0 _ _ _ st1 (loop _ rfl))
theorem Ut{g:TG}(hc:X.calm=Aa)(B:BlockOk X scope N' ts)(hi:PI X tg iter wi)(hg:∀ cl C s H fp,PG (cxC X scope cl C N' s H fp) tg g)(ht:∀ cl C s H fp,PTs (cxC X scope cl C N' s H fp) ifs tt)(he:∀ cl C s H fp,PE (cxC X scope cl C N' s H fp) elt te)(hs:∀ x,CY iter X.env x=pure x):PE X (.ListComp elt [⟨tg,iter,ifs,0⟩] scope pos) (λZ H Q=>wi Z H λJ H1=>J9 J ts g tt te Z H1 Q):=by
 intro pI s Z H Q I h;obtain⟨cl,hclos,hcl,hcl2⟩:=Sr (scope:=scope) (env:=X.env) λx hx hk=>I.ok.has x.1 ((B.free x hx hk).imp id id)
 rw[eval_ListComp];refine YC (use:=Ae) rfl hs hclos B.kind B.names (thn (hi pI s Z H _ I h) λv s1 h1=>thn h1 λitv s2 h2=>?_)
 obtain⟨it,fp,tn,J,H2,e,I2,T,st2,f2,h3⟩:=h2;subst e;refine Ts (RR:=λacc C=>compPost (model X.prog X.w) X.A X.xe Ae (EP X pI Z Q) acc C) hc B I2 T st2 f2 hcl hcl2 (λcl C s H=>hg cl C s H fp) (λcl C s H=>ht cl C s H fp) (λcl C s H=>he cl C s H fp) h3 λcl' D C s' H' Z' pins' xs ys n m I' hd hDn rv hz hD hDC hC hm q=>?_
 exact⟨m,hm,λh'' hs''=>⟨.ref D,_,SG I2 f2 I' hD hDC hC hd hDn rv hz hs'',rfl,q⟩⟩
theorem UI{n:Al}{g:TG}(hc:X.calm=Aa)(B:BlockOk X scope N' ts)(hi:PI X tg iter wi)(hg:∀ cl C s H fp,PG (cxC X scope cl C N' s H fp) tg g)(ht:∀ cl C s H fp,PTs (cxC X scope cl C N' s H fp) ifs tt)(he:∀ cl C s H fp,PE (cxC X scope cl C N' s H fp) elt te)(hs:∀ x,CY iter X.env x=pure x)(hN:X.N.Nodup)(hni:X.N[i]?=Ab n)(hx:X.env.scope.names.lookup n=Ab .local)(hsw:DJ (.ListComp elt [⟨tg,iter,ifs,0⟩] scope pos) (Ab (.Name n pos')) pos2.line X.env=pure Aa):PS X (.Assign [.Name n pos'] (.ListComp elt [⟨tg,iter,ifs,0⟩] scope pos) pos2) (Mo (λZ H Q=>wi Z H λJ H1=>J9 J ts g tt te Z H1 Q) (ED i)):=by
 intro pI s Z H Dn I h;obtain⟨cl,hclos,hcl,hcl2⟩:=Sr (scope:=scope) (env:=X.env) λx hx hk=>I.ok.has x.1 ((B.free x hx hk).imp id id)
 rw[exec_Assign_Name_used _ _ _ _ hsw];refine Ah (Hk (Ah ?_));show AB _ X.A (do let _ <-comprehension (.ListComp elt [⟨tg,iter,ifs,0⟩] scope pos) scope X.env _ (newList []) Af (eval iter X.env) (Ab (assign (.Name n pos') X.env))) _ _ s
 refine Ah (CO (YC (use:=Ab (assign (.Name n pos') X.env)) (Q:=λ_ s'=>SP X pI Dn .next s') rfl hs hclos B.kind B.names
  (thn (hi pI s Z H _ I h) λv s1 h1=>thn h1 λitv s2 h2=>?_)) (λ_ s' hq=>Av (Av hq)) λ_ _ e=>e)
 obtain⟨it,fp,tn,J,H2,e,I2,T,st2,f2,h3⟩:=h2;subst e;refine Ts (RR:=λacc C=>compPost (model X.prog X.w) X.A X.xe (Ab (assign (.Name n pos') X.env)) (λ_ s'=>SP X pI Dn .next s') acc C) hc B I2 T st2 f2 hcl hcl2 (λcl C s H=>hg cl C s H fp) (λcl C s H=>ht cl C s H fp) (λcl C s H=>he cl C s H fp) h3 λcl' D C s' H' Z' pins' xs ys n' m I' hd hDn rv hz hD hDC hC hm q=>?_
 have J0:Inv X pI Z (upd H' D (.lst xs)) s':=SG I2 f2 I' hD hDC hC hd hDn rv hz (X1 ..);refine YB (Sh J0 hN hni (.inl hx) (show B5 (.ref D) (.ref D) from rfl) (λs'' J1 ⟨a,sb,ha⟩=>?_) (.inr hx))
 have hC0:X.s₀.heap.objs.size<=C:=Cb I2.sz hC;have hL:C≠X.env.locals:=λz=>absurd (AH I2.lt (z ▸ hC)) (Bu _)
 have hcC:∀ x c,X.env.cells.lookup x=Ab c->c≠C:=λx c e z=>by
  obtain⟨v,q'⟩:=I2.cell x c e;exact absurd (AH q'.lt (by rw[z];exact hC)) (Bu _)
 have hp:∀ p∈X.pn++pI,p.1≠C:=λp hp z=>absurd (AH (Ax (I2.pin p hp).1) (by rw[z];exact hC)) (Bu _)
 have hCn:upd H' D (.lst xs) C=Ae:=by rw[Dl hDC.symm];exact I'.free
 have hCa:C≠a:=by
  rcases ha with rfl|ha
  .exact hL
  .exact λz=>hcC n a ha z.symm
 refine⟨m,hm.sameBut sb hCa,λh'' hs''=>⟨_,_,J1.turned (t':=s''.toks) (λb o hb e=>(hs''.2 b hb).trans e) hCn hL (.inr hC0) hcC hp,q⟩⟩
theorem KU:∀(ts:Ac Ag)(U:Rho)(j:Ag),(FH ts U)[j]?=if j∈ts then (U[j]?).map (λ_=>Ae) else U[j]?
 |[],U,j=>by simp[FH]
 |t::ts,U,j=>by
  show (FH ts (U.set t Ae))[j]?=_;rw[KU ts];by_cases h1:j∈ts
  .rw[AI h1,AI (Au _ h1)];by_cases h2:t=j
   .subst h2;rw[FR];cases U[t]?<;>rfl
   .rw[Cj h2]
  .rw[AV h1];by_cases h2:t=j
   .subst h2;rw[AI Az,FR];cases U[t]?<;>rfl
   .rw[Cj h2,AV (by simp only[At,DR];exact⟨λz=>h2 z.symm,h1⟩)]
theorem MX:∀(ts:Ac Ag)(U:Rho),(FH ts U).length=U.length
 |[],_=>rfl
 |t::ts,U=>by show (FH ts (U.set t Ae)).length=_;rw[MX ts,Bj]
theorem OQ:∀(ts:Ac Ag)(Z:L2.St){i:Ag},i∉ts->(hideT ts Z)[i]?=Z[i]?
 |[],_,_,_=>rfl
 |t::ts,Z,i,h=>by
  simp only[At,DR]at h;show (hideT ts (Z.set t Ae))[i]?=_;rw[OQ ts _ h.2,Cj (λz=>h.1 z.symm)]
theorem RX:∀(ts:Ac Ag)(ds:Ac D)(U1 U2:Rho),U1.length=U2.length->(∀ j,j∉ts->U1[j]?=U2[j]?)->E2 ts ds U1=E2 ts ds U2
 |[],[],U1,U2,hl,h=>congrArg Ab (FU λj=>h j (by simp))
 |[],_::_,_,_,_,_=>rfl
 |_::_,[],_,_,_,_=>rfl
 |t::ts,d::ds,U1,U2,hl,h=>by
  refine RX ts ds _ _ (by rw[Bj,Bj];exact hl) λj hj=>?_
  by_cases e:t=j
  .subst e;rw[Hu,Hu,AI rfl,AI rfl,hl]
  .rw[Cj e,Cj e];exact h j (by simp only[At,DR];exact⟨λz=>e z.symm,hj⟩)
theorem Sc:∀(ts us:Ac Ag)(ds:Ac D)(U U':Rho),(∀ t∈ts,t∈us)->E2 ts ds U=Ab U'->FH us U'=FH us U
 |[],us,[],U,U',_,e=>by cases e;rfl
 |t::ts,us,d::ds,U,U',hs,e=>by
  rw[Sc ts us ds _ U' (λu hu=>hs u (Au _ hu)) e]
  refine FU λj=>?_
  rw[KU,KU];by_cases h:j∈us
  .rw[AI h,AI h,Hu];split
   .rename_i e2;subst e2;split
    .rename_i h3;rw[BS h3];rfl
    .rename_i h3;rw[Gq (by omega)]
   .rfl
  .rw[AV h,AV h,Cj];rintro rfl;exact h (hs _ Az)
 |[],_,_::_,_,_,_,e=>by cases e
 |_::_,_,[],_,_,_,e=>by cases e
section
variable{K:Fg}{CL:ClA}{A:Am->Prop}{U U':Rho}{Z:L2.St}{H:Hp}
theorem Good.less(g:Good K CL A U Z H)(hl:U'.length=U.length)(h:∀(i:Ag)(d:D)(o:Aj),U'[i]?=Ab (Ab (d,o))->U[i]?=Ab (Ab (d,o))):Good K CL A U' Z H:=⟨λi d e=>g.sh i d (h i d Af e),λi d e=>g.ow i d (h i d Aa e),hl.trans g.len⟩
theorem Good.put(g:Good K CL A U Z H)(t:Ag)(r:Rep K CL H A v d):Good K CL A (U.set t (Ab (d,Af))) (Z.set t (Ab v)) H:=by
 refine⟨λj e h=>?_,λj e h=>?_,by rw[Bj,Bj];exact g.len⟩
 .by_cases hj:t=j
  .subst hj;have e1:=Hm h;cases e1;have hl:t<Z.length:=by
    rw[<-g.len];have:=(AX.mp h).1;simpa using this
   exact⟨v,by rw[CA hl],r⟩
  .rw[Cj hj]at h;obtain⟨w',q,rw'⟩:=g.sh j e h;exact⟨w',by rw[Cj hj];exact q,rw'⟩
 .have hj:t≠j:=by
   rintro rfl;have:=Hm h;cases this
  rw[Cj hj]at h;obtain⟨a,xs,ds,q,z⟩:=g.ow j e h;exact⟨a,xs,ds,by rw[Cj hj];exact q,z⟩
theorem Good.hide(g:Good K CL A U Z H)(ts:Ac Ag):Good K CL A (FH ts U) Z H:=g.less (MX _ _) λi d o e=>by
 rw[KU]at e;split at e
 .cases q:U[i]? with
  |none=>rw[q]at e;cases e
  |some x=>rw[q]at e;cases e
 .exact e
theorem Good.hideT(g:Good K CL A U Z H)(ts:Ac Ag):Good K CL A (FH ts U) (hideT ts Z) H:=by
 have key:∀ i x,(FH ts U)[i]?=Ab (Ab x)->U[i]?=Ab (Ab x)/\i∉ts:=λi x e=>by
  rw[KU]at e;split at e
  .cases q:U[i]? with
   |none=>rw[q]at e;cases e
   |some x=>rw[q]at e;cases e
  .exact⟨e,by assumption⟩
 refine⟨λi d e=>?_,λi d e=>?_,by rw[MX,Pd];exact g.len⟩
 .obtain⟨e1,e2⟩:=key i _ e;obtain⟨v,q,r⟩:=g.sh i d e1;exact⟨v,by rw[OQ _ _ e2];exact q,r⟩
 .obtain⟨e1,e2⟩:=key i _ e;obtain⟨a,xs,ds,q,r⟩:=g.ow i d e1;exact⟨a,xs,ds,by rw[OQ _ _ e2];exact q,r⟩
end
def GG(K:Fg)(CL:ClA)(ts:Ac Ag)(as:D->Rho->R Rho)(g:TG):Prop:=∀ A U Z H v d U' Q,Good K CL A (FH ts U) Z H->Rep K CL H A v d->as d U=.ok U'->(∀ Z',Good K CL A U' Z' H->Good K CL A (FH ts U) Z' H->Q Z' H)->g v Z H Q
theorem lA(i:Ag):GG K CL [i] (λd U=>.ok (U.set i (Ab (d,Af)))) (ED i):=λA U Z H v d U' Q g r e k=>by
 cases e;have g2:=g.put i r;have e1:(FH [i] U).set i (Ab (d,Af))=U.set i (Ab (d,Af)):=by
  show (U.set i Ae).set i (Ab (d,Af))=_;rw[HJ]
 rw[e1]at g2;refine k _ g2 ?_;have:=g2.hide [i];have e2:FH [i] (U.set i (Ab (d,Af)))=FH [i] U:=by
  show (U.set i _).set i Ae=U.set i Ae;rw[HJ]
 rw[e2]at this;exact this
theorem Up{K:Fg}{CL:ClA}{A:Am->Prop}{H:Hp}:∀(ts:Ac Ag)(ds:Ac D)(vs:Ac V)(U U':Rho)(Z:L2.St)(Q:L2.St->Hp->Prop),Good K CL A U Z H->Reps K CL H A vs ds->E2 ts ds U=Ab U'->(∀ Z',Good K CL A U' Z' H->Q Z' H)->(ts.foldr (λt u=>Ib (ED t) u) Ic) vs Z H Q
 |[],[],[],U,U',Z,Q,x,_,e,k=>by
  cases e;exact⟨rfl,k Z x⟩
 |t::ts,d::ds,v::vs,U,U',Z,Q,x,r,e,k=>⟨v,vs,rfl,Up ts ds vs _ U' _ Q (x.put t r.1) r.2 e k⟩
 |[],_::_,_,_,_,_,_,_,_,e,_=>by cases e
 |_::_,[],_,_,_,_,_,_,_,e,_=>by cases e
 |[],[],_::_,_,_,_,_,_,r,_,_=>r.elim
 |_::_,_::_,[],_,_,_,_,_,r,_,_=>r.elim
theorem tY(ts:Ac Ag):GG K CL ts (Gh ts) (Lr K ts.length (ts.foldr (λt u=>Ib (ED t) u) Ic)):=λA U Z H v d U' Q g r e k=>by
 cases d with
 |tup ds=>
  obtain⟨a,xs,rfl,na,sq,rs⟩:=r;rw[Sv]at e;cases e2:E2 ts ds U with
  |none=>rw[e2]at e;cases e
  |some U2=>
   rw[e2]at e;cases e;have e3:E2 ts ds (FH ts U)=Ab U':=by
    rw[<-e2];exact RX ts ds _ _ (MX _ _) λj hj=>by rw[KU,AV hj]
   refine⟨a,xs,rfl,sq,by rw[rs.length];exact MJ _ _ _ _ e2,Up ts ds xs _ U' Z Q g rs e3 λZ' g'=>k Z' g' ?_⟩
   have:=g'.hide ts;rw[Sc ts ts ds U U' (λ_ h=>h) e2]at this
   exact this
 |_=>cases e
noncomputable abbrev W0:XW:=λ_ _=>Bz
def STs(X:Cx)(CL:ClA)(ifs:Ac An)(f:Rho->R Aj):Prop:=∀ A,PTs X ifs (λZ H Q=>AOk H A/\∃ U,Good X.K CL A U Z H/\Du W0 H (f U) Q)
theorem gH:STs X CL [] (λ_=>.ok Aa):=λA pI s Z H Q I ⟨hA,U,g,p⟩=>PR pI s Z H Q I (p H (AM.refl H))
theorem gG(h:SB X CL W0 c f):STs X CL [c] f:=λA pI s Z H Q I q=>iU (h A) pI s Z H Q I q
section
variable{X:Cx}{CL:ClA}{W:XW}{tg iter elt:An}{ifs:Ac An}{scope:Cq}{pos:A7}{N':Ac Al}{ts:Ac Ag}{fi:Rho->R (Ac D)}{fc:Rho->R Aj}{fe:Rho->R D}{as:D->Rho->R Rho}{g:TG}
theorem ZF{g:D->R Aj}{f:D->R D}{x:D}{xs ys:Ac D}(h:BQ g f (x::xs)=.ok ys):(g x=.ok Af/\BQ g f xs=.ok ys)\/∃ y r,g x=.ok Aa/\f x=.ok y/\BQ g f xs=.ok r/\ys=y::r:=by
 unfold BQ at h;cases e:g x with
 |bad=>rw[e]at h;cases h
 |exn z=>rw[e]at h;cases h
 |ok b=>
  rw[e,R.bind_ok]at h;cases b with
  |false=>exact .inl ⟨rfl,h⟩
  |true=>
   rw[AI rfl]at h;cases e2:f x with
   |bad=>rw[e2]at h;cases h
   |exn z=>rw[e2]at h;cases h
   |ok y=>
    rw[e2,R.bind_ok]at h;cases e3:BQ g f xs with
    |bad=>rw[e3]at h;cases h
    |exn z=>rw[e3]at h;cases h
    |ok r=>
     rw[e3,R.bind_ok]at h;cases h;exact .inr ⟨y,r,rfl,rfl,rfl,rfl⟩
theorem Iu{β:Type}{r:R α}{f:α->R β}{b:β}(h:r.bind f=.ok b):∃ a,r=.ok a/\f a=.ok b:=by
 cases r with
 |ok a=>exact⟨a,rfl,h⟩
 |exn x=>cases h
 |bad=>cases h
theorem cB{ds ys:Ac D}(hGG:GG K CL ts as g)(hA:AOk H1 A)(gd:Good K CL A U Z H1)(yl:II K CL A ds J H1)(hz:ds.length<=sizeLine)(hcp:BQ (λx=>(as x U).bind fc) (λx=>(as x U).bind fe) ds=.ok ys)(q:∀ xs H2,AM H1 H2->Reps K CL H2 A xs ys->∀ p,H2 p=Ae->Q (.ref p) (upd H2 p (.lst xs))):J9 J ts g (λZ H Q=>AOk H A/\∃ U,Good K CL A U Z H/\Du W0 H (fc U) Q) (λZ H Q=>AOk H A/\∃ U,Good K CL A U Z H/\Br (λH=>Rep K CL H A) W0 H (fe U) Q) Z H1 Q:=by
 refine⟨λi m xs Z' H'=>m=ds.length-i/\i<=ds.length/\xs.length<=i/\AM H1 H'/\Good K CL A (FH ts U) Z' H'/\∃ outs rest,Reps K CL H' A xs outs/\BQ (λx=>(as x U).bind fc) (λx=>(as x U).bind fe) (ds.drop i)=.ok rest/\ys=outs++rest,
  ⟨ds.length,by simp,Em _,A6 _,AM.refl _,gd.hideT ts,[],ys,trivial,hcp,rfl⟩,?_⟩
 rintro i m xs Z' H' ⟨rfl,hi,hxl,sm,g',outs,rest,rs,hc,e⟩;obtain⟨yst,ygo⟩:=yl H' (Kp.of sm) i;by_cases hlt:i<ds.length
 .have hd:ds[i]?=Ab ds[i]:=BS hlt;obtain⟨hgo,hyl⟩:=ygo _ hd;refine .inr ⟨hgo,by omega,λx H2 hx=>?_⟩
  obtain⟨s2,rx⟩:=hyl x H2 hx;have rx':=rx A (λa ha=>.inl ha) (hA.same sm)
  rw[Eg hlt]at hc;have sm2:=sm.trans s2;rcases ZF hc with ⟨h1,h2⟩|⟨y,r,h1,h2,h3,h4⟩
  .obtain⟨U',ea,ec⟩:=Iu h1;refine hGG A U Z' H2 x ds[i] U' _ (g'.same s2) rx' ea λZ3 g3 g4=>⟨hA.same sm2,U',g3,?_⟩
   rw[ec];exact λH3 s3=>by
    dsimp only;rw[AV (by decide)]
    exact⟨ds.length-(i+1),by omega,rfl,hlt,by omega,sm2.trans s3,g4.same s3,outs,rest,(rs.same s2).same s3,h2,e⟩
  .obtain⟨U',ea,ec⟩:=Iu h1;obtain⟨U2,ea2,ee⟩:=Iu h2;rw[ea]at ea2;cases ea2;refine hGG A U Z' H2 x ds[i] U' _ (g'.same s2) rx' ea λZ3 g3 g4=>⟨hA.same sm2,U',g3,?_⟩
   rw[ec];exact λH3 s3=>by
    dsimp only;rw[AI rfl];refine⟨(hA.same sm2).same s3,U',g3.same s3,?_⟩;rw[ee];exact λv H4 s4 r4=>⟨ds.length-(i+1),by omega,rfl,hlt,by rw[Ch,ET];omega,(sm2.trans s3).trans s4,(g4.same s3).same s4,outs++[y],r,(((rs.same s2).same s3).same s4).append ⟨r4,trivial⟩,h3,by rw[e,h4];simp⟩
 .have hk':ds.length<=i:=by omega
  rw[F3 hk']at hc;have hr:rest=[]:=by cases hc;rfl
  subst hr;rw[Do]at e;subst e;exact .inl ⟨yst hk',λp hp=>q xs H' sm rs p hp⟩
theorem E4.ok_of{r:R (Ac D)}{f:Ac D->R D}{Q':It->Hp->Prop}(h:Br Rq W H (r.bind f) Q)(k:∀ ds J H',r=.ok ds->AM H H'->II K CL A ds J H'->ds.length<=sizeLine->Br Rq W H' (f ds) Q->Q' J H'):E4 K CL A W H r Q':=by
 cases r with
 |ok d=>exact λJ H2 s2 y z=>k d J H2 rfl s2 y z (Br.same s2 h)
 |exn x=>exact h
 |bad=>exact h
theorem Vw{r:R α}{a:α}(h:noX r=.ok a):r=.ok a:=by
 cases r with
 |ok b=>exact h
 |exn x=>cases h
 |bad=>cases h
theorem Tk(hGG:GG X.K CL ts as g)(hA:AOk H A)(gd:Good X.K CL A U Z H)(p:Br (E6 X.K CL Aa H A) W H ((fi U).bind λxs=>(noX (BQ (λx=>(as x U).bind fc) (λx=>(as x U).bind fe) xs)).bind λys=>.ok (.lst ys)) Q):E4 X.K CL A W H (fi U) (λJ H1=>J9 J ts g (λZ H Q=>AOk H A/\∃ U,Good X.K CL A U Z H/\Du W0 H (fc U) Q) (λZ H Q=>AOk H A/\∃ U,Good X.K CL A U Z H/\Br (λH=>Rep X.K CL H A) W0 H (fe U) Q) Z H1 Q):=
 E4.ok_of p λds J H1 e1 s1 yl hz p1=>by
  cases e2:noX (BQ (λx=>(as x U).bind fc) (λx=>(as x U).bind fe) ds) with
  |ok ys=>
   rw[e2]at p1;exact cB hGG (hA.same s1) (gd.same s1) yl hz (Vw e2) λxs H2 s2 rs q hq=>p1 _ _ (s2.trans (FE hq _)) (KO (s1.trans s2) ((hA.same s1).same s2) hq rs)
  |exn x=>rw[e2]at p1;cases hq:BQ (λx=>(as x U).bind fc) (λx=>(as x U).bind fe) ds<;>rw[hq]at e2<;>cases e2
  |bad=>rw[e2]at p1;exact p1.elim
theorem fQ(hc:X.calm=Aa)(B:BlockOk X scope N' ts)(hi:SI X CL W tg iter fi)(hGG:GG X.K CL ts as g)(hg:∀ cl C s H fp,PG (cxC X scope cl C N' s H fp) tg g)(ht:∀ cl C s H fp,STs (cxC X scope cl C N' s H fp) CL ifs fc)(he:∀ cl C s H fp,SE (cxC X scope cl C N' s H fp) CL W0 elt fe)(hs:∀ x,CY iter X.env x=pure x):SC X CL W Aa (.ListComp elt [⟨tg,iter,ifs,0⟩] scope pos) (λU=>(fi U).bind λxs=>(noX (BQ (λx=>(as x U).bind fc) (λx=>(as x U).bind fe) xs)).bind λys=>.ok (.lst ys)):=λA pI s Z H Q I ⟨hA,U,gd,p⟩=>
 Ut hc B (hi A) hg (λcl C s H fp=>ht cl C s H fp A) (λcl C s H fp=>he cl C s H fp A) hs pI s Z H Q I ⟨hA,U,gd,Tk hGG hA gd p⟩
end
section
variable{K:Fg}{CL:ClA}{Fz:Am->HO->Prop}{B:Am->Prop}{U:Rho}{Z:L2.St}{H H':Hp}
theorem Sx.setF(x:Sx K CL Fz B U Z H)(s:AM H H'){ds:Ac D}(h0:H a=Ae)(h1:H' a=Ab (.lst xs))(r:Reps K CL H' (λb=>BG B U Z b\/b=a) xs ds):Sx K CL Fz B (U.set i (Ab (.lst ds,Aa))) (Z.set i (Ab (.ref a))) H':=by
 have nA:¬ BG B U Z a:=x.aok.new h0;have own:∀(j:Ag)(e:D),(U.set i (Ab (.lst ds,Aa)))[j]?=Ab (Ab (e,Aa))->(i=j/\e=.lst ds)\/(i≠j/\U[j]?=Ab (Ab (e,Aa))):=λj e h=>by
  by_cases hj:i=j
  .subst hj;have:=Hm h;cases this;exact .inl ⟨rfl,rfl⟩
  .exact .inr ⟨hj,by rw[Cj hj]at h;exact h⟩
 have atI:∀{j:Ag}{y:Sl},(U.set i (Ab (.lst ds,Aa)))[j]?=Ab y->i=j->(Z.set i (Ab (.ref a)))[j]?=Ab (Ab (.ref a)):=λ{j y} h e=>by
  subst e;have hl:i<Z.length:=by
   rw[<-x.len];have:=(AX.mp h).1;simpa using this
  rw[CA hl]
 have sub:∀ b,BG B (U.set i (Ab (.lst ds,Aa))) (Z.set i (Ab (.ref a))) b->BG B U Z b\/b=a:=λb h=>by
  rcases h with h|⟨j,e,h1,h2⟩
  .exact .inl (.inl h)
  .rcases own j e h1 with ⟨hj,_⟩|⟨hj,h1'⟩
   .rw[atI h1 hj]at h2;cases h2;exact .inr rfl
   .rw[Cj hj]at h2;exact .inl (.inr ⟨j,e,h1',h2⟩)
 have wide:∀{v:V}{d:D},Rep K CL H (BG B U Z) v d->Rep K CL H' (BG B (U.set i (Ab (.lst ds,Aa))) (Z.set i (Ab (.ref a)))) v d:=λr=>(Rep.wide (λb hb=>(sub b hb).imp id λe=>by rw[e];exact h0) _ r).same s
 have wides:∀{v:Ac V}{d:Ac D},Reps K CL H (BG B U Z) v d->Reps K CL H' (BG B (U.set i (Ab (.lst ds,Aa))) (Z.set i (Ab (.ref a)))) v d:=λr=>(Reps.wide (λb hb=>(sub b hb).imp id λe=>by rw[e];exact h0) _ r).same s
 refine⟨⟨λj e h=>?_,λj e h=>?_,by rw[Bj,Bj];exact x.len⟩,λb h=>?_,λj e b g1 g2=>?_,λj k e f b g1 g2 g3 g4=>?_,λb o z=>s _ _ (x.same b o z),by rw[Bj,Bj];exact x.len⟩
 .have hj:i≠j:=by
   rintro rfl;have:=Hm h;cases this
  rw[Cj hj]at h;obtain⟨w',q,rw'⟩:=x.good.sh j e h;exact⟨w',by rw[Cj hj];exact q,wide rw'⟩
 .rcases own j e h with ⟨hj,rfl⟩|⟨hj,h'⟩
  .have q:=atI h hj;exact⟨a,xs,ds,q,rfl,.inr ⟨j,_,h,q⟩,h1,Reps.sub sub _ r⟩
  .obtain⟨b,ys,es,q,z,ha,hh,rr⟩:=x.good.ow j e h';have q':(Z.set i (Ab (.ref a)))[j]?=Ab (Ab (.ref b)):=by rw[Cj hj];exact q
   exact⟨b,ys,es,q',z,.inr ⟨j,e,h,q'⟩,s _ _ hh,wides rr⟩
 .rcases sub b h with z|z
  .obtain⟨ys,q⟩:=x.aok b z;exact⟨ys,s _ _ q⟩
  .rw[z];exact⟨xs,h1⟩
 .rcases own j e g1 with ⟨hj,_⟩|⟨hj,h'⟩
  .rw[atI g1 hj]at g2;cases g2;refine⟨λo z=>?_,λz=>nA (.inl z)⟩
   have:=x.same a o z;rw[h0]at this;cases this
  .rw[Cj hj]at g2;exact x.new j e b h' g2
 .rcases own j e g1 with ⟨hj,_⟩|⟨hj,h'⟩
  .rw[atI g1 hj]at g3;cases g3;rcases own k f g2 with ⟨hk,_⟩|⟨hk,h''⟩
   .exact hj.symm.trans hk
   .rw[Cj hk]at g4;exact absurd (.inr ⟨k,f,h'',g4⟩) nA
  .rw[Cj hj]at g3;rcases own k f g2 with ⟨hk,_⟩|⟨hk,h''⟩
   .rw[atI g2 hk]at g4;cases g4;exact absurd (.inr ⟨j,e,h',g3⟩) nA
   .rw[Cj hk]at g4;exact x.dis j k e f b h' h'' g3 g4
theorem Sx.upd(x:Sx K CL Fz B U Z H){i:Ag}{d:D}{a:Am}{xs:Ac V}{ds:Ac D}(hi:U[i]?=Ab (Ab (d,Aa)))(ha:Z[i]?=Ab (Ab (.ref a)))(r:Reps K CL H (BG B U Z) xs ds):Sx K CL Fz B (U.set i (Ab (.lst ds,Aa))) Z (L2.upd H a (.lst xs)):=by
 have oa:BG B U Z a:=.inr ⟨i,d,hi,ha⟩;have hil:i<U.length:=(AX.mp hi).1;have get:∀(j:Ag)(e:D),(U.set i (Ab (.lst ds,Aa)))[j]?=Ab (Ab (e,Aa))↔(i=j/\e=.lst ds)\/(i≠j/\U[j]?=Ab (Ab (e,Aa))):=λj e=>by
  by_cases hj:i=j
  .subst hj;rw[CA hil];simp;exact⟨λz=>z.symm,λz=>z.symm⟩
  .rw[Cj hj];simp[hj]
 have same:∀ b,BG B (U.set i (Ab (.lst ds,Aa))) Z b↔BG B U Z b:=λb=>by
  constructor
  .rintro (h|⟨j,e,h1,h2⟩)
   .exact .inl h
   .rcases (get j e).mp h1 with ⟨rfl,_⟩|⟨_,h1⟩
    .exact .inr ⟨i,d,hi,h2⟩
    .exact .inr ⟨j,e,h1,h2⟩
  .rintro (h|⟨j,e,h1,h2⟩)
   .exact .inl h
   .by_cases hj:i=j
    .subst hj;exact .inr ⟨i,.lst ds,(get i _).mpr (.inl ⟨rfl,rfl⟩),h2⟩
    .exact .inr ⟨j,e,(get j e).mpr (.inr ⟨hj,h1⟩),h2⟩
 have kp:Kp (BG B U Z) H (L2.upd H a (.lst xs)):=λb o e na=>by
  have hne:b≠a:=by
   rintro rfl;exact na oa
  rw[Dl hne];exact e
 refine⟨⟨λj e h=>?_,λj e h=>?_,by rw[Bj];exact x.len⟩,λb h=>?_,λj e b g1 g2=>?_,λj k e f b g1 g2 g3 g4=>?_,λb o z=>?_,by rw[Bj];exact x.len⟩
 .have hj:i≠j:=by
   rintro rfl;have:=Hm h;cases this
  rw[Cj hj]at h;obtain⟨w',q,rw'⟩:=x.good.sh j e h;exact⟨w',q,Rep.sub (λb hb=>(same b).mp hb) _ (Rep.kp kp _ rw')⟩
 .rcases (get j e).mp h with ⟨rfl,rfl⟩|⟨hj,h'⟩
  .exact⟨a,xs,ds,ha,rfl,(same a).mpr oa,Ix,Reps.sub (λb hb=>(same b).mp hb) _ (Reps.kp kp _ r)⟩
  .obtain⟨b,ys,es,q,z,hb,hh,rr⟩:=x.good.ow j e h';have hne:b≠a:=λz=>hj (x.dis i j d e a hi h' ha (z ▸ q))
   exact⟨b,ys,es,q,z,(same b).mpr hb,by rw[Dl hne];exact hh,Reps.sub (λb hb=>(same b).mp hb) _ (Reps.kp kp _ rr)⟩
 .obtain⟨ys,q⟩:=x.aok b ((same b).mp h);by_cases e:b=a
  .rw[e];exact⟨xs,Ix⟩
  .exact⟨ys,by rw[Dl e];exact q⟩
 .rcases (get j e).mp g1 with ⟨rfl,_⟩|⟨_,h'⟩
  .exact x.new i d b hi g2
  .exact x.new j e b h' g2
 .rcases (get j e).mp g1 with ⟨rfl,_⟩|⟨hj,h'⟩
  .rcases (get k f).mp g2 with ⟨rfl,_⟩|⟨hk,h''⟩
   .rfl
   .exact x.dis i k d f b hi h'' g3 g4
  .rcases (get k f).mp g2 with ⟨rfl,_⟩|⟨hk,h''⟩
   .exact x.dis j i e d b h' hi g3 g4
   .exact x.dis j k e f b h' h'' g3 g4
 .have hne:b≠a:=λe=>(x.new i d a hi ha).1 o (e ▸ z)
  rw[Dl hne];exact x.same b o z
theorem Sx.rel(x:Sx K CL Fz B U Z H)(hi:U[i]?=Ab (Ab (d,Aa))):Sx K CL Fz B (U.set i (Ab (d,Af))) Z H:=by
 obtain⟨a,xs,ds,q,rfl,oa,hh,rr⟩:=x.good.ow i d hi;have own:∀(j:Ag)(e:D),(U.set i (Ab (.lst ds,Af)))[j]?=Ab (Ab (e,Aa))->i≠j/\U[j]?=Ab (Ab (e,Aa)):=λj e h=>by
  by_cases hj:i=j
  .subst hj;have:=Hm h;cases this
  .exact⟨hj,by rw[Cj hj]at h;exact h⟩
 have sub:∀ b,BG B (U.set i (Ab (.lst ds,Af))) Z b->BG B U Z b:=λb h=>by
  rcases h with h|⟨j,e,h1,h2⟩
  .exact .inl h
  .exact .inr ⟨j,e,(own j e h1).2,h2⟩
 have na:¬ BG B (U.set i (Ab (.lst ds,Af))) Z a:=λh=>by
  rcases h with h|⟨j,e,h1,h2⟩
  .exact(x.new i _ a hi q).2 h
  .obtain⟨hj,h1⟩:=own j e h1;exact hj (x.dis i j _ e a hi h1 q h2)
 refine⟨⟨λj e h=>?_,λj e h=>?_,by rw[Bj];exact x.len⟩,λb h=>x.aok b (sub b h),λj e b g1 g2=>x.new j e b (own j e g1).2 g2,λj k e f b g1 g2 g3 g4=>x.dis j k e f b (own j e g1).2 (own k f g2).2 g3 g4,x.same,by rw[Bj];exact x.len⟩
 .by_cases hj:i=j
  .subst hj;have e1:=Hm h;cases e1;exact⟨_,q,a,xs,rfl,.inl na,SqL.of hh,Reps.sub sub _ rr⟩
  .rw[Cj hj]at h;obtain⟨w',q',rw'⟩:=x.good.sh j e h;exact⟨w',q',Rep.sub sub _ rw'⟩
 .obtain⟨hj,h'⟩:=own j e h;obtain⟨b,ys,es,q',z,hb,hh',rr'⟩:=x.good.ow j e h';exact⟨b,ys,es,q',z,.inr ⟨j,e,h,q'⟩,hh',Reps.sub sub _ rr'⟩
end
section
variable{X:Cx}{CL:ClA}{W:XW}{pos:A7}{e:An}{fe:Rho->R D}{fr:Aj}
theorem CQ.exC{f:D->O}(x:Sx X.K CL Fz B U Z H)(h:CQ X.K CL Fz B W (O.of U r f) D')(k:∀ d v H',r=.ok d->AM H H'->E6 X.K CL fr H A H' v d->Sx X.K CL Fz B U Z H'->CQ X.K CL Fz B W (f d) D'->Q v H'):Br (E6 X.K CL fr H A) W H r Q:=by
 cases r with
 |ok d=>exact λv H' s r=>k d v H' rfl s r (x.grow s) h
 |exn y=>exact λH' s=>h H' λb o z=>s _ _ (x.same b o z)
 |bad=>exact h
def SAs(X:Cx)(CL:ClA)(W:XW)(fr:Aj)(i:Ag)(st:Bx)(f:Rho->R D):Prop:=∀ A,PS X st (Mo (λZ H Q=>AOk H A/\∃ U,Good X.K CL A U Z H/\Br (E6 X.K CL fr H A) W H (f U) Q) (ED i))
theorem SC.sas{n:Al}(hN:X.N.Nodup)(hi:X.N[i]?=Ab n)(hx:Loc X.env.scope n)(he:SC X CL W fr e fe)(hs:DJ e (Ab (.Name n pos')) pos.line X.env=pure Af)(hf:X.fn n=Aa\/X.env.scope.names.lookup n=Ab .local):SAs X CL W fr i (.Assign [.Name n pos'] e pos) fe:=
 λA=>Vs hN hi hx (he A) hs hf
theorem dR{n:Al}{g:TG}(hc:X.calm=Aa)(B:BlockOk X scope N' ts)(hi:SI X CL W tg iter fi)(hGG:GG X.K CL ts as g)(hg:∀ cl C s H fp,PG (cxC X scope cl C N' s H fp) tg g)(ht:∀ cl C s H fp,STs (cxC X scope cl C N' s H fp) CL ifs fc)(he:∀ cl C s H fp,SE (cxC X scope cl C N' s H fp) CL W0 elt fe)(hs:∀ x,CY iter X.env x=pure x)(hN:X.N.Nodup)(hni:X.N[i]?=Ab n)(hx:X.env.scope.names.lookup n=Ab .local)(hsw:DJ (.ListComp elt [⟨tg,iter,ifs,0⟩] scope pos) (Ab (.Name n pos')) pos2.line X.env=pure Aa):SAs X CL W Aa i (.Assign [.Name n pos'] (.ListComp elt [⟨tg,iter,ifs,0⟩] scope pos) pos2) (λU=>(fi U).bind λxs=>(noX (BQ (λx=>(as x U).bind fc) (λx=>(as x U).bind fe) xs)).bind λys=>.ok (.lst ys)):=λA pI s Z H Dn I ⟨hA,U,gd,p⟩=>
 UI hc B (hi A) hg (λcl C s H fp=>ht cl C s H fp A) (λcl C s H fp=>he cl C s H fp A) hs hN hni hx hsw pI s Z H Dn I ⟨hA,U,gd,Tk hGG hA gd p⟩
theorem Vn{st:Bx}(h:SAs X CL W fr i st fe):SS X CL W st (λU=>O.of U (fe U) λd=>.next (U.set i (Ab (d,Af)))):=λFz B pI s Z H D I ⟨U,x,p⟩=>
 h (BG B U Z) pI s Z H D I ⟨x.aok,U,x.good,CQ.exC x p λd v H' _ s r x' q=>q _ H' (x'.set i r.1)⟩
theorem gR{st:Bx}(h:SAs X CL W Aa i st fe):SS X CL W st (λU=>O.of U (fe U) λd=>setF U i d):=λFz B pI s Z H D I ⟨U,x,p⟩=>
 h (BG B U Z) pI s Z H D I ⟨x.aok,U,x.good,CQ.exC x p λd v H' _ s r x' q=>by
  cases d with
  |lst ds=>
   obtain⟨a,xs,rfl,h0,h1,rs⟩:=r.2 rfl ds rfl;exact q _ H' (x.setF s h0 h1 rs)
  |dic ds=>exact r.1.elim
  | _=>exact q.elim⟩
theorem gM(he:SC X CL W Aa e fe):SS X CL W (.Return (Ab e) pos) (λU=>O.of U (fe U) λd=>.ret d Aa):=λFz B pI s Z H D I ⟨U,x,p⟩=>
 Qm (he (BG B U Z)) pI s Z H D I ⟨x.aok,U,x.good,CQ.exC x p λd v H' _ s r x' q=>q v H' x'.same (Rep.sub (λa h=>.inl h) _ r.1) λ_ ds e=>by
  obtain⟨a,xs,h0,h1,h2,h3⟩:=r.2 rfl ds e;refine⟨a,xs,h0,λo z=>?_,h2,Reps.sub (λb hb=>hb.imp .inl id) _ h3⟩
  have:=x.same a o z;rw[h1]at this;cases this⟩
noncomputable def Ra(U:Rho)(i:Ag):Aj:=match U[i]? with
  |some (Ab (_,o))=>o
  |_=>Af
theorem gK(he:PE X e (GP i)):SS X CL W (.Return (Ab e) pos) (λU=>O.of U (EE U i) λd=>.ret d (Ra U i)):=λFz B pI s Z H D I ⟨U,x,p⟩=>
 Qm he pI s Z H D I (by
  dsimp only at p;cases e:EE U i with
  |bad=>rw[e]at p;exact p.elim
  |exn z=>exact(Ua e).elim
  |ok d=>
   rw[e]at p;obtain⟨o,e⟩:=Uh e;have eo:Ra U i=o:=by unfold Ra;rw[e]
   rw[O.of_ok,eo]at p;cases o with
   |false=>
    obtain⟨v,q,r⟩:=x.good.sh i d e;exact⟨v,q,p v H x.same (Rep.sub (λa h=>.inl h) _ r) λz=>nomatch z⟩
   |true=>
    obtain⟨a,xs,ds,q,rfl,ha,hh,r⟩:=x.good.ow i d e;obtain⟨n1,n2⟩:=x.new i _ a e q;refine⟨_,q,p _ H x.same ⟨a,xs,rfl,.inl n2,SqL.of hh,Reps.sub (λa h=>.inl h) _ r⟩ λ_ ds' e'=>?_⟩
    cases e';exact⟨a,xs,rfl,n1,hh,Reps.sub (λb hb=>hb.elim .inl λz=>z ▸ ha) _ r⟩)
theorem L9{ds:Ac D}(h:C7 U i=.ok ds):U[i]?=Ab (Ab (.lst ds,Aa)):=by
 unfold C7 at h;split at h
 .rename_i e;cases h;exact e
 .cases h
theorem LY(h:C7 U i=.exn x):Bz:=by
 unfold C7 at h;split at h<;>cases h
variable{o:An}{i:Ag}{apos cpos:A7}
theorem pZ(ho:PE X o (GP i))(he:SE X CL W e fe)(hbase:F9 o "append" X.env (eval o X.env)=eval o X.env)(hfew:((C4 cpos (AF [e] X.env)).all (λx=>!x.1)&&(JX cpos (Iq [] X.env)).all (λx=>x.1.isSome)&&decide ([e].length+([]:Ac EH).length+(if ([]:Ac EH).isEmpty then 0 else 1)<30))=Aa)(hline:(apos.endLine==cpos.line)=Aa)(hs:AF [e] X.env=[(Af,eval e X.env)])(hsw:DJ (.Call (.Attribute o "append" apos) [e] [] cpos) Ae pos.line X.env=pure Af):
  SS X CL W (.Expr (.Call (.Attribute o "append" apos) [e] [] cpos) pos) (λU=>O.of U (C7 U i) λxs=>O.of U (fe U) λd=>if Di (xs.length+1)=Aa then .next (U.set i (Ab (.lst (xs++[d]),Aa))) else .bad):=λFz B pI s Z H D I ⟨U,x,p⟩=>by
 refine Nh (NP EB PySem.F.slot_list_append PySem.F.type_list_append aM ho (Fo (he (BG B U Z)) G0 hs) hbase hfew hline hs rfl) hsw pI s Z H D I ?_;dsimp only at p;cases e1:C7 U i with
 |bad=>rw[e1]at p;exact p.elim
 |exn z=>exact(LY e1).elim
 |ok ds=>
  rw[e1,O.of_ok]at p;have hi:=L9 e1;obtain⟨a,xs,ds',q,e2,ha,hh,r⟩:=x.good.ow i _ hi;cases e2;refine⟨_,q,.inl ⟨rfl,xs,SqL.of hh⟩,x.aok,U,x.good,CQ.ex x p λd v H' _ s rv x' q'=>?_⟩
  split at q'
  .rename_i hz;refine⟨a,xs,v,rfl,rfl,s _ _ hh,?_,q' _ _ (x'.upd hi q ((r.same s).append ⟨rv,trivial⟩))⟩;have:=IZ hz;rw[r.length];omega
  .exact q'.elim
theorem pY(ho:PE X o (GP i))(he:SC X CL W Aa e fe)(hbase:F9 o "extend" X.env (eval o X.env)=eval o X.env)(hfew:((C4 cpos (AF [e] X.env)).all (λx=>!x.1)&&(JX cpos (Iq [] X.env)).all (λx=>x.1.isSome)&&decide ([e].length+([]:Ac EH).length+(if ([]:Ac EH).isEmpty then 0 else 1)<30))=Aa)(hline:(apos.endLine==cpos.line)=Aa)(hs:AF [e] X.env=[(Af,eval e X.env)])(hsw:DJ (.Call (.Attribute o "extend" apos) [e] [] cpos) Ae pos.line X.env=pure Af):
  SS X CL W (.Expr (.Call (.Attribute o "extend" apos) [e] [] cpos) pos) (λU=>O.of U (C7 U i) λxs=>O.of U (fe U) λd=>O.of U (Li d) λys=>if Di (xs.length+ys.length)=Aa then .next (U.set i (Ab (.lst (xs++ys),Aa))) else .bad):=λFz B pI s Z H D I ⟨U,x,p⟩=>by
 refine Nh (NP EB EX XZ aL ho (Fo (he (BG B U Z)) G0 hs) hbase hfew hline hs rfl) hsw pI s Z H D I ?_;dsimp only at p;cases e1:C7 U i with
 |bad=>rw[e1]at p;exact p.elim
 |exn z=>exact(LY e1).elim
 |ok ds=>
  rw[e1,O.of_ok]at p;have hi:=L9 e1;obtain⟨a,xs,ds',q,e2,ha,hh,r⟩:=x.good.ow i _ hi;cases e2;refine⟨_,q,.inl ⟨rfl,xs,SqL.of hh⟩,x.aok,U,x.good,CQ.exC x p λd v H' _ s rv x' q'=>?_⟩
  cases d with
  |lst es=>
   obtain⟨b,ys,rfl,h0,h1,rs⟩:=rv.2 rfl es rfl;rw[SN,O.of_ok]at q';split at q'
   .rename_i hz;refine⟨a,b,xs,ys,rfl,rfl,s _ _ hh,h1,?_,q' _ _ (x'.upd hi q ((r.same s).append (Reps.sub (λc hc=>.inl hc) _ rs)))⟩
    rw[r.length,rs.length];exact IZ hz
   .exact q'.elim
  |_=>exact q'.elim
theorem pX{k:An}{fk:Rho->R Ov.D}{spos:A7}(ho:PE X o (GP i))(hk:ST X CL W k fk)(he:SE X CL W e fe)(ha:∀ v,assign (.Subscript o k spos) X.env v=(do
      let ov <-holding [v] (eval o X.env)
      let iv <-holding [v,ov] (eval k X.env)
      JU spos
      holding [v,ov,iv] (setItem ov iv v)
      release [v,ov,iv] []))(hs:Hj [.Subscript o k spos] e pos.line X.env=pure Af)(hw:Gb [.Subscript o k spos] e X.env=pure Ae)(h1:(Cz [.Subscript o k spos] X.env).map (·.2)=[assign (.Subscript o k spos) X.env]):
    SS X CL W (.Assign [.Subscript o k spos] e pos) (λU=>O.of U (fe U) λd=>O.of U (C7 U i) λxs=>O.of U ((fk U).bind EQ) λj=>match plD xs.length j with
      |some n=>.next (U.set i (Ab (.lst (xs.set n d),Aa)))
      | none=>.bad):=λFz B pI s Z H D I ⟨U,x,p⟩=>
  Vt (he (BG B U Z)) (sI ho (hk (BG B U Z)) dM ha) hs hw h1 pI s Z H D I ⟨x.aok,U,x.good,CQ.ex x p λd v H' _ s rv x' q'=>by
    cases e1:C7 U i with
    |bad=>rw[e1]at q';exact q'.elim
    |exn z=>exact(LY e1).elim
    |ok ds=>
      rw[e1,O.of_ok]at q';have hi:=L9 e1;obtain⟨a,xs,ds',q,e2,ha,hh,r⟩:=x'.good.ow i _ hi;cases e2;refine⟨_,q,x'.aok,U,x'.good,?_⟩;cases e3:fk U with
      |bad=>rw[e3]at q';exact q'.elim
      |exn z=>rw[e3]at q';exact λH2 s2=>q' H2 λb o z=>s2 _ _ (x'.same b o z)
      |ok dk=>
        rw[e3]at q';intro y H2 s2 ry;cases dk with
        |int j=>
          have ey:=ry.int_of;subst ey;rw[R.bind_ok,MR,O.of_ok]at q';cases e4:plD ds.length j with
          |none=>rw[e4]at q';exact q'.elim
          |some n=>
            rw[e4]at q';refine⟨a,xs,j,n,rfl,rfl,s2 _ _ hh,?_,q' _ _ ((x'.grow s2).upd hi q (Reps.set (rv.same s2) n (r.same s2)))⟩;rw[r.length];exact e4
        | _=>exact q'.elim⟩
theorem gQ{as:Ov.D->Rho->R Rho}{g:TG}(hGT:GT X.K CL as g)(hg:PG X tg g)(he:SE X CL W e fe)(hs:Hj [tg] e pos.line X.env=pure Af)(hw:Gb [tg] e X.env=pure Ae)(h1:(Cz [tg] X.env).map (·.2)=[assign tg X.env])(hax:∀ d U x,as d U≠.exn x):SS X CL W (.Assign [tg] e pos) (λU=>O.of U (fe U) λd=>O.of U (as d U) λU'=>.next U'):=λFz B pI s Z H D I ⟨U,x,p⟩=>
 Vt (he (BG B U Z)) hg hs hw h1 pI s Z H D I ⟨x.aok,U,x.good,CQ.ex x p λd v H' _ s rv x' q'=>by
  cases ea:as d U with
  |bad=>rw[ea]at q';exact q'.elim
  |exn z=>exact absurd ea (hax _ _ z)
  |ok U2=>
   rw[ea,O.of_ok]at q';exact hGT Fz B U Z H' v d U2 _ x' rv ea λZ' x3=>q' Z' H' x3⟩
theorem gI{rest:Ac Bx}{f:Rho->O}(i:Ag)(h:SSs X CL W rest f):SSs X CL W rest (λU=>(match U[i]? with
   |some (Ab (d,Aa))=>O.next (U.set i (Ab (d,Af)))
   | _=>O.next U).seq f):=λFz B=>PSs.weak (h Fz B) λD Z H ⟨U,x,p⟩=>by
 dsimp only at p;split at p
 .rename_i d e;exact⟨_,x.rel e,p⟩
 .exact⟨U,x,p⟩
end
section
variable{X:Cx}{CL:ClA}{W:XW}{pos:A7}{e k o:An}{fe fk:Rho->R D}{i:Ag}{apos cpos:A7}
theorem Bi.take(r:Bi xs its):∀ n,Bi (xs.take n) (its.take n):=by
 induction r with
 |nil=>intro n;simp;exact .nil
 |cons h _ ih=>
  intro n;cases n with
  |zero=>exact .nil
  |succ n=>exact .cons h (ih n)
theorem Bi.drop(r:Bi xs its):∀ n,Bi (xs.drop n) (its.drop n):=by
 induction r with
 |nil=>intro n;simp;exact .nil
 |cons h t ih=>
  intro n;cases n with
  |zero=>exact .cons h t
  |succ n=>exact ih n
end
section
variable{prog:AT}{w:AE}{A:Bc}{E:Vq}{s:As}
theorem uP{j t:Am}{its:AY Ai}{x:Ai}{Q:Vq}(st:s.heap.IsTupleIter j t k)(sq:s.heap.IsTuple t its)(at_:its[k]?=Ab x)(go:∀ h2,h2.IsTupleIter j t (k+1)->EY j s.heap h2->Q x {s with heap:=h2}):AB (model prog w) A (A2 (.ref j)) Q E s:=by
 obtain⟨oj,gj,cj,dj⟩:=id st;obtain⟨ot,gt,_,nt,dt⟩:=sq;show AB _ _ (callSpecial? _ _ >>= _) _ _ _;refine Ah (Ca st.typeIs D8 (CN D8 st.typeIs XQ ?_ (XI _)));show AB _ _ (field (.ref j) 0 >>= _) _ _ _;refine Ah (Bh gj dj (x:=.ref t) rfl ?_);show AB _ _ (field (.ref j) 1 >>= _) _ _ _;refine Ah (Bh gj dj (x:=.int k 0) rfl ?_);refine Ah (BW gt dt ?_);simp only[FT,at_];exact Ah (FQ gj dj (by simp) (Av ⟨x,rfl,Av (go _ ⟨_,B8 _ gj (E0 (Dv dj _)),(X3 ..).trans cj,by rw[Dv dj];simp[Co]⟩ (GX ..))⟩))
theorem aI{j t:Am}{its:AY Ai}{Q:Vq}(calm:A.handled=Ae)(st:s.heap.IsTupleIter j t k)(sq:s.heap.IsTuple t its)(at_:its[k]?=Ae)(up:∀ h2 e,Ip j s.heap h2->(∃ o,h2.get? e=Ab o/\o.cls=.type "StopIteration")->E (.ref e) {s with heap:=h2}):AB (model prog w) A (A2 (.ref j)) Q E s:=by
 obtain⟨oj,gj,cj,dj⟩:=id st;obtain⟨ot,gt,_,nt,dt⟩:=sq;show AB _ _ (callSpecial? _ _ >>= _) _ _ _;refine Ah (Ca st.typeIs D8 (CN D8 st.typeIs XQ ?_ (XI _)));show AB _ _ (field (.ref j) 0 >>= _) _ _ _;refine Ah (Bh gj dj (x:=.ref t) rfl ?_);show AB _ _ (field (.ref j) 1 >>= _) _ _ _;refine Ah (Bh gj dj (x:=.int k 0) rfl ?_);refine Ah (BW gt dt ?_);simp only[FT,at_];refine Ah (GJ (Ah (FQ gj dj (by simp) ?_)))
 refine Ah ?_;simp only[newExc,newTuple];refine Ah (CI ?_ (by size_fits))
 refine Ah (m:=Yw _ _) (wpAny_of_eq (a:=.none) (by first|rfl|(simp only[Yw];rfl)) (CI ?_ (by size_fits)))
 simp only[raiseNew];refine Ah (wpAny_handled ?_)
 first|rw[show A.in1.handled=Ae from calm]|rw[calm]
 exact Ah (Av (wpAny_throw (up _ _ (((GX ..).extBut.push _).push _) ⟨_,Aw _ rfl,rfl⟩)))
end
structure Dw (prog:AT) (w:AE) (A:Bc) (j:Am) (fp:Ac Am) (n:Ag) (P:Ag->Ai->Prop) (S:Ag->AJ->Prop):Prop where
 frame:∀ i h h2,S i h->(∀ c∈fp,∀ o,h.get? c=Ab o->h2.get? c=Ab o)->S i h2
 item:∀ i (s:As) (Q:Vq) (E:Vq),i<n->S i s.heap->(∀ x h2 tk,P i x->S (i+1) h2->EY j s.heap h2->Q x {s with heap:=h2,toks:=tk})->AB (model prog w) A (A2 (.ref j)) Q E s
 done:∀ i (s:As) (Q:Vq) (E:Vq),n<=i->S i s.heap->(∀ h2 e,Ip j s.heap h2->(∃ o,h2.get? e=Ab o/\o.cls=.type "StopIteration")->E (.ref e) {s with heap:=h2})->AB (model prog w) A (A2 (.ref j)) Q E s
def ES(t:Aj)(h:AJ)(j l:Am)(i:Ag):Prop:=match t with
  |true=>h.IsTupleIter j l i
  |false=>h.IsListIter j l i
def Cp(t:Aj)(h:AJ)(l:Am)(its:AY Ai):Prop:=match t with
  |true=>h.IsTuple l its
  |false=>h.IsList l its
theorem IA{A:Bc}(calm:A.handled=Ae)(t:Aj)(j l:Am)(ne:l≠j)(its:AY Ai):Dw prog w A j [j,l] its.size (λi v=>its[i]?=Ab v) (λi h=>ES t h j l i/\Cp t h l its):=by
 cases t with
 |true=>exact⟨λ_ _ _ z k=>⟨z.1.at λo e=>k j (by simp) o e,z.2.at λo e=>k l (by simp) o e⟩,λi s Q E hi z q=>uP z.1 z.2 (x:=its[i]) (by simp[hi]) λh2 z2 sb=>q _ h2 s.toks (by simp[hi]) ⟨z2,z.2.extBut sb.extBut ne⟩ sb,λi s Q E hi z q=>aI calm z.1 z.2 (by simp[hi]) q⟩
 |false=>exact⟨λ_ _ _ z k=>⟨z.1.at λo e=>k j (by simp) o e,z.2.at λo e=>k l (by simp) o e⟩,λi s Q E hi z q=>wpAny_nextOf_list_item z.1 z.2 (x:=its[i]) (by simp[hi]) λh2 z2 sb=>q _ h2 s.toks (by simp[hi]) ⟨z2,z.2.extBut sb.extBut ne⟩ sb,λi s Q E hi z q=>wpAny_nextOf_list_end calm z.1 z.2 (by simp[hi]) q⟩
theorem nb1{I l c:Ag}(b:l<I)(h:c∈[I,l])(j:Ag):c≠I+(j+1):=by
 have h':c=I\/c=l:=by simpa using h
 omega
theorem nb2{I l c:Ag}(b:l<I)(h:c∈[I+1,l]):c≠I/\c≠I+3/\c≠I+4:=by
 have h':c=I+1\/c=l:=by simpa using h
 omega
theorem nij{I i j:Ag}(h:i≠j):I+i≠I+j:=by omega
theorem ni0{I i:Ag}(h:i≠0):I+i≠I:=by omega
section
variable{prog:AT}{w:AE}{A:Bc}{E:Vq}{s:As}
theorem bS{I l1 l2 n1 n2 k:Ag}{a b:Ai}{Q:Vq}(b1:l1<I)(b2:l2<I)(D1:Dw prog w A I [I,l1] n1 P1 S1)(D2:Dw prog w A (I+1) [I+1,l2] n2 P2 S2)(hz:GE s.heap (I+4) (I+2) (I+3) .none)(hI:EZ s.heap (I+2) (.ref I) (.ref (I+1)))(hO:EZ s.heap (I+3) a b)(g1:S1 k s.heap)(g2:S2 k s.heap)(k1:k<n1)(k2:k<n2)(go:∀ x y h2 tk,P1 k x->P2 k y->GE h2 (I+4) (I+2) (I+3) (Co s.heap.objs.size)->EZ h2 (I+3) x y->S1 (k+1) h2->S2 (k+1) h2->EZ h2 s.heap.objs.size x y ->
   (∀ c o,c∉[I,I+1,I+3,I+4]->s.heap.get? c=Ab o->h2.get? c=Ab o)->Q (.ref s.heap.objs.size) {s with heap:=h2,toks:=tk}):AB (model prog w) A (Builtin.«zip.__next__» ⟨[.ref (I+4)],[]⟩) (λfin s'=>∃ v,fin=.done (.ret v)/\Q v s') E s:=by
 refine Ah (m:=field (.ref (I+4)) 2) (Bh hz rfl (x:=.bool Af) rfl ?_);refine Ah (m:=field (.ref (I+4)) 3) (Bh hz rfl (x:=.ref (I+2)) rfl (Ah (BW hI rfl ?_)));refine Ah (m:=A5 (.ref (I+4))) ?_;simp only[A5];refine Ah (Bh hz rfl (x:=.none) rfl (Av ?_));rw[AI rfl];refine Ah (GJ (Ah (Bh hz rfl (x:=.ref (I+3)) rfl (Ah (B7 hz (by simp) λp1 z1 e1=>Ah ?_)))))
 have z1':GE p1 (I+4) (I+2) (I+3) .ellipsis:=z1;simp only[Gd,GB,D4,DS];refine Ah (Ah (DK (Ah (m:=A2 (.ref I)) (D1.item k _ _ _ k1 (D1.frame _ _ _ g1 λc hc o q=>e1.extBut c o (nb1 b1 hc 3) q) λx p2 t2 px s2 e2=>Av ?_))))
 have o2:EZ p2 (I+3) a b:=e2.extBut _ _ (ni0 (by decide)) (e1.extBut _ _ (nij (by decide)) hO)
 refine Ah (BW o2 rfl (Ah (GK o2 λp3 o3 e3=>Ah (Fm (Av ?_)))))
 have o3':EZ p3 (I+3) x b:=o3;have g2':S2 k p3:=D2.frame _ _ _ g2 λc hc o q=>e3.extBut c o (nb2 b2 hc).2.1 (e2.extBut c o (nb2 b2 hc).1 (e1.extBut c o (nb2 b2 hc).2.2 q))
 refine Ah (Ah (DK (Ah (m:=A2 (.ref (I+1))) (D2.item k _ _ _ k2 g2' λy p4 t4 py s4 e4=>Av ?_))))
 have o4:EZ p4 (I+3) x b:=e4.extBut _ _ (nij (by decide)) o3'
 refine Ah (BW o4 rfl (Ah (GK o4 λp5 o5 e5=>Ah (Fm (Av (Av ?_))))))
 have o5':EZ p5 (I+3) x y:=o5;have sz:p5.objs.size=s.heap.objs.size:=by rw[e5.1,e4.1,e3.1,e2.1,e1.1]
 have z5:GE p5 (I+4) (I+2) (I+3) .ellipsis:=e5.extBut _ _ (nij (by decide)) (e4.extBut _ _ (nij (by decide)) (e3.extBut _ _ (nij (by decide)) (e2.extBut _ _ (ni0 (by decide)) z1')))
 refine Ah (BW o5' rfl (Ah (IQ ?_)));refine Ah (m:=Db (.ref (I+4)) (.ref p5.objs.size)) ?_;simp only[Db];have z6:GE (p5.push { cls:=.type "tuple",data:=.seq #[x,y] }) (I+4) (I+2) (I+3) .ellipsis:=Ar _ z5;refine Ah (B7 z6 (by simp) λp7 z7 e7=>?_)
 have z7':GE p7 (I+4) (I+2) (I+3) (Co p5.objs.size):=z7;refine B7 z7' (by simp) λp8 z8 e8=>Av ⟨_,rfl,?_⟩
 have z8':GE p8 (I+4) (I+2) (I+3) (Co p5.objs.size):=z8;have lt5:I+4<p5.objs.size:=Ax z5;have up:∀ c o,c≠I+4->p5.get? c=Ab o->p8.get? c=Ab o:=λc o nc q=>e8.extBut _ _ nc (e7.extBut _ _ nc (Ar _ q))
 have t8:EZ p8 p5.objs.size x y:=e8.extBut _ _ (CJ lt5) (e7.extBut _ _ (CJ lt5) (Aw _ rfl));have a1:S1 (k+1) p8:=D1.frame _ _ _ s2 λc hc o q=>up c o (nb1 b1 hc 3) (e5.extBut c o (nb1 b1 hc 2) (e4.extBut c o (nb1 b1 hc 0) (e3.extBut c o (nb1 b1 hc 2) q)))
 have a2:S2 (k+1) p8:=D2.frame _ _ _ s4 λc hc o q=>up c o (nb2 b2 hc).2.2 (e5.extBut c o (nb2 b2 hc).2.1 q)
 have kp:∀ c o,c∉[I,I+1,I+3,I+4]->s.heap.get? c=Ab o->p8.get? c=Ab o:=λc o nc q=>by
  simp only[At,AR,BO,DR]at nc;exact up c o nc.2.2.2 (e5.extBut c o nc.2.2.1 (e4.extBut c o nc.2.1 (e3.extBut c o nc.2.2.1 (e2.extBut c o nc.1 (e1.extBut c o nc.2.2.2 q)))))
 have q:=go x y p8 t4 px py (by rw[<-sz];exact z8') (up _ _ (nij (by decide)) o5') a1 a2 (by rw[<-sz];exact t8) kp
 rw[<-sz]at q;exact q
theorem hG{I l1 l2 n1 n2 k:Ag}{a b:Ai}{Q:Fin->As->Prop}(b1:l1<I)(b2:l2<I)(D1:Dw prog w A I [I,l1] n1 P1 S1)(D2:Dw prog w A (I+1) [I+1,l2] n2 P2 S2)(hz:GE s.heap (I+4) (I+2) (I+3) .none)(hI:EZ s.heap (I+2) (.ref I) (.ref (I+1)))(hO:EZ s.heap (I+3) a b)(g1:S1 k s.heap)(g2:S2 k s.heap)(hk:n1<=k\/(k<n1/\n2<=k))(up:∀ h2 e tk,(∀ c o,c∉[I,I+1,I+3,I+4]->s.heap.get? c=Ab o->h2.get? c=Ab o)->(∃ o,h2.get? e=Ab o/\o.cls=.type "StopIteration")->E (.ref e) {s with heap:=h2,toks:=tk}):AB (model prog w) A (Builtin.«zip.__next__» ⟨[.ref (I+4)],[]⟩) Q E s:=by
 refine Ah (m:=field (.ref (I+4)) 2) (Bh hz rfl (x:=.bool Af) rfl ?_);refine Ah (m:=field (.ref (I+4)) 3) (Bh hz rfl (x:=.ref (I+2)) rfl (Ah (BW hI rfl ?_)));refine Ah (m:=A5 (.ref (I+4))) ?_;simp only[A5];refine Ah (Bh hz rfl (x:=.none) rfl (Av ?_));rw[AI rfl];refine Ah (GJ (Ah (Bh hz rfl (x:=.ref (I+3)) rfl (Ah (B7 hz (by simp) λp1 z1 e1=>Ah ?_)))))
 have z1':GE p1 (I+4) (I+2) (I+3) .ellipsis:=z1;simp only[Gd,GB,D4,DS];have g1':S1 k p1:=D1.frame _ _ _ g1 λc hc o q=>e1.extBut c o (nb1 b1 hc 3) q
 rcases hk with k1|⟨k1,k2⟩
 .refine Ah (Ah (DK (Ah (m:=A2 (.ref I)) (D1.done _ _ _ _ k1 g1' λp2 e e2 he=>?_))))
  obtain⟨oe,hoe,hce⟩:=he;have z2:GE p2 (I+4) (I+2) (I+3) .ellipsis:=e2 _ _ (ni0 (by decide)) z1'
  have ne:e≠I+4:=λx=>by subst x;rw[z2]at hoe;cases hoe;simp at hce
  refine B7 z2 (by simp) λp3 _ e3=>up p3 e s.toks (λc o nc q=>?_) ⟨oe,e3.extBut _ _ ne hoe,hce⟩
  simp only[At,AR,BO,DR]at nc;exact e3.extBut c o nc.2.2.2 (e2 c o nc.1 (e1.extBut c o nc.2.2.2 q))
 .refine Ah (Ah (DK (Ah (m:=A2 (.ref I)) (D1.item k _ _ _ k1 g1' λx p2 t2 px s2 e2=>Av ?_))))
  have o2:EZ p2 (I+3) a b:=e2.extBut _ _ (ni0 (by decide)) (e1.extBut _ _ (nij (by decide)) hO)
  refine Ah (BW o2 rfl (Ah (GK o2 λp3 o3 e3=>Ah (Fm (Av ?_)))))
  have g2':S2 k p3:=D2.frame _ _ _ g2 λc hc o q=>e3.extBut c o (nb2 b2 hc).2.1 (e2.extBut c o (nb2 b2 hc).1 (e1.extBut c o (nb2 b2 hc).2.2 q))
  refine Ah (Ah (DK (Ah (m:=A2 (.ref (I+1))) (D2.done _ _ _ _ k2 g2' λp4 e e4 he=>?_))))
  obtain⟨oe,hoe,hce⟩:=he;have z4:GE p4 (I+4) (I+2) (I+3) .ellipsis:=e4 _ _ (nij (by decide)) (e3.extBut _ _ (nij (by decide)) (e2.extBut _ _ (ni0 (by decide)) z1'))
  have ne:e≠I+4:=λx=>by subst x;rw[z4]at hoe;cases hoe;simp at hce
  refine B7 z4 (by simp) λp5 _ e5=>up p5 e t2 (λc o nc q=>?_) ⟨oe,e5.extBut _ _ ne hoe,hce⟩
  simp only[At,AR,BO,DR]at nc;exact e5.extBut c o nc.2.2.2 (e4 c o nc.2.1 (e3.extBut c o nc.2.2.1 (e2.extBut c o nc.1 (e1.extBut c o nc.2.2.2 q))))
end
def SqX(t:Aj)(K:Fg)(H:Hp)(a:Am)(xs:Ac V):Prop:=match t with
  |true=>SqT K H a xs
  |false=>SqL K H a xs
theorem Hn(I:Inv X pI Z H s)(h:SqX t X.K H a xs):∃ its:Ac Ai,Bi xs its/\Cp t s.heap a its.toArray/\xs.length<=sizeLine:=by
 cases t with
 |true=>
  obtain⟨its,rv,p,z⟩:=I.tuple h;exact⟨its,rv,p,z⟩
 |false=>
  obtain⟨its,rv,p,z⟩:=I.list h;exact⟨its,rv,p.isList,z⟩
theorem OP{ys:Ac V}(I:Inv X pI Z H s)(h:SqX t X.K H a xs)(h2:SqX t X.K H a ys):xs=ys:=by
 cases t with
 |true=>exact I.tuple_inj h h2
 |false=>exact I.list_inj h h2
noncomputable def Itz(K:Fg)(t1 t2:Aj)(a b:Am):It:=
  ⟨λi H=>∃ xs ys x y,SqX t1 K H a xs/\SqX t2 K H b ys/\xs[i]?=Ab x/\ys[i]?=Ab y,
   λi H v H'=>∃ p x y,H p=Ae/\v=.ref p/\(∀ xs,SqX t1 K H a xs->xs[i]?=Ab x)/\(∀ ys,SqX t2 K H b ys->ys[i]?=Ab y)/\H'=upd H p (.tup [x,y]),
   λi H=>∃ xs ys,SqX t1 K H a xs/\SqX t2 K H b ys/\(xs.length<=i\/(i<xs.length/\ys.length<=i))⟩
theorem Inv.turnedL(ch:Ac Am)(I:Inv X pI Z H s)(k:∀ b o,b∉ch->s.heap.get? b=Ab o->h'.get? b=Ab o)(hf:∀ b∈ch,G6 X pI H b):Inv X pI Z H {s with heap:=h',toks:=t'}:=by
 have nit:∀ b u,H b=Ab u->b∉ch:=λb u e z=>by rw[(hf b z).1]at e;cases e
 refine I.step (g':=s.gens) (d':=s.drawn) (ch:=ch) (λb hb=>⟨(hf b hb).2.2.2.1,(hf b hb).2.1,(hf b hb).2.2.2.2.1,(hf b hb).2.2.2.2.2⟩) (λb o _ _ hc e _=>k b o hc e) (λb o _ _ hc e _=>⟨o.slots,k b o hc e⟩) (λ_ _ _ _ n=>n)
  (λb o hc e=>⟨o,k b o hc e⟩) (λ_ _ e=>e) (λ_ _ _ e=>e) (λb ps e=>⟨#[],by rw[e];simp⟩) (λm ⟨o,es,ep,ho,r⟩=>⟨o,es,ep,k _ o (λz=>(hf _ z).2.1 rfl) ho,r⟩) (λb u e=>(I.hok b u e).stay (λc v hc q=>k c v ?_ q) (λ_ q=>q) λ_ _ q=>q) I.bare
 rcases hc with z|z
 .rw[z];exact nit b u e
 .exact nit c _ z
def zTn(t1 t2:Aj)(I l1 l2:Ag)(i:Ag)(h:AJ):Prop:=GE h (I+4) (I+2) (I+3) .none/\EZ h (I+2) (.ref I) (.ref (I+1))/\(∃ a b,EZ h (I+3) a b)/\ES t1 h I l1 i/\ES t2 h (I+1) l2 i
noncomputable def zFp(I:Ag):Ac Am:=[I,I+1,I+2,I+3,I+4]
theorem ES.obj{j:Am}(z:ES t h j l i):∃ o,h.get? j=Ab o/\∀ v,o.data≠.cell v:=by
 cases t with
 |true=>obtain⟨o,e,c,d⟩:=z;exact⟨o,e,λv z=>by rw[d]at z;cases z⟩
 |false=>obtain⟨o,e,c,d⟩:=z;exact⟨o,e,λv z=>by rw[d]at z;cases z⟩
theorem ES.at'{j:Am}(z:ES t h j l i)(k:∀ o,h.get? j=Ab o->h2.get? j=Ab o):ES t h2 j l i:=by
 cases t with
 |true=>exact PySem.Heap.IsTupleIter.at z k
 |false=>exact PySem.Heap.IsListIter.at z k
theorem bJ(t1 t2:Aj)(I l1 l2:Ag)(b1:l1<I)(b2:l2<I):Turn P w K (.Tuple es n pos) (Itz K t1 t2 l1 l2) (zFp I) (I+4) (zTn t1 t2 I l1 l2) where
  mem:=by simp[zFp]
  obj:=λi h ⟨z1,z2,⟨a,b,z3⟩,z4,z5⟩ c hc=>by
    simp only[zFp,At,AR,BO]at hc;rcases hc with rfl|rfl|rfl|rfl|rfl
    · exact z4.obj
    · exact z5.obj
    · exact⟨_,z2,λv z=>by cases z⟩
    · exact⟨_,z3,λv z=>by cases z⟩
    · exact⟨_,z1,λv z=>by cases z⟩
  keep:=λi h h2 ⟨z1,z2,⟨a,b,z3⟩,z4,z5⟩ k=>⟨k _ (by simp[zFp]) _ z1,k _ (by simp[zFp]) _ z2,⟨a,b,k _ (by simp[zFp]) _ z3⟩,z4.at' λo e=>k _ (by simp[zFp]) o e,z5.at' λo e=>k _ (by simp[zFp]) o e⟩
  item:=by
    intro X hP hw hK hc i pI s Z H E Iv hf ⟨z1,z2,⟨a,b,z3⟩,z4,z5⟩ ⟨xs,ys,x,y,q1,q2,hx,hy⟩;subst hP hw hK;obtain⟨us,rx,sx,_⟩:=Hn Iv q1;obtain⟨vs,ry,sy,_⟩:=Hn Iv q2;obtain⟨u,hu,ru⟩:=rx.get hx;obtain⟨v,hv,rv⟩:=ry.get hy;have hT:s.TypeIs (.ref (I+4)) "zip" := ⟨_,z1,rfl⟩;have calm:X.A.in1.handled=Ae:=Iv.ok.hd hc;show AB _ _ (Ed _) _ _ _;simp only[Ed];refine Ah (Fj (Ca hT Cy (CN Cy hT Et (bS (k:=i) b1 b2 (IA calm t1 I l1 (A1 b1) us.toArray) (IA calm t2 (I+1) l2 (A1 (DI b2)) vs.toArray) z1 z2 z3 ⟨z4,sx⟩ ⟨z5,sy⟩
      (by have:=(AX.mp hu).1;simpa using this) (by have:=(AX.mp hv).1;simpa using this) λx' y' h2 tk px py c1 c2 c3 c4 c5 kp=>Av ?_) (Ec _))))
    have ex:x'=u:=by
      have px':us[i]?=Ab x':=by simpa using px
      rw[hu]at px';exact(BV px').symm
    have ey:y'=v:=by
      have py':vs[i]?=Ab y':=by simpa using py
      rw[hv]at py';exact(BV py').symm
    subst ex ey;refine⟨_,rfl,wpAny_letOwnedTupleGo_zip c1 λh3 d1 sb=>?_⟩
    have lt4:I+4<s.heap.objs.size:=Ax z1;have kp3:∀ c o,c∉zFp I->s.heap.get? c=Ab o->h3.get? c=Ab o:=λc o nc q=>by
      simp only[zFp,At,AR,BO,DR]at nc;exact sb.extBut c o nc.2.2.2.2 (kp c o (by simp only[At,AR,BO,DR];exact⟨nc.1,nc.2.1,nc.2.2.2.1,nc.2.2.2.2⟩) q)
    have nT:∀ c∈zFp I,c≠s.heap.objs.size:=λc hc z=>by
      have:c<=I+4:=by
        simp only[zFp,At,AR,BO]at hc;rcases hc with z|z|z|z|z<;>rw[z]<;>simp
      exact absurd (z ▸ DU this lt4) (Bu _)
    have I1:Inv X pI Z (upd H s.heap.objs.size (.tup [x,y])) { s with heap:=s.heap.push { cls:=.type "tuple",data:=.seq #[x',y'] },toks:=s.toks }:=
      Iv.laid (λ_ _ q=>Ar _ q) (A6 _) ⟨(by decide:2<=sizeLine),[x',y'],.cons ru (.cons rv .nil),⟨_,Aw _ rfl,rfl,_,rfl⟩⟩
    have hf':∀ b∈zFp I,G6 X pI (upd H s.heap.objs.size (.tup [x,y])) b:=λb hb=>⟨by rw[Dl (nT b hb)];exact(hf b hb).1,(hf b hb).2⟩
    have I2:Inv X pI Z (upd H s.heap.objs.size (.tup [x,y])) {s with heap:=h3,toks:=tk}:=Inv.turnedL (s:={ s with heap:=s.heap.push { cls:=.type "tuple",data:=.seq #[x',y'] },toks:=s.toks }) (zFp I) I1 (λc o nc q=>by
      rcases X2 q with ⟨e1,e2⟩|e1
      · subst e1 e2;exact sb.extBut _ _ (CJ lt4) c5
      · exact kp3 c o nc e1) hf'
    refine⟨.ref s.heap.objs.size,_,I2,rfl,⟨s.heap.objs.size,x,y,Iv.fresh,rfl,λzs hz=>by rw[OP Iv hz q1];exact hx,λzs hz=>by rw[OP Iv hz q2];exact hy,rfl⟩,⟨d1,sb.extBut _ _ (nij (by decide)) (kp _ _ (by simp) z2),⟨_,_,sb.extBut _ _ (nij (by decide)) c2⟩,c3.1.at' λo q=>sb.extBut _ o (BA (ni0 (by decide))) q,c4.1.at' λo q=>sb.extBut _ o (nij (by decide)) q⟩,λb hb=>(hf' b hb).1⟩
  done:=by
    intro X hP hw hK hc i pI s Z H E Iv hf ⟨z1,z2,⟨a,b,z3⟩,z4,z5⟩ ⟨xs,ys,q1,q2,hk⟩;subst hP hw hK;obtain⟨us,rx,sx,_⟩:=Hn Iv q1;obtain⟨vs,ry,sy,_⟩:=Hn Iv q2;have hT:s.TypeIs (.ref (I+4)) "zip" := ⟨_,z1,rfl⟩;have calm:X.A.in1.handled=Ae:=Iv.ok.hd hc;have e1:=rx.length;have e2:=ry.length;simp only[Ed];refine Ah (Fj (Ca hT Cy (CN Cy hT Et (hG (k:=i) b1 b2 (IA calm t1 I l1 (A1 b1) us.toArray) (IA calm t2 (I+1) l2 (A1 (DI b2)) vs.toArray) z1 z2 z3 ⟨z4,sx⟩ ⟨z5,sy⟩
      (by simp only[AC];omega) λh2 e tk kp he=>?_) (Ec _))))
    obtain⟨o,ho,hcl⟩:=he;refine Ah (HN (T := "StopIteration") (b:=Aa) ⟨o,ho,hcl⟩ Yx (Av ⟨rfl,Inv.turnedL [I,I+1,I+3,I+4] Iv (λc o nc q=>kp c o nc q) λc hc=>hf c ?_⟩))
    simp only[At,AR,BO]at hc;simp only[zFp,At,AR,BO];rcases hc with rfl|rfl|rfl|rfl<;>simp
  self:=λ_ _ _ _ _ st h=>YF st.1 h
section
variable{prog:AT}{w:AE}{A:Bc}{E:Vq}{s:As}
noncomputable def itO(t:Aj)(l:Am):Dg:=match t with
  |true=>{ cls:=.type "tuple_iterator",data:=.fields #[.ref l,.int 0 0] }
  |false=>{ cls:=.type "list_iterator",data:=.fields #[.ref l,.int 0 0] }
theorem JL{its:AY Ai}{Q:Vq}(h:Cp t s.heap l its)(q:Q (.ref s.heap.objs.size) {s with heap:=s.heap.push (itO t l)}):AB (model prog w) A (Kz (.ref l)) Q E s:=by
 cases t with
 |true=>exact FD h q
 |false=>exact Ee h q
theorem Cp.push{its:AY Ai}(z:Cp t h l its)(o:Dg):Cp t (h.push o) l its:=by
 cases t with
 |true=>exact PySem.Heap.IsTuple.at z λ_ e=>Ar _ e
 |false=>exact PySem.Heap.IsList.at z λ_ e=>Ar _ e
theorem K5{j:Am}(e:h.get? j=Ab (itO t l)):ES t h j l 0:=by
 cases t with
 |true=>exact⟨_,e,rfl,rfl⟩
 |false=>exact⟨_,e,rfl,rfl⟩
theorem KM(t:Aj)(l:Am):(itO t l).isFreed=Af:=by cases t<;>rfl
noncomputable abbrev zh2(t1 t2:Aj)(h:AJ)(l1 l2:Am):AJ:=(h.push (itO t1 l1)).push (itO t2 l2)
noncomputable abbrev zh3(t1 t2:Aj)(h:AJ)(l1 l2:Am):AJ:=(zh2 t1 t2 h l1 l2).push { cls:=.type "tuple",data:=.seq #[.ref h.objs.size,.ref (h.push (itO t1 l1)).objs.size] }
noncomputable abbrev zh4(t1 t2:Aj)(h:AJ)(l1 l2:Am):AJ:=(zh3 t1 t2 h l1 l2).push { cls:=.type "tuple",data:=.seq #[.none,.none] }
noncomputable abbrev zh5(t1 t2:Aj)(h:AJ)(l1 l2:Am):AJ:=(zh4 t1 t2 h l1 l2).push { cls:=.type "zip",data:=.fields #[.none,.bool Af,.bool Af,.ref (zh2 t1 t2 h l1 l2).objs.size,.ref (zh3 t1 t2 h l1 l2).objs.size] }
theorem gZ(t1 t2:Aj)(l1 l2:Am)(xs ys:AY Ai):Meets (Builtin.«zip.__new__» ⟨[.type "zip",.ref l1,.ref l2],[]⟩) (λ_ R s=>Cp t1 s.heap l1 xs/\Cp t2 s.heap l2 ys/\R (.ok (.ret (.ref (zh4 t1 t2 s.heap l1 l2).objs.size))) {s with heap:=zh5 t1 t2 s.heap l1 l2}):=
 .of_wp λprog w A R s h=>by
  obtain⟨hp,g,d,tk,os⟩:=s;obtain⟨a1,a2,q⟩:=h;have hsub:=sub_zip;have L1:Cp t1 (F5 ⟨hp,g,d,tk,os⟩) l1 xs:=a1;have L2:Cp t2 (F5 ⟨hp.push (itO t1 l1),g,d,tk,os⟩) l2 ys:=a2.push _
  wp_walk using JL L1,JL L2
  exact⟨_,rfl,q⟩
theorem bT{t1 t2:Aj}{l1 l2:Am}{xs:AY Ai}{Q:Vq}(a1:Cp t1 s.heap l1 xs)(a2:Cp t2 s.heap l2 ys)(q:∀ h2,zTn t1 t2 s.heap.objs.size l1 l2 0 h2->(∀ c o,s.heap.get? c=Ab o->h2.get? c=Ab o)->Q (.ref (s.heap.objs.size+4)) {s with heap:=h2}):AB (model prog w) A (call (.type "zip") [.ref l1,.ref l2]) Q E s:=by
 refine Jw XJ (by decide) (F.typeCall_zip_2 _ _) (F.newCall_zip_2 _ _) (λobj=>F.args_object_init_3 obj _ _) XS (gZ t1 t2 l1 l2 xs ys) ⟨a1,a2,?_⟩
 have s1:(s.heap.push (itO t1 l1)).objs.size=s.heap.objs.size+1:=Bm ..;have s2:(zh2 t1 t2 s.heap l1 l2).objs.size=s.heap.objs.size+2:=by rw[Bm,s1]
 have s3:(zh3 t1 t2 s.heap l1 l2).objs.size=s.heap.objs.size+3:=by rw[Bm,s2]
 have s4:(zh4 t1 t2 s.heap l1 l2).objs.size=s.heap.objs.size+4:=by rw[Bm,s3]
 have u5:∀ {c o},(zh4 t1 t2 s.heap l1 l2).get? c=Ab o->(zh5 t1 t2 s.heap l1 l2).get? c=Ab o:=λe=>Ar _ e
 have u4:∀ {c o},(zh3 t1 t2 s.heap l1 l2).get? c=Ab o->(zh5 t1 t2 s.heap l1 l2).get? c=Ab o:=λe=>u5 (Ar _ e)
 have u3:∀ {c o},(zh2 t1 t2 s.heap l1 l2).get? c=Ab o->(zh5 t1 t2 s.heap l1 l2).get? c=Ab o:=λe=>u4 (Ar _ e)
 have u2:∀ {c o},(s.heap.push (itO t1 l1)).get? c=Ab o->(zh5 t1 t2 s.heap l1 l2).get? c=Ab o:=λe=>u3 (Ar _ e)
 have g5:(zh5 t1 t2 s.heap l1 l2).get? (zh4 t1 t2 s.heap l1 l2).objs.size=Ab _:=Aw _ rfl;have g4:(zh5 t1 t2 s.heap l1 l2).get? (zh3 t1 t2 s.heap l1 l2).objs.size=Ab _:=u5 (Aw _ rfl);have g3:(zh5 t1 t2 s.heap l1 l2).get? (zh2 t1 t2 s.heap l1 l2).objs.size=Ab _:=u4 (Aw _ rfl);have g2:(zh5 t1 t2 s.heap l1 l2).get? (s.heap.push (itO t1 l1)).objs.size=Ab _:=u3 (Aw _ (KM _ _));have g1:(zh5 t1 t2 s.heap l1 l2).get? s.heap.objs.size=Ab _:=u2 (Aw _ (KM _ _));show _/\_;rw[s2,s3,s4]at g5;rw[s3]at g4;rw[s1,s2]at g3;rw[s1]at g2;rw[s4];exact⟨⟨_,g5,rfl⟩,q _ ⟨g5,g3,⟨_,_,g4⟩,K5 g1,K5 g2⟩ λc o e=>u2 (Ar _ e)⟩
end
def Y_1(K:Fg)(ta:TA):TI:=λZ H R=>ta Z H λvs H1=>∃ t1 t2 a b xs ys,vs=[.ref a,.ref b]/\SqX t1 K H1 a xs/\SqX t2 K H1 b ys/\(xs.length<=sizeLine->R (Itz K t1 t2 a b) H1)
theorem Cp.lt{its:AY Ai}(z:Cp t h a its):a<h.objs.size:=by
 cases t with
 |true=>obtain⟨o,e,_⟩:=z;exact Ax e
 |false=>obtain⟨o,e,_⟩:=z;exact Ax e
theorem sG{a b:An}(hg:Gl X "zip")(hm:X.mg "zip" = Ae)(ha:PA X [a,b] ta)(hs:AF [a,b] X.env=[(Af,eval a X.env),(Af,eval b X.env)])(hs2:AF [b] X.env=[(Af,eval b X.env)]):
  PI X (.Tuple es n tpos) (.Call (.Name "zip" p) [a,b] [] pos) (Y_1 X.K ta):=by
 intro pI s Z H R I h;refine IR (HW I hg hm W1 (BR (thn (ha pos pI s Z H _ I h) λus s1 ⟨vs,H1,I1,r1,q1⟩=>?_) (by rw[hs,hs2]) (by rw[hs2];rfl)))
 obtain⟨t1,t2,c,d,xs,ys,e,sx,sy,q⟩:=q1;subst e;cases r1 with
 |cons r rr=>
  cases rr with
  |cons r' rr=>
   cases rr;cases r;cases r';obtain⟨us,ru,iu,zu⟩:=Hn I1 sx;obtain⟨vs,rv,iv,_⟩:=Hn I1 sy;refine bT iu iv λh2 z kp=>YF z.1 ?_
   refine⟨s1.heap.objs.size+4,zFp s1.heap.objs.size,_,_,H1,rfl,I1.kept (t':=s1.toks) kp,bJ t1 t2 s1.heap.objs.size c d iu.lt iv.lt,z,λb hb=>?_,q zu⟩
   have hb':s1.heap.objs.size<=b:=by
    simp only[zFp,At,AR,BO]at hb;rcases hb with z|z|z|z|z<;>rw[z]<;>simp
   exact I1.fpOk hb' (I1.hok.fresh hb')
theorem Ll{ds:Ac D}(r:Rep K CL H A v d)(e:CC d=.ok ds):∃ t a xs,v=.ref a/\(∀ H2,Kp A H H2->SqX t K H2 a xs)/\Reps K CL H A xs ds:=by
 cases d with
 |lst es=>
  cases e;obtain⟨q,xs,rfl,na,sq,r⟩:=r;exact⟨Af,q,xs,rfl,λH2 k=>Nr k na sq,r⟩
 |tup es=>
  cases e;obtain⟨q,xs,rfl,na,sq,r⟩:=r;exact⟨Aa,q,xs,rfl,λH2 k=>Nq k na sq,r⟩
 |_=>cases e
theorem Px:∀(xs ys:Ac D),(E5 xs ys).length=min xs.length ys.length
 |[],_=>by simp[E5]
 |_::_,[]=>by simp[E5]
 |x::xs,y::ys=>by
  rw[E5,BU,Px xs ys];simp only[BU];omega
theorem T8:∀(xs ys:Ac D)(i:Ag)(d:D),(E5 xs ys)[i]?=Ab d->∃ x y,xs[i]?=Ab x/\ys[i]?=Ab y/\d=.tup [x,y]
 |[],_,i,d,h=>by simp[E5]at h
 |_::_,[],i,d,h=>by simp[E5]at h
 |x::xs,y::ys,0,d,h=>by
  rw[E5]at h;simp only[EA,Cc]at h;exact⟨x,y,rfl,rfl,h.symm⟩
 |x::xs,y::ys,i+1,d,h=>by
  rw[E5]at h;simp only[Ez]at h ⊢;exact T8 xs ys i d h
theorem bE{t1 t2:Aj}{ys:Ac V}{ds es:Ac D}(s1:∀ H2,Kp A H1 H2->SqX t1 K H2 a xs)(s2:∀ H2,Kp A H1 H2->SqX t2 K H2 b ys)(r1:Reps K CL H1 A xs ds)(r2:Reps K CL H1 A ys es):II K CL A (E5 ds es) (Itz K t1 t2 a b) H1:=λH k i=>by
 refine⟨λhi=>⟨xs,ys,s1 H k,s2 H k,?_⟩,λd hd=>?_⟩
 .rw[Px]at hi;rw[r1.length,r2.length];omega
 .obtain⟨x,y,hx,hy,rfl⟩:=T8 _ _ _ _ hd;obtain⟨u,hu,ru⟩:=r1.get hx;obtain⟨v,hv,rv⟩:=r2.get hy;refine⟨⟨xs,ys,u,v,s1 H k,s2 H k,hu,hv⟩,?_⟩;rintro w' H' ⟨p,x',y',hp,rfl,c1,c2,rfl⟩;have ex:x'=u:=BV ((c1 xs (s1 H k)).symm.trans hu);have ey:y'=v:=BV ((c2 ys (s2 H k)).symm.trans hv);subst ex ey;have sm:=FE hp (.tup [x',y']);exact⟨sm,λB hB aB=>KZ aB hp ⟨LV ru k hB,LV rv k hB,trivial⟩⟩
section
variable{X:Cx}{CL:ClA}{W:XW}{pos p:A7}{a b:An}{fa fb:Rho->R D}
theorem qE(ha:SE X CL W a fa)(hb:SE X CL W b fb)(hg:Gl X "zip")(hm:X.mg "zip" = Ae)(hs:AF [a,b] X.env=[(Af,eval a X.env),(Af,eval b X.env)])(hs2:AF [b] X.env=[(Af,eval b X.env)]):
  SI X CL W (.Tuple es n tpos) (.Call (.Name "zip" p) [a,b] [] pos) (λU=>(fa U).bind λx=>(fb U).bind λy=>(CC x).bind λxs=>(CC y).bind λys=>.ok (E5 xs ys)):=
 λA=>PI.weak (sG hg hm (Fo (ha A) (Fo (hb A) G0 hs2) (by rw[hs,hs2])) hs hs2) λZ H R ⟨hA,U,g,q⟩=>⟨hA,U,g,E4.ex q λd v H1 _ s1 r1 p1=>⟨hA.same s1,U,g.same s1,E4.ex p1 λd2 v2 H2 _ s2 r2 p2=>by
  cases e1:CC d with
  |bad=>rw[e1]at p2;exact p2.elim
  |exn z=>exact absurd e1 (by cases d<;>simp[CC])
  |ok ds=>
   cases e2:CC d2 with
   |bad=>rw[e1,e2]at p2;exact p2.elim
   |exn z=>exact absurd e2 (by cases d2<;>simp[CC])
   |ok es=>
    rw[e1,e2]at p2;obtain⟨t1,c1,xs,rfl,k1,rs1⟩:=Ll (r1.same s2) e1;obtain⟨t2,c2,ys,rfl,k2,rs2⟩:=Ll r2 e2;refine⟨t1,t2,c1,c2,xs,ys,rfl,k1 H2 (Kp.of (AM.refl H2)),k2 H2 (Kp.of (AM.refl H2)),λhz=>p2 _ H2 (AM.refl H2) (bE k1 k2 rs1 rs2) ?_⟩
    rw[Px,<-rs1.length];omega⟩⟩
end
theorem ES.live{l:Ag}(z:ES t h j l i):∃ o,h.get? j=Ab o/\∀ v,o.data≠.cell v:=by
 cases t with
 |true=>obtain⟨o,e,c,d⟩:=z;exact⟨o,e,λv z=>by rw[d]at z;cases z⟩
 |false=>obtain⟨o,e,c,d⟩:=z;exact⟨o,e,λv z=>by rw[d]at z;cases z⟩
theorem ES.keep{l:Ag}(z:ES t h j l i)(k:∀ o,h.get? j=Ab o->h2.get? j=Ab o):ES t h2 j l i:=by
 cases t with
 |true=>exact PySem.Heap.IsTupleIter.at z k
 |false=>exact PySem.Heap.IsListIter.at z k
theorem vJ{A:Bc}(calm:A.handled=Ae)(t:Aj)(j l:Am)(ne:l≠j)(its:AY Ai):Draws prog w A j [j,l] its.size (λi v=>its[i]?=Ab v) (λi h=>ES t h j l i/\Cp t h l its):=
 have d:=IA (prog:=prog) (w:=w) calm t j l ne its
 ⟨λi h z=>let ⟨o,e,_⟩:=z.1.live;⟨o,e⟩,d.frame,d.item,λs Q E h q=>d.done _ s Q E (A6 _) h q⟩
theorem lZ{A:Bc}(calm:A.handled=Ae)(t:Aj)(j l:Am)(ne:l≠j)(its:AY Ai)(i:Ag)(hi:its.size<=i):Draws prog w A j [j,l] i (λ_ _=>Bz) (λk h=>k=i/\ES t h j l i/\Cp t h l its):=
 have d:=IA (prog:=prog) (w:=w) calm t j l ne its
 ⟨λ_ h z=>let ⟨o,e,_⟩:=z.2.1.live;⟨o,e⟩,λk h h' z q=>⟨z.1,d.frame i h h' z.2 q⟩,λk s Q E lt z=>absurd z.1 (A1 lt),λs Q E h q=>d.done i s Q E hi h.2 q⟩
noncomputable def Ite(K:Fg)(t:Aj)(a:Am):It:=
 ⟨λi H=>∃ xs x,SqX t K H a xs/\xs[i]?=Ab x,λi H v H'=>∃ p x,H p=Ae/\v=.ref p/\(∀ xs,SqX t K H a xs->xs[i]?=Ab x)/\H'=upd H p (.tup [.int i,x]),λi H=>∃ xs,SqX t K H a xs/\xs.length<=i⟩
def eTn(t:Aj)(I l:Ag)(i:Ag)(h:AJ):Prop:=(∃ old,IsEnum h (I+1) I i old)/\ES t h I l i
theorem ZR(t:Aj)(I l:Ag)(b:l<I):Turn P w K (.Tuple es n pos) (Ite K t l) [I,I+1] (I+1) (eTn t I l) where
  mem:=by simp
  obj:=λi h ⟨⟨old,z1⟩,z2⟩ c hc=>by
    simp only[At,AR,BO]at hc;rcases hc with rfl|rfl
    · exact z2.live
    · exact⟨_,z1,λv z=>by cases z⟩
  keep:=λi h h2 ⟨⟨old,z1⟩,z2⟩ k=>⟨⟨old,k _ (by simp) _ z1⟩,z2.keep λo e=>k _ (by simp) o e⟩
  item:=by
    intro X hP hw hK hc i pI s Z H E Iv hf ⟨⟨old,z1⟩,z2⟩ ⟨xs,x,q1,hx⟩;subst hP hw hK;obtain⟨us,rx,px,_⟩:=Hn Iv q1;obtain⟨u,hu,ru⟩:=rx.get hx;have lu:i<us.toArray.size:=by
      have:=(AX.mp hu).1;simpa using this
    refine wpAny_pyNext_enum_itemD (vJ (A:=X.A.in1) (Iv.ok.hd hc) t I l (A1 b) us.toArray) z1 ⟨z2,px⟩ lu (ni0 (by decide)) (by simp only[At,AR,BO,DR];exact⟨ni0 (by decide),CJ (AH b (Ep _ _))⟩) λu' h2 tk hu' ho it2 hT sz kp=>⟨_,rfl,wpAny_letOwnedTupleGo_enum ho λh3 d1 sb=>?_⟩
    have eu:u'=u:=by
      rw[Gr,hu]at hu';exact(BV hu').symm
    subst eu;have lt:I+1<s.heap.objs.size:=Ax z1;have kp3:∀ c o,c∉[I,I+1]->s.heap.get? c=Ab o->h3.get? c=Ab o:=λc o nc q=>by
      simp only[At,AR,BO,DR]at nc;exact sb.extBut c o nc.2 (kp c o nc.2 nc.1 q)
    have nT:∀ c∈[I,I+1],c≠s.heap.objs.size:=λc hc z=>by
      have:c<=I+1:=by
        simp only[At,AR,BO]at hc;rcases hc with z|z<;>rw[z]<;>simp
      exact absurd (z ▸ DU this lt) (Bu _)
    have I1:Inv X pI Z (upd H s.heap.objs.size (.tup [.int i,x])) { s with heap:=s.heap.push { cls:=.type "tuple",data:=.seq #[.int i tk,u'] },toks:=s.toks }:=
      Iv.laid (λ_ _ q=>Ar _ q) (A6 _) ⟨(by decide:2<=sizeLine),[.int i tk,u'],.cons ⟨_,rfl⟩ (.cons ru .nil),⟨_,Aw _ rfl,rfl,_,rfl⟩⟩
    have hf':∀ b∈[I,I+1],G6 X pI (upd H s.heap.objs.size (.tup [.int i,x])) b:=λb hb=>⟨by rw[Dl (nT b hb)];exact(hf b hb).1,(hf b hb).2⟩
    have I2:Inv X pI Z (upd H s.heap.objs.size (.tup [.int i,x])) {s with heap:=h3,toks:=tk+1}:=Inv.turnedL (s:={ s with heap:=s.heap.push { cls:=.type "tuple",data:=.seq #[.int i tk,u'] },toks:=s.toks }) [I,I+1] I1 (λc o nc q=>by
      rcases X2 q with ⟨e1,e2⟩|e1
      · subst e1 e2;exact sb.extBut _ _ (CJ lt) hT
      · exact kp3 c o nc e1) hf'
    exact⟨.ref s.heap.objs.size,_,I2,rfl,⟨s.heap.objs.size,x,Iv.fresh,rfl,λzs hz=>by rw[OP Iv hz q1];exact hx,rfl⟩,⟨⟨u',by simpa using d1⟩,it2.1.keep λo q=>sb.extBut _ o (BA (ni0 (by decide))) q⟩,λb hb=>(hf' b hb).1⟩
  done:=by
    intro X hP hw hK hc i pI s Z H E Iv hf ⟨⟨old,z1⟩,z2⟩ ⟨xs,q1,hk⟩;subst hP hw hK;obtain⟨us,rx,px,_⟩:=Hn Iv q1;have e1:=rx.length;have e2:us.toArray.size<=i:=by rw[AC,<-e1];exact hk
    refine wpAny_pyNext_enum_endD (lZ (A:=X.A.in1) (Iv.ok.hd hc) t I l (A1 b) us.toArray i e2) z1 ⟨rfl,z2,px⟩ λh2 eb=>⟨rfl,Inv.turnedL [I] Iv (t':=s.toks) (λc o nc q=>eb c o (λz=>nc (by simp[z])) q) λc hc=>hf c ?_⟩
    have:c=I:=by simpa using hc
    subst this;simp
  self:=λ_ _ _ _ _ st h=>YE st.1.choose_spec h
section
variable{prog:AT}{w:AE}{A:Bc}{E:Vq}{s:As}
theorem fA(t:Aj)(l:Am)(xs:AY Ai):Meets (Builtin.«enumerate.__new__» ⟨[.type "enumerate",.ref l],[]⟩) (λ_ R s=>Cp t s.heap l xs /\
   R (.ok (.ret (.ref (s.heap.push (itO t l)).objs.size))) { s with heap:=(s.heap.push (itO t l)).push { cls:=.type "enumerate",data:=.fields #[.none,.bool Af,.ref s.heap.objs.size,Co 0,.none,.none] } }):=
 .of_wp λprog w A R s h=>by
  obtain⟨hp,g,d,tk,os⟩:=s;obtain⟨hl,h⟩:=h;have hsub:=sub_enumerate;have hL:Cp t (F5 ⟨hp,g,d,tk,os⟩) l xs:=hl
  wp_walk
  refine wpAny_stack_any λst=>Av ?_
  split
  .rename_i c _ _ _ _ _;cases (c==Ek "enumerate")
   .wp_walk using JL hL
    exact⟨_,rfl,h⟩
   .wp_walk using JL hL
    exact⟨_,rfl,h⟩
  .wp_walk using JL hL
   exact⟨_,rfl,h⟩
theorem cA{xs:AY Ai}{Q:Vq}(hL:Cp t s.heap l xs)(h:∀ h',IsEnum h' (s.heap.objs.size+1) s.heap.objs.size 0 .none->ES t h' s.heap.objs.size l 0->(∀ b o,s.heap.get? b=Ab o->h'.get? b=Ab o)->Q (.ref (s.heap.objs.size+1)) {s with heap:=h'}):
    AB (model prog w) A (call (.type "enumerate") [.ref l]) Q E s:=by
  refine Jw F.called_enumerate (by decide) (F.typeCall_enumerate_1 _) (F.newCall_enumerate_1 _) (λobj=>XG obj _) F.entry_enumerate_new (fA t l xs) ⟨hL,?_⟩
  have hz:(s.heap.push (itO t l)).objs.size=s.heap.objs.size+1:=Bm ..;show _/\_;rw[hz];have he:IsEnum ((s.heap.push (itO t l)).push { cls:=.type "enumerate",data:=.fields #[.none,.bool Af,.ref s.heap.objs.size,Co 0,.none,.none] }) (s.heap.objs.size+1) s.heap.objs.size 0 .none:=by
    have:=Aw (s.heap.push (itO t l)) (o:={ cls:=.type "enumerate",data:=.fields #[.none,.bool Af,.ref s.heap.objs.size,Co 0,.none,.none] }) rfl;rw[hz]at this;exact this
  exact⟨⟨_,he,rfl⟩,h _ he (K5 (Ar _ (Aw _ (KM _ _)))) λb o x=>Ar _ (Ar _ x)⟩
end
def Y_2(K:Fg)(ta:TA):TI:=λZ H R=>ta Z H λvs H1=>∃ t a xs,vs=[.ref a]/\SqX t K H1 a xs/\(xs.length<=sizeLine->R (Ite K t a) H1)
theorem jB{a:An}(hg:Gl X "enumerate")(hm:X.mg "enumerate" = Ae)(ha:PA X [a] ta)(hs:AF [a] X.env=[(Af,eval a X.env)]):
  PI X (.Tuple es n tpos) (.Call (.Name "enumerate" p) [a] [] pos) (Y_2 X.K ta):=by
 intro pI s Z H R I h;refine IR (HW I hg hm PyProof.Rows.boot_enumerate (BR (thn (ha pos pI s Z H _ I h) λus s1 ⟨vs,H1,I1,r1,q1⟩=>?_) hs rfl))
 obtain⟨t,c,xs,e,sx,q⟩:=q1;subst e;cases r1 with
 |cons r rr=>
  cases rr;cases r;obtain⟨us,ru,pu,zu⟩:=Hn I1 sx;refine cA pu λh2 z1 z2 kp=>YE z1 ?_
  refine⟨s1.heap.objs.size+1,[s1.heap.objs.size,s1.heap.objs.size+1],_,_,H1,rfl,I1.kept (t':=s1.toks) kp,ZR t s1.heap.objs.size c pu.lt,⟨⟨_,z1⟩,z2⟩,λb hb=>?_,q zu⟩
  have hb':s1.heap.objs.size<=b:=by
   simp only[At,AR,BO]at hb;rcases hb with z|z<;>rw[z]<;>simp
  exact I1.fpOk hb' (I1.hok.fresh hb')
theorem Pv:∀(j:Ad)(xs:Ac D),(Fp j xs).length=xs.length
 |_,[]=>rfl
 |j,x::xs=>by rw[Fp,BU,Pv,BU]
theorem Tr:∀(xs:Ac D)(j:Ad)(i:Ag)(d:D),(Fp j xs)[i]?=Ab d->∃ x,xs[i]?=Ab x/\d=.tup [.int (j+i),x]
 |[],j,i,d,h=>by simp[Fp]at h
 |x::xs,j,0,d,h=>by
  rw[Fp]at h;simp only[EA,Cc]at h;exact⟨x,rfl,by rw[<-h];simp⟩
 |x::xs,j,i+1,d,h=>by
  rw[Fp]at h;simp only[Ez]at h ⊢;obtain⟨y,h1,h2⟩:=Tr xs (j+1) i d h;exact⟨y,h1,by rw[h2];congr 3;omega⟩
theorem Z_4{ds:Ac D}(sq:∀ H2,Kp A H1 H2->SqX t K H2 a xs)(r1:Reps K CL H1 A xs ds):II K CL A (Fp 0 ds) (Ite K t a) H1:=λH k i=>by
 have s1:=sq H k;refine⟨λhi=>⟨xs,s1,?_⟩,λd hd=>?_⟩
 .rw[Pv]at hi;rw[r1.length];exact hi
 .obtain⟨x,hx,rfl⟩:=Tr _ _ _ _ hd;obtain⟨u,hu,ru⟩:=r1.get hx;refine⟨⟨xs,u,s1,hu⟩,?_⟩;rintro w' H' ⟨p,x',hp,rfl,c1,rfl⟩;have ex:x'=u:=BV ((c1 xs s1).symm.trans hu);subst ex;rw[C9];exact⟨FE hp (.tup [.int i,x']),λB hB aB=>KZ aB hp ⟨rfl,LV ru k hB,trivial⟩⟩
section
variable{X:Cx}{CL:ClA}{W:XW}{pos p:A7}{a:An}{fa:Rho->R D}
theorem fN(ha:SE X CL W a fa)(hg:Gl X "enumerate")(hm:X.mg "enumerate" = Ae)(hs:AF [a] X.env=[(Af,eval a X.env)]):
  SI X CL W (.Tuple es n tpos) (.Call (.Name "enumerate" p) [a] [] pos) (λU=>(fa U).bind λx=>(CC x).bind λxs=>.ok (Fp 0 xs)):=
 λA=>PI.weak (jB hg hm (Fo (ha A) G0 hs) hs) λZ H R ⟨hA,U,g,q⟩=>⟨hA,U,g,E4.ex q λd v H1 _ s1 r1 p1=>by
  cases e1:CC d with
  |bad=>rw[e1]at p1;exact p1.elim
  |exn z=>exact absurd e1 (by cases d<;>simp[CC])
  |ok ds=>
   rw[e1]at p1;obtain⟨t,c,xs,rfl,k1,rs⟩:=Ll r1 e1;exact⟨t,c,xs,rfl,k1 H1 (Kp.of (AM.refl H1)),λhz=>p1 _ H1 (AM.refl H1) (Z_4 k1 rs) (by rw[Pv,<-rs.length];exact hz)⟩⟩
end
noncomputable abbrev ER(h:AJ)(z TI TO:Am)(f0 f1:Ai):Prop:=h.get? z=Ab { cls:=.type "zip",dict:=Ae,data:=.fields #[f0,f1,.bool Af,.ref TI,.ref TO],slots:=#[] }
noncomputable abbrev EG(h:AJ)(T:Am)(a b c:Ai):Prop:=h.get? T=Ab { cls:=.type "tuple",data:=.seq #[a,b,c] }
section
variable{prog:AT}{w:AE}{A:Bc}{E:Vq}{s:As}
theorem nb3{I l c:Ag}(b:l<I)(h:c∈[I+j,l])(i:Ag)(hi:i≠j):c≠I+i:=by
 have h':c=I+j\/c=l:=by simpa using h
 omega
theorem T6{z TI TO T1:Ag}{Q:Aj->As->Prop}(hz:ER s.heap z TI TO (Co T1) (.bool f1))(hT:s.heap.get? T1=Ab o1)(go:∀ h1,ER h1 z TI TO (Co T1) (.bool Aa)->(∀ c o,c≠z->s.heap.get? c=Ab o->h1.get? c=Ab o)->h1.objs.size=s.heap.objs.size->Q Af {s with heap:=h1}):AB (model prog w) A (A5 (.ref z)) Q E s:=by
 simp only[A5];refine Ah (Bh hz rfl (x:=Co T1) rfl ?_);show AB _ _ (loadIfAlive T1 >>= _) _ _ _;refine Ah (λY p _=>?_)
 show AB _ _ _ _ _ _;rw[hT];show AB _ _ (field (.ref z) 1 >>= _) _ _ _;refine Ah (Bh hz rfl (x:=.bool f1) rfl ?_);cases f1 with
 |true=>exact Av (go s.heap hz (λ_ _ _ e=>e) rfl)
 |false=>exact Ah (B7 hz (by simp) λh1 z1 sb=>Av (go h1 z1 (λc o nc e=>sb.extBut c o nc e) sb.1))
theorem T7{z TI TO:Ag}{f1:Ai}{Q:Aj->As->Prop}(hz:ER s.heap z TI TO f0 f1)(hf:f0=.none\/∃ T1:Ag,f0=Co T1/\s.heap.get? T1=Ae)(go:Q Aa s):AB (model prog w) A (A5 (.ref z)) Q E s:=by
 simp only[A5];rcases hf with rfl|⟨T1,rfl,hT⟩
 .exact Ah (Bh hz rfl (x:=.none) rfl (Av go))
 .refine Ah (Bh hz rfl (x:=Co T1) rfl ?_);show AB _ _ (loadIfAlive T1 >>= _) _ _ _;refine Ah (λY p _=>?_)
  show AB _ _ _ _ _ _;rw[hT];exact Av go
theorem Z_1{I l1 l2 l3 n1 n2 n3 k T1:Ag}{P3:Ag->Ai->Prop}{S3:Ag->AJ->Prop}{Q:Vq}(b1:l1<I)(b2:l2<I)(b3:l3<I)(D1:Dw prog w A (I+0) [I+0,l1] n1 P1 S1)(D2:Dw prog w A (I+1) [I+1,l2] n2 P2 S2)(D3:Dw prog w A (I+2) [I+2,l3] n3 P3 S3)(hz:ER s.heap (I+5) (I+3) (I+4) (Co T1) (.bool f1))(hI:EG s.heap (I+3) (.ref (I+0)) (.ref (I+1)) (.ref (I+2)))(hT:s.heap.get? T1=Ab o1)(g1:S1 k s.heap)(g2:S2 k s.heap)(g3:S3 k s.heap)(k1:k<n1)(k2:k<n2)(k3:k<n3)(go:∀ x y u h2 tk,P1 k x->P2 k y->P3 k u->ER h2 (I+5) (I+3) (I+4) (Co T1) (.bool Aa)->S1 (k+1) h2->S2 (k+1) h2->S3 (k+1) h2->EG h2 s.heap.objs.size x y u->h2.objs.size=s.heap.objs.size+1 ->
   (∀ c o,c∉[I+0,I+1,I+2,I+5]->s.heap.get? c=Ab o->h2.get? c=Ab o)->Q (.ref s.heap.objs.size) {s with heap:=h2,toks:=tk}):AB (model prog w) A (Builtin.«zip.__next__» ⟨[.ref (I+5)],[]⟩) (λfin s'=>∃ v,fin=.done (.ret v)/\Q v s') E s:=by
 refine Ah (m:=field (.ref (I+5)) 2) (Bh hz rfl (x:=.bool Af) rfl ?_);refine Ah (m:=field (.ref (I+5)) 3) (Bh hz rfl (x:=.ref (I+3)) rfl (Ah (BW hI rfl ?_)));refine Ah (m:=A5 (.ref (I+5))) (T6 hz hT λp1 z1 e1 s1=>?_)
 rw[AV (by decide)]
 refine Ah ?_;simp only[<-Wo,D4,DS];have f1':S1 k p1:=D1.frame _ _ _ g1 λc hc o q=>e1 c o (nb3 b1 hc 5 (by decide)) q
 refine Ah (Ah (Ck (Ah (m:=A2 (.ref (I+0))) (D1.item k _ _ _ k1 f1' λx p2 t2 px s2 e2=>Av (Av ?_)))))
 have f2':S2 k p2:=D2.frame _ _ _ g2 λc hc o q=>e2.extBut c o (nb3 b2 hc 0 (by decide)) (e1 c o (nb3 b2 hc 5 (by decide)) q)
 refine Ah (Ah (Ck (Ah (m:=A2 (.ref (I+1))) (D2.item k _ _ _ k2 f2' λy p3 t3 py s3 e3=>Av (Av ?_)))))
 have f3':S3 k p3:=D3.frame _ _ _ g3 λc hc o q=>e3.extBut c o (nb3 b3 hc 1 (by decide)) (e2.extBut c o (nb3 b3 hc 0 (by decide)) (e1 c o (nb3 b3 hc 5 (by decide)) q))
 refine Ah (Ah (Ck (Ah (m:=A2 (.ref (I+2))) (D3.item k _ _ _ k3 f3' λu p4 t4 pu s4 e4=>Av (Av (Av ?_))))))
 refine Ah (IQ (hsz:=by show 3<=sizeLine;decide) (Av ⟨_,rfl,?_⟩))
 have sz:p4.objs.size=s.heap.objs.size:=by rw[e4.1,e3.1,e2.1,s1]
 have z4:ER p4 (I+5) (I+3) (I+4) (Co T1) (.bool Aa):=e4.extBut _ _ (nij (by decide)) (e3.extBut _ _ (nij (by decide)) (e2.extBut _ _ (nij (by decide)) z1))
 have a1:S1 (k+1) p4:=D1.frame _ _ _ s2 λc hc o q=>e4.extBut c o (nb3 b1 hc 2 (by decide)) (e3.extBut c o (nb3 b1 hc 1 (by decide)) q)
 have a2:S2 (k+1) p4:=D2.frame _ _ _ s3 λc hc o q=>e4.extBut c o (nb3 b2 hc 2 (by decide)) q
 have psh:∀ {c o},p4.get? c=Ab o->(p4.push { cls:=.type "tuple",data:=.seq #[x,y,u] }).get? c=Ab o:=λq=>Ar _ q
 have q:=go x y u (p4.push { cls:=.type "tuple",data:=.seq #[x,y,u] }) t4 px py pu (psh z4) (D1.frame _ _ _ a1 λc _ o q=>psh q) (D2.frame _ _ _ a2 λc _ o q=>psh q) (D3.frame _ _ _ s4 λc _ o q=>psh q) (by rw[<-sz];exact Aw _ rfl) (by rw[Bm,sz]) (λc o nc q=>by
  simp only[At,AR,BO,DR]at nc;exact psh (e4.extBut c o nc.2.2.1 (e3.extBut c o nc.2.1 (e2.extBut c o nc.1 (e1 c o nc.2.2.2 q)))))
 rw[<-sz]at q;exact q
theorem Z_0{I l1 n1 k T1:Ag}{Q:Fin->As->Prop}(b1:l1<I)(D1:Dw prog w A (I+0) [I+0,l1] n1 P1 S1)(hz:ER s.heap (I+5) (I+3) (I+4) (Co T1) (.bool f1))(hI:EG s.heap (I+3) (.ref (I+0)) (.ref (I+1)) (.ref (I+2)))(hT:s.heap.get? T1=Ab o1)(g1:S1 k s.heap)(k1:n1<=k)(up:∀ h2 e,(∀ c o,c∉[I+0,I+5]->s.heap.get? c=Ab o->h2.get? c=Ab o)->(∃ o,h2.get? e=Ab o/\o.cls=.type "StopIteration")->E (.ref e) {s with heap:=h2}):AB (model prog w) A (Builtin.«zip.__next__» ⟨[.ref (I+5)],[]⟩) Q E s:=by
 refine Ah (m:=field (.ref (I+5)) 2) (Bh hz rfl (x:=.bool Af) rfl ?_);refine Ah (m:=field (.ref (I+5)) 3) (Bh hz rfl (x:=.ref (I+3)) rfl (Ah (BW hI rfl ?_)));refine Ah (m:=A5 (.ref (I+5))) (T6 hz hT λp1 z1 e1 s1=>?_)
 rw[AV (by decide)]
 refine Ah ?_;simp only[<-Wo,D4,DS];have f1':S1 k p1:=D1.frame _ _ _ g1 λc hc o q=>e1 c o (nb3 b1 hc 5 (by decide)) q
 refine Ah (Ah (Ck (Ah (m:=A2 (.ref (I+0))) (D1.done k _ _ _ k1 f1' λp2 e e2 he=>up p2 e (λc o nc q=>?_) he))))
 simp only[At,AR,BO,DR]at nc;exact e2 c o nc.1 (e1 c o nc.2 q)
theorem bV{I l1 n1 k:Ag}{f1:Ai}{Q:Fin->As->Prop}(b1:l1<I)(D1:Dw prog w A (I+0) [I+0,l1] n1 P1 S1)(hz:ER s.heap (I+5) (I+3) (I+4) f0 f1)(hf:f0=.none\/∃ T1:Ag,f0=Co T1/\s.heap.get? T1=Ae)(hI:EG s.heap (I+3) (.ref (I+0)) (.ref (I+1)) (.ref (I+2)))(g1:S1 k s.heap)(k1:n1<=k)(up:∀ h2 e,(∀ c o,c∉[I+0,I+5]->s.heap.get? c=Ab o->h2.get? c=Ab o)->(∃ o,h2.get? e=Ab o/\o.cls=.type "StopIteration")->E (.ref e) {s with heap:=h2}):AB (model prog w) A (Builtin.«zip.__next__» ⟨[.ref (I+5)],[]⟩) Q E s:=by
 refine Ah (m:=field (.ref (I+5)) 2) (Bh hz rfl (x:=.bool Af) rfl ?_);refine Ah (m:=field (.ref (I+5)) 3) (Bh hz rfl (x:=.ref (I+3)) rfl (Ah (BW hI rfl ?_)));refine Ah (m:=A5 (.ref (I+5))) (T7 hz hf ?_);rw[AI rfl];refine Ah (GJ (Ah (Bh hz rfl (x:=.ref (I+4)) rfl (Ah (B7 hz (by simp) λp1 z1 e1=>Ah ?_)))))
 have z1':ER p1 (I+5) (I+3) (I+4) .ellipsis f1:=z1;simp only[Gd,GB,D4,DS];have g1':S1 k p1:=D1.frame _ _ _ g1 λc hc o q=>e1.extBut c o (nb3 b1 hc 5 (by decide)) q
 refine Ah (Ah (DK (Ah (m:=A2 (.ref (I+0))) (D1.done _ _ _ _ k1 g1' λp2 e e2 he=>?_))))
 obtain⟨oe,hoe,hce⟩:=he;have z2:ER p2 (I+5) (I+3) (I+4) .ellipsis f1:=e2 _ _ (nij (by decide)) z1'
 have ne:e≠I+5:=λx=>by subst x;rw[z2]at hoe;cases hoe;simp at hce
 refine B7 z2 (by simp) λp3 _ e3=>up p3 e (λc o nc q=>?_) ⟨oe,e3.extBut _ _ ne hoe,hce⟩
 simp only[At,AR,BO,DR]at nc;exact e3.extBut c o nc.2 (e2 c o nc.1 (e1.extBut c o nc.2 q))
theorem P9{T:Am}{a b c x:Ai}{Q:IY->As->Prop}(h:EG s.heap T a b c)(go:∀ h2,h2.get? T=Ab { cls:=.type "tuple",data:=.seq ((#[a,b,c]:AY Ai).setIfInBounds k x) }->EY T s.heap h2->Q () {s with heap:=h2}):AB (model prog w) A (Im T (·.setIfInBounds k x)) Q E s:=by
 refine EK h rfl (go _ ?_ (GX ..)) (by show 3<=sizeLine;decide) (by show ((#[a,b,c]:AY Ai).setIfInBounds k x).size<=sizeLine+1;rw[Array.size_setIfInBounds];show 3<=sizeLine+1;decide)
 rw[B8 _ h rfl];simp[Cd]
theorem Z_6{I l1 l2 l3 n1 n2 n3 k:Ag}{P3:Ag->Ai->Prop}{S3:Ag->AJ->Prop}{a b c f1:Ai}{Q:Vq}(b1:l1<I)(b2:l2<I)(b3:l3<I)(D1:Dw prog w A (I+0) [I+0,l1] n1 P1 S1)(D2:Dw prog w A (I+1) [I+1,l2] n2 P2 S2)(D3:Dw prog w A (I+2) [I+2,l3] n3 P3 S3)(hz:ER s.heap (I+5) (I+3) (I+4) f0 f1)(hf:f0=.none\/∃ T1:Ag,f0=Co T1/\s.heap.get? T1=Ae)(hI:EG s.heap (I+3) (.ref (I+0)) (.ref (I+1)) (.ref (I+2)))(hO:EG s.heap (I+4) a b c)(g1:S1 k s.heap)(g2:S2 k s.heap)(g3:S3 k s.heap)(k1:k<n1)(k2:k<n2)(k3:k<n3)(go:∀ x y u h2 tk,P1 k x->P2 k y->P3 k u->ER h2 (I+5) (I+3) (I+4) (Co s.heap.objs.size) (.bool Af)->S1 (k+1) h2->S2 (k+1) h2->S3 (k+1) h2->EG h2 s.heap.objs.size x y u->EG h2 (I+4) x y u->h2.objs.size=s.heap.objs.size+1 ->
   (∀ c o,c∉[I+0,I+1,I+2,I+4,I+5]->s.heap.get? c=Ab o->h2.get? c=Ab o)->Q (.ref s.heap.objs.size) {s with heap:=h2,toks:=tk}):AB (model prog w) A (Builtin.«zip.__next__» ⟨[.ref (I+5)],[]⟩) (λfin s'=>∃ v,fin=.done (.ret v)/\Q v s') E s:=by
 refine Ah (m:=field (.ref (I+5)) 2) (Bh hz rfl (x:=.bool Af) rfl ?_);refine Ah (m:=field (.ref (I+5)) 3) (Bh hz rfl (x:=.ref (I+3)) rfl (Ah (BW hI rfl ?_)));refine Ah (m:=A5 (.ref (I+5))) (T7 hz hf ?_);rw[AI rfl];refine Ah (GJ (Ah (Bh hz rfl (x:=.ref (I+4)) rfl (Ah (B7 hz (by simp) λp1 z1 e1=>Ah ?_)))))
 have z1':ER p1 (I+5) (I+3) (I+4) .ellipsis f1:=z1;simp only[Gd,GB,D4,DS];have f1':S1 k p1:=D1.frame _ _ _ g1 λc hc o q=>e1.extBut c o (nb3 b1 hc 5 (by decide)) q
 refine Ah (Ah (DK (Ah (m:=A2 (.ref (I+0))) (D1.item k _ _ _ k1 f1' λx p2 t2 px s2 e2=>Av ?_))))
 have o2:EG p2 (I+4) a b c:=e2.extBut _ _ (nij (by decide)) (e1.extBut _ _ (nij (by decide)) hO)
 refine Ah (BW o2 rfl (Ah (P9 o2 λp3 o3 e3=>Ah (Fm (Av ?_)))))
 have o3':EG p3 (I+4) x b c:=o3;have f2':S2 k p3:=D2.frame _ _ _ g2 λc hc o q=>e3.extBut c o (nb3 b2 hc 4 (by decide)) (e2.extBut c o (nb3 b2 hc 0 (by decide)) (e1.extBut c o (nb3 b2 hc 5 (by decide)) q))
 refine Ah (Ah (DK (Ah (m:=A2 (.ref (I+1))) (D2.item k _ _ _ k2 f2' λy p4 t4 py s4 e4=>Av ?_))))
 have o4:EG p4 (I+4) x b c:=e4.extBut _ _ (nij (by decide)) o3'
 refine Ah (BW o4 rfl (Ah (P9 o4 λp5 o5 e5=>Ah (Fm (Av ?_)))))
 have o5':EG p5 (I+4) x y c:=o5;have f3':S3 k p5:=D3.frame _ _ _ g3 λc hc o q=>e5.extBut c o (nb3 b3 hc 4 (by decide)) (e4.extBut c o (nb3 b3 hc 1 (by decide)) (e3.extBut c o (nb3 b3 hc 4 (by decide)) (e2.extBut c o (nb3 b3 hc 0 (by decide)) (e1.extBut c o (nb3 b3 hc 5 (by decide)) q))))
 refine Ah (Ah (DK (Ah (m:=A2 (.ref (I+2))) (D3.item k _ _ _ k3 f3' λu p6 t6 pu s6 e6=>Av ?_))))
 have o6:EG p6 (I+4) x y c:=e6.extBut _ _ (nij (by decide)) o5'
 refine Ah (BW o6 rfl (Ah (P9 o6 λp7 o7 e7=>Ah (Fm (Av (Av ?_))))))
 have o7':EG p7 (I+4) x y u:=o7;have sz:p7.objs.size=s.heap.objs.size:=by rw[e7.1,e6.1,e5.1,e4.1,e3.1,e2.1,e1.1]
 have z7:ER p7 (I+5) (I+3) (I+4) .ellipsis f1:=e7.extBut _ _ (nij (by decide)) (e6.extBut _ _ (nij (by decide)) (e5.extBut _ _ (nij (by decide)) (e4.extBut _ _ (nij (by decide)) (e3.extBut _ _ (nij (by decide)) (e2.extBut _ _ (nij (by decide)) z1')))))
 refine Ah (BW o7' rfl (Ah (IQ (hsz:=by show 3<=sizeLine;decide) ?_)))
 refine Ah (m:=Db (.ref (I+5)) (.ref p7.objs.size)) ?_;simp only[Db];have z8:ER (p7.push { cls:=.type "tuple",data:=.seq #[x,y,u] }) (I+5) (I+3) (I+4) .ellipsis f1:=Ar _ z7;refine Ah (B7 z8 (by simp) λp9 z9 e9=>?_)
 have z9':ER p9 (I+5) (I+3) (I+4) (Co p7.objs.size) f1:=z9;refine B7 z9' (by simp) λpa za ea=>Av ⟨_,rfl,?_⟩
 have za':ER pa (I+5) (I+3) (I+4) (Co p7.objs.size) (.bool Af):=za;have lt5:I+5<p7.objs.size:=Ax z7;have up:∀ c o,c≠I+5->p7.get? c=Ab o->pa.get? c=Ab o:=λc o nc q=>ea.extBut _ _ nc (e9.extBut _ _ nc (Ar _ q))
 have a1:S1 (k+1) pa:=D1.frame _ _ _ s2 λc hc o q=>up c o (nb3 b1 hc 5 (by decide)) (e7.extBut c o (nb3 b1 hc 4 (by decide)) (e6.extBut c o (nb3 b1 hc 2 (by decide)) (e5.extBut c o (nb3 b1 hc 4 (by decide)) (e4.extBut c o (nb3 b1 hc 1 (by decide)) (e3.extBut c o (nb3 b1 hc 4 (by decide)) q)))))
 have a2:S2 (k+1) pa:=D2.frame _ _ _ s4 λc hc o q=>up c o (nb3 b2 hc 5 (by decide)) (e7.extBut c o (nb3 b2 hc 4 (by decide)) (e6.extBut c o (nb3 b2 hc 2 (by decide)) (e5.extBut c o (nb3 b2 hc 4 (by decide)) q)))
 have a3:S3 (k+1) pa:=D3.frame _ _ _ s6 λc hc o q=>up c o (nb3 b3 hc 5 (by decide)) (e7.extBut c o (nb3 b3 hc 4 (by decide)) q)
 have tp:EG pa p7.objs.size x y u:=ea.extBut _ _ (CJ lt5) (e9.extBut _ _ (CJ lt5) (Aw _ rfl));have q:=go x y u pa t6 px py pu (by rw[<-sz];exact za') a1 a2 a3 (by rw[<-sz];exact tp) (up _ _ (nij (by decide)) o7') (by rw[ea.1,e9.1,Bm,sz]) (λc o nc q=>by
  simp only[At,AR,BO,DR]at nc;exact up c o nc.2.2.2.2 (e7.extBut c o nc.2.2.2.1 (e6.extBut c o nc.2.2.1 (e5.extBut c o nc.2.2.2.1 (e4.extBut c o nc.2.1 (e3.extBut c o nc.2.2.2.1 (e2.extBut c o nc.1 (e1.extBut c o nc.2.2.2.2 q))))))))
 rw[<-sz]at q;exact q
def Z_3(t1 t2 t3:Aj)(I l1 l2 l3 i:Ag)(h:AJ):Prop:=EG h (I+3) (.ref (I+0)) (.ref (I+1)) (.ref (I+2))/\ES t1 h (I+0) l1 i/\ES t2 h (I+1) l2 i/\ES t3 h (I+2) l3 i/\(∃ a b c,EG h (I+4) a b c) /\
 (ER h (I+5) (I+3) (I+4) .none (.bool Af)\/∃(T1:Ag)(f1:Aj),ER h (I+5) (I+3) (I+4) (Co T1) (.bool f1))
noncomputable def z3w(I:Ag):Ac Am:=[I+0,I+1,I+2,I+4,I+5]
theorem hJ{t1 t2 t3:Aj}{I l1 l2 l3 i:Ag}{xs:AY Ai}{x:Ai}{Q:Ap Ai->As->Prop}(calm:A.handled=Ae)(b1:l1<I)(b2:l2<I)(b3:l3<I)(z:Z_3 t1 t2 t3 I l1 l2 l3 i s.heap)(q1:Cp t1 s.heap l1 xs)(q2:Cp t2 s.heap l2 ys)(q3:Cp t3 s.heap l3 us)(hx:xs[i]?=Ab x)(hy:ys[i]?=Ab y)(hu:us[i]?=Ab u)(go:∀ h2 tk,Z_3 t1 t2 t3 I l1 l2 l3 (i+1) h2->EG h2 s.heap.objs.size x y u->h2.objs.size=s.heap.objs.size+1->(∀ c o,c∉z3w I->s.heap.get? c=Ab o->h2.get? c=Ab o)->Q (Ab (.ref s.heap.objs.size)) {s with heap:=h2,toks:=tk}):AB (model prog w) A (Ed (.ref (I+5))) Q E s:=by
 obtain⟨zI,i1,i2,i3,zz⟩:=z;have calm':A.in1.handled=Ae:=calm;have lt:∀{v:AY Ai}{k:Ag}{a:Ai},v[k]?=Ab a->k<v.size:=λh=>by
  rw[Array.getElem?_eq_some_iff]at h;exact h.1
 have inj:∀{v:AY Ai}{k:Ag}{a b:Ai},v[k]?=Ab a->v[k]?=Ab b->b=a:=λh1 h2=>by
  rw[h1]at h2;exact(BV h2).symm
 have d1:=IA (prog:=prog) (w:=w) calm' t1 (I+0) l1 (A1 b1) xs;have d2:=IA (prog:=prog) (w:=w) calm' t2 (I+1) l2 (A1 (AH b2 (Ep _ _))) ys;have d3:=IA (prog:=prog) (w:=w) calm' t3 (I+2) l3 (A1 (AH b3 (Ep _ _))) us;obtain⟨⟨a,b,c,hO⟩,zz⟩:=zz;have fst:∀{f0 f1:Ai},ER s.heap (I+5) (I+3) (I+4) f0 f1->(f0=.none\/∃ T1:Ag,f0=Co T1/\s.heap.get? T1=Ae)->AB (model prog w) A (Ed (.ref (I+5))) Q E s:=λhz hf=>by
  have hty:s.TypeIs (.ref (I+5)) "zip" := ⟨_,hz,rfl⟩;simp only[Ed];refine Ah (Fj (Ca hty Cy (CN Cy hty Et (Z_6 (k:=i) b1 b2 b3 d1 d2 d3 hz hf zI hO ⟨i1,q1⟩ ⟨i2,q2⟩ ⟨i3,q3⟩ (lt hx) (lt hy) (lt hu) λx' y' u' h2 tk px py pu c1 c2 c3 c4 c5 c6 c7 kp=>Av ?_) (Ec _))))
  rw[inj hx px,inj hy py,inj hu pu]at c5;exact go h2 tk ⟨kp _ _ (by simp) zI,c2.1,c3.1,c4.1,⟨_,_,_,c6⟩,.inr ⟨_,_,c1⟩⟩ c5 c7 kp
 rcases zz with hz|⟨T1,f1,hz⟩
 .exact fst hz (.inl rfl)
 .cases hT:s.heap.get? T1 with
  |none=>exact fst hz (.inr ⟨T1,rfl,hT⟩)
  |some o1=>
   have hty:s.TypeIs (.ref (I+5)) "zip" := ⟨_,hz,rfl⟩;simp only[Ed];refine Ah (Fj (Ca hty Cy (CN Cy hty Et (Z_1 (k:=i) b1 b2 b3 d1 d2 d3 hz zI hT ⟨i1,q1⟩ ⟨i2,q2⟩ ⟨i3,q3⟩ (lt hx) (lt hy) (lt hu) λx' y' u' h2 tk px py pu c1 c2 c3 c4 c5 c6 kp=>Av ?_) (Ec _))))
   rw[inj hx px,inj hy py,inj hu pu]at c5;exact go h2 tk ⟨kp _ _ (by simp) zI,c2.1,c3.1,c4.1,⟨a,b,c,kp _ _ (by simp) hO⟩,.inr ⟨T1,Aa,c1⟩⟩ c5 c6 (λc o nc q=>kp c o (λh=>nc (by simp only[z3w,At,AR,BO]at h ⊢;rcases h with h|h|h|h<;>simp[h])) q)
theorem qH{t1 t2 t3:Aj}{I l1 l2 l3 i:Ag}{xs:AY Ai}{Q:Ap Ai->As->Prop}(calm:A.handled=Ae)(b1:l1<I)(z:Z_3 t1 t2 t3 I l1 l2 l3 i s.heap)(q1:Cp t1 s.heap l1 xs)(hx:xs.size<=i)(go:∀ h2,(∀ c o,c∉z3w I->s.heap.get? c=Ab o->h2.get? c=Ab o)->Q Ae {s with heap:=h2}):AB (model prog w) A (Ed (.ref (I+5))) Q E s:=by
 obtain⟨zI,i1,i2,i3,zz⟩:=z;have calm':A.in1.handled=Ae:=calm;have d1:=IA (prog:=prog) (w:=w) calm' t1 (I+0) l1 (A1 b1) xs;have go':∀ h2 e,(∀ c o,c∉[I+0,I+5]->s.heap.get? c=Ab o->h2.get? c=Ab o)->(∃ o,h2.get? e=Ab o/\o.cls=.type "StopIteration")->AB (model prog w) A (isInstance (.ref e) (.type "StopIteration") >>= λb=>if b=Aa then pure Ae else throw (.ref e)) Q E {s with heap:=h2}:=λh2 e kp ⟨o,ho,hcl⟩=>
  Ah (HN (T := "StopIteration") (b:=Aa) ⟨o,ho,hcl⟩ Yx (Av (go h2 λc o nc q=>kp c o (λh=>nc (by simp only[z3w,At,AR,BO]at h ⊢;rcases h with h|h<;>simp[h])) q)))
 have fin:∀{f0 f1:Ai},ER s.heap (I+5) (I+3) (I+4) f0 f1->(f0=.none\/∃ T1:Ag,f0=Co T1/\s.heap.get? T1=Ae)->AB (model prog w) A (Ed (.ref (I+5))) Q E s:=λhz hf=>by
  have hty:s.TypeIs (.ref (I+5)) "zip" := ⟨_,hz,rfl⟩;simp only[Ed];exact Ah (Fj (Ca hty Cy (CN Cy hty Et (bV (k:=i) b1 d1 hz hf zI ⟨i1,q1⟩ hx λh2 e kp he=>go' h2 e kp he) (Ec _))))
 obtain⟨_,zz⟩:=zz;rcases zz with hz|⟨T1,f1,hz⟩
 .exact fin hz (.inl rfl)
 .cases hT:s.heap.get? T1 with
  |none=>exact fin hz (.inr ⟨T1,rfl,hT⟩)
  |some o1=>
   have hty:s.TypeIs (.ref (I+5)) "zip" := ⟨_,hz,rfl⟩;simp only[Ed];exact Ah (Fj (Ca hty Cy (CN Cy hty Et (Z_0 (k:=i) b1 d1 hz zI hT ⟨i1,q1⟩ hx λh2 e kp he=>go' h2 e kp he) (Ec _))))
end
section
variable{prog:AT}{w:AE}{A:Bc}{R:Ju->As->Prop}
def K8(I S:Ag)(xs ys us:AY Ai)(i:Ag)(acc:AY Ai)(h:AJ):Prop:=acc.size=i/\(∀ j,j<i->∃(a:Ag)(x y u:Ai),acc[j]?=Ab (.ref a)/\xs[j]?=Ab x/\ys[j]?=Ab y/\us[j]?=Ab u/\EG h a x y u/\I+5<a/\a≠S)/\∀(j1 j2 a:Ag),acc[j1]?=Ab (Dq a)->acc[j2]?=Ab (Dq a)->j1=j2
theorem Cp.at'{its:AY Ai}(z:Cp t h l its)(k:∀ o,h.get? l=Ab o->h2.get? l=Ab o):Cp t h2 l its:=by
 cases t with
 |true=>exact PySem.Heap.IsTuple.at z k
 |false=>exact PySem.Heap.IsList.at z k
theorem N9{I a:Ag}(h:I+5<a):a∉z3w I:=by
 intro z;simp only[z3w,At,AR,BO]at z;rcases z with z|z|z|z|z<;>· rw[z]at h;exact absurd h (FM.mpr (GW (by decide) I))
theorem NN{I l:Ag}(h:l<I):l∉z3w I:=by
 intro z;simp only[z3w,At,AR,BO]at z;rcases z with z|z|z|z|z<;>· rw[z]at h;exact absurd h (FM.mpr (Ep I _))
theorem Z_3.at'{t1 t2 t3:Aj}{I l1 l2 l3 i:Ag}{h h2:AJ}(z:Z_3 t1 t2 t3 I l1 l2 l3 i h)(k:∀ j,j<=5->∀ o,h.get? (I+j)=Ab o->h2.get? (I+j)=Ab o):Z_3 t1 t2 t3 I l1 l2 l3 i h2:=by
 obtain⟨zI,i1,i2,i3,⟨a,b,c,hO⟩,zz⟩:=z;exact⟨k 3 (by decide) _ zI,i1.at' λo q=>k 0 (by decide) o q,i2.at' λo q=>k 1 (by decide) o q,i3.at' λo q=>k 2 (by decide) o q,⟨a,b,c,k 4 (by decide) _ hO⟩,zz.imp (k 5 (by decide) _) λ⟨T1,f1,hz⟩=>⟨T1,f1,k 5 (by decide) _ hz⟩⟩
theorem hV{t1 t2 t3:Aj}{I l1 l2 l3 n:Ag}{xs:AY Ai}{res:Ai}(calm:A.handled=Ae)(b1:l1<I)(b2:l2<I)(b3:l3<I)(S:Ag)(hS:I+5<S)(n0:0<n)(nn:n<=1000)(e1:xs.size=n)(e2:ys.size=n)(e3:us.size=n):
  ∀(k i:Ag)(s:As)(acc:AY Ai)(c:Ag),n-i=k->i<=n->Z_3 t1 t2 t3 I l1 l2 l3 i s.heap->Cp t1 s.heap l1 xs->Cp t2 s.heap l2 ys->Cp t3 s.heap l3 us ->
  s.heap.get? S=Ab { cls:=.type "list",dict:=Ae,data:=.seq acc c,slots:=#[] }->K8 I S xs ys us i acc s.heap ->
  (∀ h2 acc2 c2 tk,(∀ d o,d∉z3w I->d≠S->s.heap.get? d=Ab o->h2.get? d=Ab o)->h2.get? S=Ab { cls:=.type "list",dict:=Ae,data:=.seq acc2 c2,slots:=#[] }->K8 I S xs ys us n acc2 h2->R (.ok (.ret res)) {s with heap:=h2,toks:=tk}) ->
  FP (model prog w) A (.builtin "list.extend.loop" ⟨[.ref S,.ref (I+5),res],[]⟩) R s:=by
 have calm':A.in1.handled=Ae:=calm;intro k
 induction k with
 |zero=>
  intro i s acc c hk hi hz q1 q2 q3 hSo hd hR;have ein:i=n:=Nat.le_antisymm hi (Nat.le_of_sub_eq_zero hk);subst ein;refine Fv XM ?_;rw[Ei Ey _];refine Ah (m:=Ed (.ref (I+5))) (qH calm' b1 hz q1 (Js e1) λh2 kp=>?_)
  exact Av (hR h2 acc c s.toks (λd o nd _ q=>kp d o nd q) (kp _ _ (N9 hS) hSo) ⟨hd.1,λj hj=>by
   obtain⟨a,x,y,u,r1,r2,r3,r4,r5,r6,r7⟩:=hd.2.1 j hj;exact⟨a,x,y,u,r1,r2,r3,r4,kp _ _ (N9 r6) r5,r6,r7⟩,hd.2.2⟩)
 |succ k ih=>
  intro i s acc c hk hi hz q1 q2 q3 hSo hd hR;have lt:i<n:=Nat.lt_of_sub_pos (by rw[hk];exact Nat.succ_pos _)
  have lx:i<xs.size:=by rw[e1];exact lt
  have ly:i<ys.size:=by rw[e2];exact lt
  have lu:i<us.size:=by rw[e3];exact lt
  refine Fv XM ?_;rw[Ei Ey _];refine Ah (m:=Ed (.ref (I+5))) (hJ calm' b1 b2 b3 hz q1 q2 q3 (BN lx) (BN ly) (BN lu) λh2 tk z2 tr sz kp=>?_)
  have hS2:=kp _ _ (N9 hS) hSo;refine Ah (m:=Im S _) ?_;have ot:∀(f:Dg->Dg) d o,d≠S->h2.get? d=Ab o->(h2.update S f).get? d=Ab o:=λf d o nd q=>(B6 _ _ (BA nd)).trans q
  have lS:I+5<s.heap.objs.size:=WV hS (Ax hSo);have nT:s.heap.objs.size≠S:=CJ (Ax hSo);have hS3:=B8 (Cd (·.push (.ref s.heap.objs.size))) hS2 rfl;have lne:∀{l:Ag},l<I->l≠S:=λh e=>by rw[e]at h;exact absurd (WV h (DU (Ep I 5) hS)) (Bu _)
  refine EK hS2 rfl (Av ⟨Ga Ey _,ih (i+1) {s with heap:=h2.update S (Cd (·.push (.ref s.heap.objs.size))),toks:=tk} _ _ (by omega) lt (z2.at' λj hj o q=>ot _ _ o (λe=>by rw[<-e]at hS;exact absurd hS (FM.mpr (GW hj I))) q) ?_ ?_ ?_ hS3 ⟨by rw[Wq,hd.1],λj hj=>?_,?_⟩ λh4 acc4 c4 tk4 kp4 hS4 hd4=>hR h4 acc4 c4 tk4 (λd o nd ns q=>kp4 d o nd ns (ot _ d o ns (kp d o nd q))) hS4 hd4⟩) ?_ ?_
  .exact q1.at' λo q=>ot _ _ o (lne b1) (kp _ o (NN b1) q)
  .exact q2.at' λo q=>ot _ _ o (lne b2) (kp _ o (NN b2) q)
  .exact q3.at' λo q=>ot _ _ o (lne b3) (kp _ o (NN b3) q)
  .by_cases ej:j=i
   .subst ej;exact⟨s.heap.objs.size,_,_,_,by rw[GR,AI hd.1.symm],BN lx,BN ly,BN lu,ot _ _ _ nT tr,lS,nT⟩
   .obtain⟨a,x,y,u,r1,r2,r3,r4,r5,r6,r7⟩:=hd.2.1 j (Nat.lt_of_le_of_ne (Nat.le_of_lt_succ hj) ej);exact⟨a,x,y,u,by rw[GR,AV (by rw[hd.1];exact ej)];exact r1,r2,r3,r4,ot _ _ _ r7 (kp _ _ (N9 r6) r5),r6,r7⟩
  .have old:∀(j a:Ag),acc[j]?=Ab (Dq a)->a<s.heap.objs.size:=λj a e=>by
    have hj:j<i:=by rw[<-hd.1];exact(Ff.mp e).1
    obtain⟨a',x,y,u,r1,r2,r3,r4,r5,r6,r7⟩:=hd.2.1 j hj;rw[e]at r1;cases r1;exact Ax r5
   intro j1 j2 a q1 q2;rw[GR]at q1 q2;split at q1
   .split at q2
    .omega
    .cases q1;exact absurd (old _ _ q2) (Bu _)
   .split at q2
    .cases q2;exact absurd (old _ _ q1) (Bu _)
    .exact hd.2.2 _ _ _ q1 q2
  .rw[hd.1];exact Cb (Cb hi nn) (by decide)
  .show (acc.push _).size<=sizeLine+1;rw[Wq,hd.1];exact Cb (WY (Cb hi nn)) (by decide)
end
theorem ZZ(a b c:Ai):checkTypeCall "zip" ⟨[a,b,c],[]⟩=pure ():=by kernel_rfl
theorem bW(a b c:Ai):Yv "zip.__new__" ⟨[.type "zip",a,b,c],[]⟩=pure ():=by kernel_rfl
theorem tT(a b c d:Ai):argsOk "object.__init__" ⟨[a,b,c,d],[]⟩:=by
 unfold argsOk;rw[signature?_of (id := "object.__init__") (n:=['_','_','t','i','n','i','_','_']) (o:=['t','c','e','j','b','o']) (by kernel_rfl) F.owner_object];kernel_rfl
section
variable{prog:AT}{w:AE}{A:Bc}{E:Vq}{s:As}
noncomputable abbrev yh3(t1 t2 t3:Aj)(h:AJ)(l1 l2 l3:Am):AJ:=((h.push (itO t1 l1)).push (itO t2 l2)).push (itO t3 l3)
noncomputable abbrev yh4(t1 t2 t3:Aj)(h:AJ)(l1 l2 l3:Am):AJ:=(yh3 t1 t2 t3 h l1 l2 l3).push { cls:=.type "tuple",data:=.seq #[.ref h.objs.size,.ref (h.push (itO t1 l1)).objs.size,.ref ((h.push (itO t1 l1)).push (itO t2 l2)).objs.size] }
noncomputable abbrev yh5(t1 t2 t3:Aj)(h:AJ)(l1 l2 l3:Am):AJ:=(yh4 t1 t2 t3 h l1 l2 l3).push { cls:=.type "tuple",data:=.seq #[.none,.none,.none] }
noncomputable abbrev yh6(t1 t2 t3:Aj)(h:AJ)(l1 l2 l3:Am):AJ:=(yh5 t1 t2 t3 h l1 l2 l3).push { cls:=.type "zip",data:=.fields #[.none,.bool Af,.bool Af,.ref (yh3 t1 t2 t3 h l1 l2 l3).objs.size,.ref (yh4 t1 t2 t3 h l1 l2 l3).objs.size] }
theorem bU(t1 t2 t3:Aj)(l1 l2 l3:Am)(xs ys us:AY Ai):Meets (Builtin.«zip.__new__» ⟨[.type "zip",.ref l1,.ref l2,.ref l3],[]⟩) (λ_ R s=>Cp t1 s.heap l1 xs/\Cp t2 s.heap l2 ys/\Cp t3 s.heap l3 us/\R (.ok (.ret (.ref (yh5 t1 t2 t3 s.heap l1 l2 l3).objs.size))) {s with heap:=yh6 t1 t2 t3 s.heap l1 l2 l3}):=
 .of_wp λprog w A R s h=>by
  obtain⟨hp,g,d,tk,os⟩:=s;obtain⟨a1,a2,a3,q⟩:=h;have hsub:=sub_zip;have L1:Cp t1 (F5 ⟨hp,g,d,tk,os⟩) l1 xs:=a1;have L2:Cp t2 (F5 ⟨hp.push (itO t1 l1),g,d,tk,os⟩) l2 ys:=a2.push _;have L3:Cp t3 (F5 ⟨(hp.push (itO t1 l1)).push (itO t2 l2),g,d,tk,os⟩) l3 us:=(a3.push _).push _
  wp_walk using JL L1,JL L2,JL L3
  exact⟨_,rfl,q⟩
theorem Z_2{t1 t2 t3:Aj}{l1 l2 l3:Am}{xs:AY Ai}{Q:Vq}(a1:Cp t1 s.heap l1 xs)(a2:Cp t2 s.heap l2 ys)(a3:Cp t3 s.heap l3 us)(q:∀ h2,Z_3 t1 t2 t3 s.heap.objs.size l1 l2 l3 0 h2->h2.objs.size=s.heap.objs.size+6->(∀ c o,s.heap.get? c=Ab o->h2.get? c=Ab o)->Q (.ref (s.heap.objs.size+5)) {s with heap:=h2}):AB (model prog w) A (call (.type "zip") [.ref l1,.ref l2,.ref l3]) Q E s:=by
 refine Jw XJ (by decide) (ZZ _ _ _) (bW _ _ _) (λobj=>tT obj _ _ _) XS (bU t1 t2 t3 l1 l2 l3 xs ys us) ⟨a1,a2,a3,?_⟩
 have s1:(s.heap.push (itO t1 l1)).objs.size=s.heap.objs.size+1:=Bm ..;have s2:((s.heap.push (itO t1 l1)).push (itO t2 l2)).objs.size=s.heap.objs.size+2:=by rw[Bm,s1]
 have s3:(yh3 t1 t2 t3 s.heap l1 l2 l3).objs.size=s.heap.objs.size+3:=by rw[Bm,s2]
 have s4:(yh4 t1 t2 t3 s.heap l1 l2 l3).objs.size=s.heap.objs.size+4:=by rw[Bm,s3]
 have s5:(yh5 t1 t2 t3 s.heap l1 l2 l3).objs.size=s.heap.objs.size+5:=by rw[Bm,s4]
 have s6:(yh6 t1 t2 t3 s.heap l1 l2 l3).objs.size=s.heap.objs.size+6:=by rw[Bm,s5]
 have u6:∀ {c o},(yh5 t1 t2 t3 s.heap l1 l2 l3).get? c=Ab o->(yh6 t1 t2 t3 s.heap l1 l2 l3).get? c=Ab o:=λe=>Ar _ e
 have u5:∀ {c o},(yh4 t1 t2 t3 s.heap l1 l2 l3).get? c=Ab o->(yh6 t1 t2 t3 s.heap l1 l2 l3).get? c=Ab o:=λe=>u6 (Ar _ e)
 have u4:∀ {c o},(yh3 t1 t2 t3 s.heap l1 l2 l3).get? c=Ab o->(yh6 t1 t2 t3 s.heap l1 l2 l3).get? c=Ab o:=λe=>u5 (Ar _ e)
 have u3:∀ {c o},((s.heap.push (itO t1 l1)).push (itO t2 l2)).get? c=Ab o->(yh6 t1 t2 t3 s.heap l1 l2 l3).get? c=Ab o:=λe=>u4 (Ar _ e)
 have u2:∀ {c o},(s.heap.push (itO t1 l1)).get? c=Ab o->(yh6 t1 t2 t3 s.heap l1 l2 l3).get? c=Ab o:=λe=>u3 (Ar _ e)
 have g6:(yh6 t1 t2 t3 s.heap l1 l2 l3).get? (yh5 t1 t2 t3 s.heap l1 l2 l3).objs.size=Ab _:=Aw _ rfl;have g5:(yh6 t1 t2 t3 s.heap l1 l2 l3).get? (yh4 t1 t2 t3 s.heap l1 l2 l3).objs.size=Ab _:=u6 (Aw _ rfl);have g4:(yh6 t1 t2 t3 s.heap l1 l2 l3).get? (yh3 t1 t2 t3 s.heap l1 l2 l3).objs.size=Ab _:=u5 (Aw _ rfl);have g3:(yh6 t1 t2 t3 s.heap l1 l2 l3).get? ((s.heap.push (itO t1 l1)).push (itO t2 l2)).objs.size=Ab _:=u4 (Aw _ (KM _ _));have g2:(yh6 t1 t2 t3 s.heap l1 l2 l3).get? (s.heap.push (itO t1 l1)).objs.size=Ab _:=u3 (Aw _ (KM _ _));have g1:(yh6 t1 t2 t3 s.heap l1 l2 l3).get? s.heap.objs.size=Ab _:=u2 (Aw _ (KM _ _));show _/\_;rw[s3,s4,s5]at g6;rw[s4]at g5;rw[s1,s2,s3]at g4;rw[s2]at g3;rw[s1]at g2;rw[s5];exact⟨⟨_,g6,rfl⟩,q _ ⟨g4,K5 g1,K5 g2,K5 g3,⟨_,_,_,g5⟩,.inl g6⟩ s6 λc o e=>u2 (Ar _ e)⟩
end
theorem Z_5:HA (.type "zip") "__len__" = pure Ae:=by rw[GI,E1];kernel_rfl
theorem ZN:HA (.type "zip") "__length_hint__" = pure Ae:=by rw[GI,E1];kernel_rfl
theorem Z_3.ty{t1 t2 t3:Aj}{I l1 l2 l3 i:Ag}(z:Z_3 t1 t2 t3 I l1 l2 l3 i s.heap):s.TypeIs (.ref (I+5)) "zip" := by
 obtain⟨_,_,_,_,_,hz|⟨_,_,hz⟩⟩:=z
 .exact⟨_,hz,rfl⟩
 .exact⟨_,hz,rfl⟩
theorem Z_3.lt{t1 t2 t3:Aj}{I l1 l2 l3 i:Ag}(z:Z_3 t1 t2 t3 I l1 l2 l3 i s.heap):I+5<s.heap.objs.size:=by
 obtain⟨o,h,_⟩:=z.ty;exact Ax h
theorem hU{t1 t2 t3:Aj}{I l1 l2 l3 i:Ag}(z:Z_3 t1 t2 t3 I l1 l2 l3 i h):Z_3 t1 t2 t3 I l1 l2 l3 i (h.push o):=by
 have k:∀ {c u},h.get? c=Ab u->(h.push o).get? c=Ab u:=λq=>Ar _ q
 obtain⟨zI,i1,i2,i3,zz⟩:=z;refine⟨k zI,i1.at' λo q=>k q,i2.at' λo q=>k q,i3.at' λo q=>k q,?_⟩
 obtain⟨⟨a,b,c,hO⟩,zz⟩:=zz;refine⟨⟨a,b,c,k hO⟩,?_⟩;rcases zz with hz|⟨T1,f1,hz⟩
 .exact .inl (k hz)
 .exact .inr ⟨T1,f1,k hz⟩
section
variable{prog:AT}{w:AE}{A:Bc}{E:Vq}{s:As}
theorem bR{z:Am}{Q:Vq}(hT:s.TypeIs (.ref z) "zip")(h:Q (.ref z) s):AB (model prog w) A (Kz (.ref z)) Q E s:=by
 refine wpAny_pyIter_slot hT XY (CN XY hT F.entry_zip_iter ?_ (F.args_zip_iter_1 _));show AB _ _ (ret (.ref z)) _ _ s;exact Av ⟨_,rfl, "zip",_,hT,F.slot_zip_next.lookup,h⟩
theorem Z_7{t1 t2 t3:Aj}{I l1 l2 l3 n:Ag}{xs:AY Ai}{Q:Ac Ai->As->Prop}(calm:A.handled=Ae)(b1:l1<I)(b2:l2<I)(b3:l3<I)(n0:0<n)(nn:n<=1000)(e1:xs.size=n)(e2:ys.size=n)(e3:us.size=n)(hz:Z_3 t1 t2 t3 I l1 l2 l3 0 s.heap)(q1:Cp t1 s.heap l1 xs)(q2:Cp t2 s.heap l2 ys)(q3:Cp t3 s.heap l3 us)(hQ:∀ h2 acc tk,(∀ d o,d∉z3w I->s.heap.get? d=Ab o->h2.get? d=Ab o)->K8 I s.heap.objs.size xs ys us n acc h2->Q acc.toList {s with heap:=h2,toks:=tk}):AB (model prog w) A (collect (.ref (I+5))) Q E s:=by
  have lt:=hz.lt;have hSI:s.heap.objs.size≠I+5:=CJ lt;unfold collect;refine Ah (wpAny_runValue (Fv F.entry_proto_collect ?_));rw[Ei F.plain_proto_collect _];show AB _ A.in1 (newList [] >>= λl=>again (.builtin "list.__iadd__" ⟨[l,.ref (I+5)],[]⟩)) _ _ s
  refine Ah (CI ?_);refine Av ⟨Ga XU _,Fv F.entry_list_iadd ?_⟩;rw[Ei XU _];have hz1:Z_3 t1 t2 t3 I l1 l2 l3 0 (s.heap.push { cls:=.type "list",data:=.seq ([]:Ac Ai).toArray }):=hU hz;have ty1:Shared.TypeIs { s with heap:=s.heap.push { cls:=.type "list",data:=.seq ([]:Ac Ai).toArray } } (.ref (I+5)) "zip" := Z_3.ty (s:={ s with heap:=s.heap.push { cls:=.type "list",data:=.seq ([]:Ac Ai).toArray } }) hz1
  show AB _ A.in1 (Dp (.ref s.heap.objs.size) (.ref (I+5)) (.ref s.heap.objs.size)) _ _ _;unfold Dp;refine Ah (wpAny_typeOf ty1 ?_);have h1:Er (.ref s.heap.objs.size) (.ref (I+5))=Af:=by simp[Er,hSI]
  have h2:(Ek "zip" == Ek "list")=Af:=by decide
  have h3:(Ek "zip" == Ek "tuple")=Af:=by decide
  simp only[h1,h2,h3,Fh,FA,Gn];refine Ah (bR ty1 ?_);refine Ah (Ck ?_);unfold W8;refine Ah (Fx ty1 Z_5 ?_);show AB _ A.in1 (specialOf (Dq (I+5)) (AN "__length_hint__") >>= _) _ _ _;refine Ah (Fx ty1 ZN ?_);refine Av ?_;show AB _ A.in1 (rule "list.extend.makes-room" >>= λ_=>Builtin.List.listTouch (.ref s.heap.objs.size) >>= λ_=>
    again (.builtin "list.extend.loop" ⟨[.ref s.heap.objs.size,.ref (I+5),.ref s.heap.objs.size],[]⟩)) _ _ _
  refine Ah (GJ ?_);have hS₁:(s.heap.push { cls:=.type "list",data:=.seq ([]:Ac Ai).toArray }).get? s.heap.objs.size=Ab { cls:=.type "list",data:=.seq ([]:Ac Ai).toArray }:=Aw _ rfl;refine Ah ?_;show AB _ A.in1 (Im s.heap.objs.size (·.push .none) >>= λ_=>Im s.heap.objs.size (·.pop)) _ _ _
  refine Ah (EK hS₁ rfl ?_);have hS₂:=B8 (Cd (·.push Dt)) hS₁ rfl;refine EK hS₂ rfl ?_;have hS₃:=B8 (Cd (·.pop)) hS₂ rfl;have oth:∀ b o,b≠s.heap.objs.size->(s.heap.push { cls:=.type "list",data:=.seq ([]:Ac Ai).toArray }).get? b=Ab o ->
      (((s.heap.push { cls:=.type "list",data:=.seq ([]:Ac Ai).toArray }).update s.heap.objs.size (Cd (·.push Dt))).update s.heap.objs.size (Cd (·.pop))).get? b=Ab o:=
    λb o hb e=>(B6 _ _ (BA hb)).trans ((B6 _ _ (BA hb)).trans e)
  have oth':∀ b o,s.heap.get? b=Ab o->(((s.heap.push { cls:=.type "list",data:=.seq ([]:Ac Ai).toArray }).update s.heap.objs.size (Cd (·.push Dt))).update s.heap.objs.size (Cd (·.pop))).get? b=Ab o:=
    λb o e=>oth b o (A1 (Ax e)) (Ar _ e)
  refine Av ⟨Ga Ey _,hV calm b1 b2 b3 s.heap.objs.size lt n0 nn e1 e2 e3 n 0 _ _ _ rfl (Em _) (hz1.at' λj hj o q=>oth _ o (λe=>by rw[<-e]at lt;exact absurd lt (FM.mpr (GW hj I))) q) (q1.at' λo e=>oth' _ o e) (q2.at' λo e=>oth' _ o e) (q3.at' λo e=>oth' _ o e) hS₃ ⟨rfl,λj hj=>absurd hj (Ft _),λj1 j2 a e=>by simp[Cd]at e⟩ λh2 acc c tk kp hS hd=>?_⟩
  show AB _ A (load s.heap.objs.size >>= _) _ _ _;refine Ah (wpAny_load hS ?_);exact Av (hQ h2 acc tk (λd o nd e=>kp d o nd (A1 (Ax e)) (oth' d o e)) hd)
theorem iA{t1 t2 t3:Aj}{I l1 l2 l3 n:Ag}{xs:AY Ai}{Q₁:Vq}(calm:A.handled=Ae)(b1:l1<I)(b2:l2<I)(b3:l3<I)(n0:0<n)(nn:n<=1000)(e1:xs.size=n)(e2:ys.size=n)(e3:us.size=n)(hz:Z_3 t1 t2 t3 I l1 l2 l3 0 s.heap)(q1:Cp t1 s.heap l1 xs)(q2:Cp t2 s.heap l2 ys)(q3:Cp t3 s.heap l3 us)(h:∀ h2 acc tk,(∀ d o,d∉z3w I->s.heap.get? d=Ab o->h2.get? d=Ab o)->K8 I s.heap.objs.size xs ys us n acc h2->Q₁ (.ref h2.objs.size) { s with heap:=h2.push { cls:=.type "tuple",data:=.seq acc },toks:=tk }):
  FP (model prog w) A (.call (.builtin "tuple.__new__") ⟨[.type "tuple",.ref (I+5)],[]⟩) (wants Q₁ E) s:=by
 refine codeAny_of_tree ?_;show AB _ A.in1 (do Yv "tuple.__new__" ⟨[.type "tuple",.ref (I+5)],[]⟩;again (.builtin "tuple.__new__" ⟨[.type "tuple",.ref (I+5)],[]⟩)) _ _ s
 refine Ah (wpAny_of_eq (F.newCall_tuple_1 _) (Av ⟨Ga XV _,Fv F.entry_tuple_new ?_⟩));rw[Ei XV _];have hsub:=sub_tuple_self;have hinit:=init_tuple_lookup;have hmh:=madeHere_tuple;have hTI:=hz.ty;have calm2:A.in1.handled=Ae:=calm
 wp_walk using wpAny_typeOf hTI,Z_7 calm2 b1 b2 b3 n0 nn e1 e2 e3 hz q1 q2 q3
 intro h2 acc tk kp hd;show AB _ _ (Dc acc.toList.toArray >>= λv=>ret v) _ _ _
 unfold Dc;refine Ah (CI ?_ (by show acc.toList.toArray.size<=sizeLine;simp only[Gv];rw[hd.1,DT];omega))
 refine Av ?_;have e:acc.toList.toArray=acc:=by simp
 rw[e];exact h h2 acc tk kp hd
theorem bD{t1 t2 t3:Aj}{I l1 l2 l3 n:Ag}{xs:AY Ai}{Q:Vq}(calm:A.handled=Ae)(b1:l1<I)(b2:l2<I)(b3:l3<I)(n0:0<n)(nn:n<=1000)(e1:xs.size=n)(e2:ys.size=n)(e3:us.size=n)(hz:Z_3 t1 t2 t3 I l1 l2 l3 0 s.heap)(q1:Cp t1 s.heap l1 xs)(q2:Cp t2 s.heap l2 ys)(q3:Cp t3 s.heap l3 us)(h:∀ h2 acc tk,(∀ d o,d∉z3w I->s.heap.get? d=Ab o->h2.get? d=Ab o)->K8 I s.heap.objs.size xs ys us n acc h2->Q (.ref h2.objs.size) { s with heap:=h2.push { cls:=.type "tuple",data:=.seq acc },toks:=tk }):
  AB (model prog w) A (call (.type "tuple") [.ref (I+5)]) Q E s:=by
 refine Yt (Q₁:=λobj s₁=>s₁.TypeIs obj "tuple"/\Q obj s₁) F.called_tuple (F.typeCall_tuple_1 _) F.entry_object_init
  (iA (by exact calm) b1 b2 b3 n0 nn e1 e2 e3 hz q1 q2 q3 λh2 acc tk kp hd=>⟨⟨_,Aw _ rfl,rfl⟩,h h2 acc tk kp hd⟩) λobj s₁ h₁=>?_
 exact⟨h₁.1,XG obj _,object_init_meets F.called_tuple.init.lookup F.called_tuple.made (by decide) prog w A.in1 _ s₁ ⟨h₁.1,rfl,h₁.2⟩⟩
end
noncomputable def IF(H:Hp)(ps:Ac (Am×Ac V)):Hp:=λb=>match ps.lookup b with
  |some xs=>Ab (.tup xs)
  |none=>H b
theorem Vy(h:ps.lookup a=Ab xs):(a,xs)∈ps:=by
 induction ps with
 |nil=>cases h
 |cons p ps ih=>
  obtain⟨b,ys⟩:=p;rw[B4]at h;split at h
  .rename_i e;cases h;rw[BD]at e;subst e;exact Az
  .exact Au _ (ih h)
theorem Ub(h:∀ p∈ps,p.1≠b):IF H ps b=H b:=by
 unfold IF;cases e:ps.lookup b with
 |none=>rfl
 |some xs=>exact absurd rfl (h _ (Vy e))
theorem cS(ps:Ac (Am×Ac V))(I:Inv X pI Z H s)(k:∀ b u,s.heap.get? b=Ab u->h'.get? b=Ab u)(hp:∀ p∈ps,s.heap.objs.size<=p.1)(new:∀ p∈ps,p.2.length<=sizeLine/\∃ its:Ac Ai,Bi p.2 its/\JQ h' p.1 its.toArray):Inv X pI Z (IF H ps) {s with heap:=h',toks:=t'}:=by
 have old:∀ b,b<s.heap.objs.size->IF H ps b=H b:=λb hb=>Ub λp hq e=>by
  have:=hp p hq;rw[e]at this;exact absurd hb (FM.mpr this)
 have hl:∀ b o,H b=Ab o->IF H ps b=Ab o:=λb o q=>by rw[old b (I.hok.lt q)];exact q
 refine I.un ⟨λb u q _ _ _=>k b u q,λb u q _ _ _=>⟨u.slots,k b u q⟩,λb u q n _=>by rw[old b (Ax q)];exact n,λb u q _=>⟨u,k b u q⟩,λb xs q=>hl b _ q,λb u xs q=>hl b _ q,λb xs q=>⟨#[],by rw[hl b _ q];simp⟩⟩ λb u e=>?_
 unfold IF at e;split at e
 .rename_i xs hx;cases e;exact new _ (Vy hx)
 .exact(I.hok b u e).stay (λc v _ q=>k c v q) (λc q=>hl c _ q) λc xs q=>hl c _ q
noncomputable def Ho:Ac V->Ac V->Ac V->Ac (Ac V)
 |x::xs,y::ys,u::us=>[x,y,u]::Ho xs ys us
 |_,_,_=>[]
theorem SU:∀(xs ys us:Ac V)(j:Ag)(r:Ac V),(Ho xs ys us)[j]?=Ab r->∃ x y u,xs[j]?=Ab x/\ys[j]?=Ab y/\us[j]?=Ab u/\r=[x,y,u]
 |[],_,_,j,r,h=>by simp[Ho]at h
 |_::_,[],_,j,r,h=>by simp[Ho]at h
 |_::_,_::_,[],j,r,h=>by simp[Ho]at h
 |x::xs,y::ys,u::us,0,r,h=>by
  simp only[Ho,EA,Cc]at h;exact⟨x,y,u,rfl,rfl,rfl,h.symm⟩
 |x::xs,y::ys,u::us,j+1,r,h=>by
  simp only[Ho,Ez]at h ⊢;exact SU xs ys us j r h
theorem MK{α β:Type}:∀{as:Ac α}{bs:Ac β}{a:α}{b:β},(a,b)∈as.zip bs->∃ j:Ag,as[j]?=Ab a/\bs[j]?=Ab b
 |[],_,_,_,h=>by simp at h
 |_::_,[],_,_,h=>by simp at h
 |x::as,y::bs,a,b,h=>by
  simp only[Ha,At,Jn]at h;rcases h with ⟨rfl,rfl⟩|h
  .exact⟨0,rfl,rfl⟩
  .obtain⟨j,h1,h2⟩:=MK h;exact⟨j+1,h1,h2⟩
def YR(K:Fg)(ta:TA):TE:=λZ H Q=>ta Z H λvs H1=>∃ t1 t2 t3 a b c xs ys us,vs=[.ref a,.ref b,.ref c]/\SqX t1 K H1 a xs/\SqX t2 K H1 b ys/\SqX t3 K H1 c us/\0<xs.length/\xs.length<=1000/\ys.length=xs.length/\us.length=xs.length /\
 ∀(as:Ac Am)(T:Am),as.length=xs.length->as.Nodup->(∀ p∈as,H1 p=Ae)->T∉as->H1 T=Ae->Q (.ref T) (IF H1 ((T,as.map .ref)::as.zip (Ho xs ys us)))
theorem fB{I S:Ag}{xs:AY Ai}(d:K8 I S xs ys us n acc h):∃ as:Ac Am,acc.toList=as.map Dq/\as.length=n/\as.Nodup/\∀(j:Ag)(a:Am),as[j]?=Ab a->∃ x y u,xs[j]?=Ab x/\ys[j]?=Ab y/\us[j]?=Ab u/\EG h a x y u/\I+5<a:=by
  obtain⟨hn,hj,inj⟩:=d
  let f:Ai->Am:=λv=>match v with
    |.ref a=>a
    |_=>0
  have hg:∀ j v,acc.toList[j]?=Ab v->∃(a:Ag)(x y u:Ai),v=Dq a/\xs[j]?=Ab x/\ys[j]?=Ab y/\us[j]?=Ab u/\EG h a x y u/\I+5<a:=λj v e=>by
    rw[Go]at e;have lt:j<n:=by rw[<-hn];exact(Ff.mp e).1
    obtain⟨a,x,y,u,r1,r2,r3,r4,r5,r6,_⟩:=hj j lt;rw[e]at r1;cases r1;exact⟨a,x,y,u,rfl,r2,r3,r4,r5,r6⟩
  have hf:∀ v∈acc.toList,Dq (f v)=v:=λv hv=>by
    obtain⟨j,hj⟩:=WF hv;obtain⟨a,_,_,_,rfl,_⟩:=hg j v hj;rfl
  have hm:acc.toList=(acc.toList.map f).map Dq:=by
    rw[DC]
    conv=>lhs;rw[<-List.map_id acc.toList]
    exact DP λv hv=>(hf v hv).symm
  refine⟨acc.toList.map f,hm,by rw[AZ,DN,hn],?_,λj a e=>?_⟩
  · rw[WS,WT];intro i j hi hj' lt e;rw[AZ,DN]at hi hj';have at':∀(k:Ag)(hk:k<acc.size)(hk':k<(acc.toList.map f).length),acc[k]?=Ab (Dq (acc.toList.map f)[k]):=λk hk hk'=>by
      rw[BN hk,List.getElem_map,hf _ (CB _),Array.getElem_toList]
    have:=inj i j _ (at' i hi _) (by rw[e];exact at' j hj' _)
    omega
  · rw[DH,Option.map_eq_some_iff]at e;obtain⟨v,hv,rfl⟩:=e;obtain⟨a,x,y,u,rfl,r⟩:=hg j v hv;exact⟨x,y,u,r⟩
theorem uG{a b:An}{p':A7}(hc:X.calm=Aa)(hg:Gl X "tuple")(hm:X.mg "tuple" = Ae)(hg':Gl X "zip")(hm':X.mg "zip" = Ae)(ha:PA X [a,b,c] ta)(hs:AF [a,b,c] X.env=[(Af,eval a X.env),(Af,eval b X.env),(Af,eval c X.env)])(hs2:AF [b,c] X.env=[(Af,eval b X.env),(Af,eval c X.env)]):
    PE X (.Call (.Name "tuple" p) [.Call (.Name "zip" p') [a,b,c] [] pos'] [] pos) (YR X.K ta):=by
  intro pI s Z H Q I h;refine IR (HW I hg hm FS (BR ?_ rfl rfl));show AB _ _ (spliced ((Af,eval (.Call (.Name "zip" p') [a,b,c] [] pos') X.env)::C4 pos (AF [] X.env))) _ _ s;refine Hc ?_;refine IR (HW I hg' hm' W1 (BR (thn (ha pos' pI s Z H _ I h) λus s1 ⟨vs,H1,I1,r1,q1⟩=>?_) (by rw[hs,hs2]) (by rw[hs2];rfl)))
  obtain⟨t1,t2,t3,l1,l2,l3,xs,ys,zs,e,sx,sy,sz,n0,nn,ey,ez,q⟩:=q1;subst e;cases r1 with
  |cons r rr=>
    cases rr with
    |cons r' rr=>
      cases rr with
      |cons r'' rr=>
        cases rr;cases r;cases r';cases r'';obtain⟨xv,rx,ix,_⟩:=Hn I1 sx;obtain⟨yv,ry,iy,_⟩:=Hn I1 sy;obtain⟨zv,rz,iz,_⟩:=Hn I1 sz;refine Z_2 ix iy iz λh2 z hsz kp=>Hx ?_
        have lx:=rx.length;have ly:=ry.length;have lz:=rz.length;refine bD (s:={s1 with heap:=h2}) (n:=xs.length) (I1.ok.hd hc) ix.lt iy.lt iz.lt n0 nn (by simp[lx]) (by simp[<-ly,ey]) (by simp[<-lz,ez]) z (ix.at' λo e=>kp _ o e) (iy.at' λo e=>kp _ o e) (iz.at' λo e=>kp _ o e) λh3 acc tk kp3 dr=>?_
        obtain⟨as,e1,e2,nd,each⟩:=fB dr;have nw:∀ b,b<s1.heap.objs.size->b∉z3w s1.heap.objs.size:=λb hb=>NN hb
        have kp4:∀ b o,s1.heap.get? b=Ab o->(h3.push { cls:=.type "tuple",data:=.seq acc }).get? b=Ab o:=λb o e=>Ar _ (kp3 b o (nw b (Ax e)) (kp b o e))
        have big:∀ a∈as,s1.heap.objs.size<=a/\a<h3.objs.size:=λa ha=>by
          obtain⟨j,hj⟩:=WF ha;obtain⟨x,y,u,_,_,_,tr,lt⟩:=each j a hj;exact⟨EW (DU (Ep _ 5) lt),Ax tr⟩
        have b3:s1.heap.objs.size<=h3.objs.size:=by
          obtain⟨a,ha⟩:∃ a,a∈as:=List.exists_mem_of_length_pos (by rw[e2];exact n0)
          exact EW (DU (big a ha).1 (big a ha).2)
        refine⟨.ref h3.objs.size,_,cS (s:=s1) (h':=h3.push { cls:=.type "tuple",data:=.seq acc }) (t':=tk) ((h3.objs.size,as.map V.ref)::as.zip (Ho xs ys zs)) I1 kp4 (λp hp=>?_) (λp hp=>?_),rfl,q as h3.objs.size e2 nd (λp hp=>I1.hok.fresh (big p hp).1) (λhT=>absurd (big _ hT).2 (Bu _)) (I1.hok.fresh b3)⟩
        · rcases At.mp hp with rfl|hp
          · exact b3
          · obtain⟨j,h1,h2⟩:=MK (a:=p.1) (b:=p.2) hp;exact(big _ (DD h1)).1
        · rcases At.mp hp with rfl|hp
          · refine⟨by rw[AZ,e2,DT];omega,as.map Dq,?_,?_⟩
            · clear q each big hp e1 e2 nd
              induction as with
              |nil=>exact .nil
              |cons a as ih=>exact .cons rfl ih
            · rw[<-e1,Gv];exact Jt _ _
          · obtain⟨j,h1,h2⟩:=MK (a:=p.1) (b:=p.2) hp;obtain⟨x,y,u,g1,g2,g3,er⟩:=SU _ _ _ _ _ h2;obtain⟨x',y',u',k1,k2,k3,tr,_⟩:=each j _ h1;obtain⟨x2,m1,w1⟩:=rx.get g1;obtain⟨y2,m2,w2⟩:=ry.get g2;obtain⟨u2,m3,w3⟩:=rz.get g3;rw[Gr]at k1 k2 k3;cases m1.symm.trans k1;cases m2.symm.trans k2;cases m3.symm.trans k3;rw[er];exact⟨by show 3<=sizeLine;decide,[x',y',u'],.cons w1 (.cons w2 (.cons w3 .nil)),⟨_,Ar _ tr,rfl,_,rfl⟩⟩
theorem R7{K:Fg}{CL:ClA}{H H3:Hp}{A:Am->Prop}(hA:AOk H A)(sm:AM H H3):∀{as:Ac Am}{xs ys us:Ac V}{ds es fs:Ac D},(∀(j:Ag)(a:Am)(r:Ac V),as[j]?=Ab a->(Ho xs ys us)[j]?=Ab r->H3 a=Ab (.tup r))->(∀ p∈as,H p=Ae)->as.length=xs.length->ys.length=xs.length->us.length=xs.length->Reps K CL H A xs ds->Reps K CL H A ys es->Reps K CL H A us fs->Reps K CL H3 A (as.map .ref) (Qy ds es fs)
 |[],[],[],[],[],[],[],_,_,_,_,_,_,_,_=>trivial
 |a::as,x::xs,y::ys,u::us,d::ds,e::es,f::fs,h,hn,l1,l2,l3,r1,r2,r3=>
  ⟨⟨a,[x,y,u],rfl,.inl (hA.new (hn a Az)),SqT.of (h 0 a _ rfl rfl),r1.1.same sm,r2.1.same sm,r3.1.same sm,trivial⟩,
   R7 hA sm (λj a' r p q=>h (j+1) a' r p q) (λp hp=>hn p (Au _ hp)) (HK l1) (HK l2) (HK l3) r1.2 r2.2 r3.2⟩
 |[],_::_,_,_,_,_,_,_,_,l,_,_,_,_,_=>nomatch l
 |_::_,[],_,_,_,_,_,_,_,l,_,_,_,_,_=>nomatch l
 |_,[],_::_,_,_,_,_,_,_,_,l,_,_,_,_=>nomatch l
 |_,[],_,_::_,_,_,_,_,_,_,_,l,_,_,_=>nomatch l
 |_,_::_,[],_,_,_,_,_,_,_,l,_,_,_,_=>nomatch l
 |_,_::_,_,[],_,_,_,_,_,_,_,l,_,_,_=>nomatch l
 |_,[],_,_,_::_,_,_,_,_,_,_,_,r,_,_=>r.elim
 |_,_::_,_,_,[],_,_,_,_,_,_,_,r,_,_=>r.elim
 |_,_,[],_,_,_::_,_,_,_,_,_,_,_,r,_=>r.elim
 |_,_,_::_,_,_,[],_,_,_,_,_,_,_,r,_=>r.elim
 |_,_,_,[],_,_,_::_,_,_,_,_,_,_,_,r=>r.elim
 |_,_,_,_::_,_,_,[],_,_,_,_,_,_,_,r=>r.elim
theorem Vx:∀{as:Ac Am}{rs:Ac (Ac V)}{j:Ag}{a:Am}{r:Ac V},as.Nodup->as[j]?=Ab a->rs[j]?=Ab r->(as.zip rs).lookup a=Ab r
 |[],_,_,_,_,_,h,_=>by simp at h
 |_::_,[],_,_,_,_,_,h=>by simp at h
 |b::as,q::rs,0,a,r,nd,h1,h2=>by
  simp only[EA,Cc]at h1 h2;subst h1 h2;rw[Ha,WM]
 |b::as,q::rs,j+1,a,r,nd,h1,h2=>by
  simp only[Ez]at h1 h2;have nb:a≠b:=λe=>by subst e;exact(BZ.mp nd).1 (DD h1)
  rw[Ha,B4,cv nb];exact Vx (BZ.mp nd).2 h1 h2
section
variable{X:Cx}{CL:ClA}{W:XW}{pos p pos' p':A7}{a b c:An}{fa fb fc:Rho->R D}
theorem sK(ha:SE X CL W a fa)(hb:SE X CL W b fb)(hd:SE X CL W c fc)(hc:X.calm=Aa)(hg:Gl X "tuple")(hm:X.mg "tuple" = Ae)(hg':Gl X "zip")(hm':X.mg "zip" = Ae)(hs:AF [a,b,c] X.env=[(Af,eval a X.env),(Af,eval b X.env),(Af,eval c X.env)])(hs2:AF [b,c] X.env=[(Af,eval b X.env),(Af,eval c X.env)])(hs3:AF [c] X.env=[(Af,eval c X.env)]):
  SE X CL W (.Call (.Name "tuple" p) [.Call (.Name "zip" p') [a,b,c] [] pos'] [] pos) (λU=>((fa U).bind λx=>(fb U).bind λy=>(fc U).bind λz=>Lk x y z).bind λxs=>.ok (.tup xs)):=
 λA=>PE.weak (uG hc hg hm hg' hm' (Fo (ha A) (Fo (hb A) (Fo (hd A) G0 hs3) (by rw[hs2,hs3])) (by rw[hs,hs2])) hs hs2) λZ H Q ⟨hA,U,g,q⟩=>by
  simp only[R.bind_assoc]at q;refine⟨hA,U,g,Br.bind q λd v H1 _ s1 r1 p1=>⟨hA.same s1,U,g.same s1,Br.bind p1 λd2 v2 H2 _ s2 r2 p2=>⟨(hA.same s1).same s2,U,(g.same s1).same s2,Br.bind p2 λd3 v3 H3 _ s3 r3 p3=>?_⟩⟩⟩
  unfold Lk at p3;cases e1:CC d with
  |bad=>rw[e1]at p3;exact p3.elim
  |exn z=>exact absurd e1 (by cases d<;>simp[CC])
  |ok ds=>
   cases e2:CC d2 with
   |bad=>rw[e1,e2]at p3;exact p3.elim
   |exn z=>exact absurd e2 (by cases d2<;>simp[CC])
   |ok es=>
    cases e3:CC d3 with
    |bad=>rw[e1,e2,e3]at p3;exact p3.elim
    |exn z=>exact absurd e3 (by cases d3<;>simp[CC])
    |ok fs=>
     rw[e1,e2,e3]at p3;simp only[R.bind_ok]at p3;obtain⟨t1,c1,xs,rfl,k1,rs1⟩:=Ll ((r1.same s2).same s3) e1;obtain⟨t2,c2,ys,rfl,k2,rs2⟩:=Ll (r2.same s3) e2;obtain⟨t3,c3,us,rfl,k3,rs3⟩:=Ll r3 e3;split at p3
     .rename_i hn;obtain⟨n0,nn,ny,nz⟩:=hn;rw[<-rs1.length]at n0 nn ny nz;rw[<-rs2.length]at ny;rw[<-rs3.length]at nz;refine⟨t1,t2,t3,c1,c2,c3,xs,ys,us,rfl,k1 H3 (Kp.of (AM.refl H3)),k2 H3 (Kp.of (AM.refl H3)),k3 H3 (Kp.of (AM.refl H3)),n0,nn,ny,nz,λas T el nd fr hT fT=>?_⟩
      have hA3:AOk H3 A:=((hA.same s1).same s2).same s3;have fr':∀ q∈(T,as.map V.ref)::as.zip (Ho xs ys us),H3 q.1=Ae:=λq hq=>by
       rcases At.mp hq with rfl|hq
       .exact fT
       .obtain⟨j,h1,h2⟩:=MK (a:=q.1) (b:=q.2) hq;exact fr _ (DD h1)
      have sm:AM H3 (IF H3 ((T,as.map V.ref)::as.zip (Ho xs ys us))):=λb o e=>by
       rw[Ub λq hq z=>by rw[<-z,fr' q hq]at e;cases e]
       exact e
      refine p3 _ _ sm ⟨T,as.map V.ref,rfl,.inl (hA3.new fT),SqT.of ?_,R7 hA3 sm (λj a r h1 h2=>?_) fr el ny nz rs1 rs2 rs3⟩
      .unfold IF;rw[WM]
      .have na:a≠T:=λe=>by subst e;exact hT (DD h1)
       unfold IF;rw[B4,cv na,Vx nd h1 h2]
     .exact p3.elim
end
section
variable{X:Cx}{CL:ClA}{W:XW}{pos p tpos:A7}{a b c:An}{fa fb fc:Rho->R D}{x:Al}
end
section
variable{X:Cx}{CL:ClA}{W:XW}{a:An}{fa:Rho->R D}
end
theorem sF{i:Ad}{m:Ag}(h:plD n i=Ab m):-(n:Ad)<=i/\i<n/\He i n=Ab m:=by
 unfold plD at h;unfold He;by_cases h0:0<=i
 .rw[AI h0]at h;by_cases h1:i<n
  .rw[AI h1]at h;have h2:¬ i<0:=by omega
   refine⟨by omega,h1,?_⟩
   simp only[h2,Gn];rw[AI (by simp;omega)]
   exact h
  .rw[AV h1]at h;cases h
 .rw[AV h0]at h;by_cases h1:-(n:Ad)<=i
  .rw[AI h1]at h;have h2:i<0:=by omega
   refine⟨h1,by omega,?_⟩
   simp only[h2,HG];rw[AI (by simp;omega)]
   exact h
  .rw[AV h1]at h;cases h
theorem R9{K:Fg}{CL:ClA}{H:Hp}{A:Am->Prop}:∀{xs:Ac V}{ds:Ac D}(m:Ag),Reps K CL H A xs ds->Reps K CL H A (xs.eraseIdx m) (ds.eraseIdx m)
 |[],[],_,h=>h
 |v::vs,d::ds,0,h=>h.2
 |v::vs,d::ds,m+1,h=>⟨h.1,R9 m h.2⟩
 |[],_::_,_,h=>h.elim
 |_::_,[],_,h=>h.elim
section
variable{X:Cx}{CL:ClA}{W:XW}{o o' e:An}{fe:Rho->R D}{i j:Ag}{apos cpos apos' cpos' pos:A7}
theorem bH{us:Ac Ai}(r:Bi xs us):Bi xs.reverse us.reverse:=r.reverse
theorem Tz{K:Fg}{CL:ClA}{H:Hp}{A:Am->Prop}:∀{vs:Ac V}{ds:Ac Ov.D},Reps K CL H A vs ds->Reps K CL H A vs.reverse ds.reverse
 |[],[],h=>h
 |v::vs,d::ds,h=>by
  rw[FV,FV];exact(Tz h.2).append ⟨h.1,trivial⟩
 |[],_::_,h=>h.elim
 |_::_,[],h=>h.elim
end
theorem aJ(h:Qi U k=Aa):U[k]?=Ab Ae:=by
 unfold Qi at h;split at h
 .rename_i e;exact e
 .cases h
theorem bA{f:D->Ac D->R D}{x:D}{xs ds ys rest:Ac D}(h:G8 f (x::xs) ds=.ok (ys,rest)):∃ n m y r,f x ds=.ok (.int n)/\plD ds.length n=Ab m/\ds[m]?=Ab y/\G8 f xs (ds.eraseIdx m)=.ok (r,rest)/\ys=y::r:=by
 unfold G8 at h;obtain⟨d,e1,h⟩:=Iu h;obtain⟨n,e2,h⟩:=Iu h;cases d with
 |int i=>
  have e2:i=n:=R.ok.inj e2;subst e2;cases e3:plD ds.length i with
  |none=>rw[e3]at h;cases h
  |some m=>
   rw[e3]at h;dsimp only at h;cases e4:ds[m]? with
   |none=>rw[e4]at h;cases h
   |some y=>
    rw[e4]at h;obtain⟨r,e5,h⟩:=Iu h;obtain⟨r1,r2⟩:=r;cases h;exact⟨i,m,y,r1,e1,e3,e4,e5,rfl⟩
 |_=>cases e2
section
variable{K:Fg}{CL:ClA}{Fz:Am->HO->Prop}{B:Am->Prop}{U:Rho}{Z:L2.St}{H H1:Hp}{k y:Ag}
theorem NR(hk:U[k]?=Ab Ae)(w:Ap V):BG B U (Z.set k w)=BG B U Z:=by
 funext a
 refine propext ⟨?_,?_⟩
 .rintro (h|⟨j,d,h1,h2⟩)
  .exact .inl h
  .have ne:k≠j:=λe=>by rw[<-e,hk]at h1;cases h1
   rw[Cj ne]at h2;exact .inr ⟨j,d,h1,h2⟩
 .rintro (h|⟨j,d,h1,h2⟩)
  .exact .inl h
  .have ne:k≠j:=λe=>by rw[<-e,hk]at h1;cases h1
   exact .inr ⟨j,d,h1,by rw[Cj ne];exact h2⟩
theorem NQ{ds:Ac D}(hy:U[y]?=Ab (Ab (d,Aa))):BG B (U.set y (Ab (.lst ds,Aa))) Z=BG B U Z:=by
 have hl:y<U.length:=(AX.mp hy).1
 funext a
 refine propext ⟨?_,?_⟩
 .rintro (h|⟨j,e,h1,h2⟩)
  .exact .inl h
  .by_cases ne:y=j
   .subst ne;exact .inr ⟨y,d,hy,h2⟩
   .rw[Cj ne]at h1;exact .inr ⟨j,e,h1,h2⟩
 .rintro (h|⟨j,e,h1,h2⟩)
  .exact .inl h
  .by_cases ne:y=j
   .subst ne;exact .inr ⟨y,.lst ds,CA hl,h2⟩
   .exact .inr ⟨j,e,by rw[Cj ne];exact h1,h2⟩
theorem Sx.kk(x:Sx K CL Fz B U Z H)(hk:U[k]?=Ab Ae)(w:Ap V):Sx K CL Fz B U (Z.set k w) H:=by
 have ne:∀{j:Ag}{s:D×Aj},U[j]?=Ab (Ab s)->k≠j:=λ{j s} h e=>by rw[<-e,hk]at h;cases h
 refine⟨⟨λj d h=>?_,λj d h=>?_,by rw[Bj];exact x.len⟩,by rw[NR hk];exact x.aok,λj d a h1 h2=>?_,λi j d e a h1 h2 h3 h4=>?_,x.same,by rw[Bj];exact x.len⟩
 .rw[NR hk,Cj (ne h)];exact x.good.sh j d h
 .rw[NR hk,Cj (ne h)];exact x.good.ow j d h
 .rw[Cj (ne h1)]at h2;exact x.new j d a h1 h2
 .rw[Cj (ne h1)]at h3;rw[Cj (ne h2)]at h4;exact x.dis i j d e a h1 h2 h3 h4
theorem LU{w w':Ap V}:(Z.set k w).set k w'=Z.set k w':=HJ ..
theorem gD{w:Ap V}(x:Sx K CL Fz B U (Z.set k w) H)(hk:U[k]?=Ab Ae)(hl:k<Z.length):Sx K CL Fz B U Z H:=by
 have:=x.kk hk Z[k];rw[LU]at this
 rwa [List.set_getElem_self]at this
theorem kQ{xs ds ys rest:Ac D}(x:Sx K CL Fz B U Z H1)(hk:U[k]?=Ab Ae)(hy:U[y]?=Ab (Ab (.lst ds,Aa)))(yl:II K CL (BG B U Z) xs J H1)(hz:xs.length<=sizeLine)(hd:ds.length<=1000000)(hpc:G8 (λx ds=>fe ((U.set y (Ab (.lst ds,Aa))).set k (Ab (x,Af)))) xs ds=.ok (ys,rest))(q:∀ vs H2,Sx K CL Fz B (U.set y (Ab (.lst rest,Aa))) Z H2->Reps K CL H2 (BG B U Z) vs ys->∀ p,H2 p=Ae->Q (.ref p) (upd H2 p (.lst vs))):
  J9 J [k] (ED k) (λ_ H Q=>Q Aa H) (tBM K "list" Mh (GP y) (NB (λZ' H Q=>AOk H (BG B U Z)/\∃ U',Good K CL (BG B U Z) U' Z' H/\Br (λH=>Rep K CL H (BG B U Z)) W0 H (fe U') Q) NZ)) Z H1 Q:=by
 have yk:k≠y:=λe=>by rw[<-e,hk]at hy;cases hy
 have hky:∀ es:Ac D,(U.set y (Ab (.lst es,Aa)))[k]?=Ab Ae:=λes=>by rw[Cj (BA yk)];exact hk
 have hyl:y<U.length:=(AX.mp hy).1;have hyy:∀ es:Ac D,(U.set y (Ab (.lst es,Aa)))[y]?=Ab (Ab (.lst es,Aa)):=λes=>CA hyl
 have hkl:k<Z.length:=by rw[<-x.len];exact(AX.mp hk).1
 have oA:∀(es:Ac D)(w:Ap V),BG B (U.set y (Ab (.lst es,Aa))) (Z.set k w)=BG B U Z:=λes w=>by rw[NR (hky es),NQ hy]
 refine⟨λi m vs Z' H'=>m=xs.length-i/\i<=xs.length/\vs.length<=i/\(∃ w,Z'=Z.set k w)/\Kp (BG B U Z) H1 H'/\∃ es outs r,es.length<=1000000/\Sx K CL Fz B (U.set y (Ab (.lst es,Aa))) Z' H'/\Reps K CL H' (BG B U Z) vs outs/\G8 (λx ds=>fe ((U.set y (Ab (.lst ds,Aa))).set k (Ab (x,Af)))) (xs.drop i) es=.ok (r,rest)/\ys=outs++r,
  ⟨xs.length,by simp,Em _,A6 _,⟨Ae,rfl⟩,λ_ _ e _=>e,ds,[],ys,hd,?_,trivial,hpc,rfl⟩,?_⟩
 .have e:U.set y (Ab (.lst ds,Aa))=U:=by
   apply FU
   intro j;by_cases ne:y=j
   .subst ne;rw[hyy,hy]
   .rw[Cj ne]
  rw[e];exact x.kk hk Ae
 rintro i m vs Z' H' ⟨rfl,hi,hvl,⟨w,rfl⟩,kp,es,outs,r,hes,sx,rs,hc,e⟩;obtain⟨yst,ygo⟩:=yl H' kp i;by_cases hlt:i<xs.length
 .have hdx:xs[i]?=Ab xs[i]:=BS hlt;obtain⟨hgo,hyl'⟩:=ygo _ hdx;refine .inr ⟨hgo,by omega,λu H2 hu=>?_⟩
  obtain⟨s2,ru⟩:=hyl' u H2 hu;have aok:=sx.aok;rw[oA]at aok;have ru':=ru _ (λa ha=>.inl ha) aok
  rw[Eg hlt]at hc;obtain⟨n,mm,d,r',e1,e2,e3,e4,e5⟩:=bA hc;have sx2:=sx.grow s2;show tBM K "list" Mh (GP y) _ ((Z.set k w).set k (Ab u)) H2 _;rw[LU];have sx3:Sx K CL Fz B (U.set y (Ab (.lst es,Aa))) (Z.set k (Ab u)) H2:=by
   have:=sx2.kk (hky es) (Ab u)
   rwa [LU]at this
  obtain⟨b,us,es',qb,e6,hb,hh,rr⟩:=sx3.good.ow y _ (hyy es);cases e6;have g4:=(sx2.set k (v:=u) (d:=xs[i]) (by rw[oA];exact ru')).good
  have oB:BG B ((U.set y (Ab (.lst es,Aa))).set k (Ab (xs[i],Af))) ((Z.set k w).set k (Ab u))=BG B U Z:=by
   rw[LU]
   funext a
   refine propext ⟨?_,?_⟩
   .rintro (h|⟨j,f,h1,h2⟩)
    .exact .inl h
    .have ne:k≠j:=λz=>by subst z;have:=Hm h1;cases this
     rw[Cj ne]at h1 h2;have z:BG B (U.set y (Ab (.lst es,Aa))) Z a:=.inr ⟨j,f,h1,h2⟩
     rwa [NQ hy]at z
   .intro z;rw[<-NQ (ds:=es) hy]at z;rcases z with h|⟨j,f,h1,h2⟩
    .exact .inl h
    .have ne:k≠j:=λz=>by rw[<-z,hky es]at h1;cases h1
     exact .inr ⟨j,f,by rw[Cj ne];exact h1,by rw[Cj ne];exact h2⟩
  rw[oB,LU]at g4;refine⟨_,qb,.inl ⟨rfl,us,SqL.of hh⟩,aok.same s2,_,g4,?_⟩;rw[show fe _=_ from e1]
  intro v H3 s3 rv;have ev:v=.int n:=rv;subst ev;have sx5:=sx3.grow s3;obtain⟨b',us',es',qb',e7,hb',hh',rr'⟩:=sx5.good.ow y _ (hyy es);cases e7;have eb:b'=b:=by rw[qb]at qb';injection qb' with z;injection z with z;injection z with z;exact z.symm
  subst eb;obtain⟨v',hv',rv'⟩:=rr'.get e3;rw[oA]at rr' rv';obtain⟨n1,n2,n3⟩:-(2 ^ 63)<=n/\n<2 ^ 63/\He n us'.length=Ab mm:=by
   obtain⟨q1,q2,q3⟩:=sF e2;rw[rr'.length];exact⟨by omega,by omega,q3⟩
  have up:=sx5.upd (hyy es) qb' (xs:=us'.eraseIdx mm) (ds:=es.eraseIdx mm) (by rw[oA];exact R9 mm rr')
  rw[HJ]at up;have kq:Kp (BG B U Z) H3 (L2.upd H3 b' (.lst (us'.eraseIdx mm))):=λc o ec na=>by
   have hne:c≠b':=by
    rintro rfl;rw[oA]at hb';exact na hb'
   rw[Dl hne];exact ec
  refine⟨b',us',n,mm,v',rfl,rfl,hh',n1,n2,n3,hv',xs.length-(i+1),by omega,rfl,hlt,by rw[Ch,ET];omega,⟨_,rfl⟩,λc o ec na=>kq c o (s3 _ _ (s2 _ _ (kp c o ec na))) na,es.eraseIdx mm,outs++[d],r',Cb (List.length_eraseIdx_le es mm) hes,up,Reps.kp kq _ (((rs.same s2).same s3).append ⟨rv',trivial⟩),e4,by rw[e,e5];simp⟩
 .have hk':xs.length<=i:=by omega
  rw[F3 hk']at hc;cases hc;rw[Do]at e;subst e;exact .inl ⟨yst hk',λp hp=>q vs H' (gD sx (hky _) hkl) rs p hp⟩
end
section
variable{X:Cx}{CL:ClA}{W:XW}
theorem gP{t y:Ag}{n:Al}{apos cpos:A7}{o:An}(hc:X.calm=Aa)(Bk:BlockOk X scope N' [k])(hi:SI X CL W tg iter fi)(hg:∀ cl C s H fp,PG (cxC X scope cl C N' s H fp) tg (ED k))(ho:∀ cl C s H fp,PE (cxC X scope cl C N' s H fp) o (GP y))(he:∀ cl C s H fp,SE (cxC X scope cl C N' s H fp) CL W0 e fe)(hbase:∀ env,F9 o "pop" env (eval o env)=eval o env)(hline:(apos.endLine==cpos.line)=Aa)(hst:∀ env,AF [e] env=[(Af,eval e env)])(hs:∀ x,CY iter X.env x=pure x)(hN:X.N.Nodup)(hni:X.N[t]?=Ab n)(hx:Loc X.env.scope n)(hf:X.fn n=Aa\/X.env.scope.names.lookup n=Ab .local)(sw:∃ b,DJ (.ListComp (.Call (.Attribute o "pop" apos) [e] [] cpos) [⟨tg,iter,[],0⟩] scope pos) (Ab (.Name n pos')) pos2.line X.env=pure b/\(b=Aa->X.env.scope.names.lookup n=Ab .local)):
  SS X CL W (.Assign [.Name n pos'] (.ListComp (.Call (.Attribute o "pop" apos) [e] [] cpos) [⟨tg,iter,[],0⟩] scope pos) pos2) (λU=>cpD t y k U (fi U) fe):=λFz B pI s Z H Dn I ⟨U,x,p⟩=>by
 have hel:∀ cl C s H fp,PE (cxC X scope cl C N' s H fp) (.Call (.Attribute o "pop" apos) [e] [] cpos) (tBM X.K "list" Mh (GP y) (NB (λZ' H Q=>AOk H (BG B U Z)/\∃ U',Good X.K CL (BG B U Z) U' Z' H/\Br (λH=>Rep X.K CL H (BG B U Z)) W0 H (fe U') Q) NZ)):=λcl C s H fp=>
  NP EB PySem.F.slot_list_pop PySem.F.type_list_pop cN (ho cl C s H fp) (Fo (he cl C s H fp (BG B U Z)) G0 (hst _)) (hbase _) (by rw[hst];rfl) hline (hst _) rfl
 have key:Mo (λZ' H Q=>AOk H (BG B U Z)/\∃ U',Good X.K CL (BG B U Z) U' Z' H/\E4 X.K CL (BG B U Z) W H (fi U') λJ H1=>J9 J [k] (ED k) (λ_ H Q=>Q Aa H) (tBM X.K "list" Mh (GP y) (NB (λZ' H Q=>AOk H (BG B U Z)/\∃ U',Good X.K CL (BG B U Z) U' Z' H/\Br (λH=>Rep X.K CL H (BG B U Z)) W0 H (fe U') Q) NZ)) Z' H1 Q) (ED t) Dn Z H:=by
  refine⟨x.aok,U,x.good,?_⟩;dsimp only at p;unfold cpD at p;cases e1:C7 U y with
  |bad=>rw[e1]at p;exact p.elim
  |exn z=>exact(LY e1).elim
  |ok ds=>
   rw[e1,O.of_ok]at p;have hy:=L9 e1;cases e2:fi U with
   |bad=>rw[e2]at p;exact p.elim
   |exn z=>rw[e2]at p;exact λH' s'=>p H' λb o z=>s' _ _ (x.same b o z)
   |ok xs=>
    rw[e2,O.of_ok]at p;intro J H1 s1 yl hz;cases e3:noX (G8 (λx ds=>fe ((U.set y (Ab (.lst ds,Aa))).set k (Ab (x,Af)))) xs ds) with
    |bad=>rw[e3]at p;exact p.elim
    |exn z=>cases q:G8 (λx ds=>fe ((U.set y (Ab (.lst ds,Aa))).set k (Ab (x,Af)))) xs ds<;>rw[q]at e3<;>cases e3
    |ok r=>
     rw[e3,O.of_ok]at p;obtain⟨ys,rest⟩:=r;split at p
     .rename_i hh;obtain⟨h1,h2⟩:=(Aq _ _).mp hh;refine kQ (x.grow s1) (aJ h1) hy yl hz (EV h2) (Vw e3) λvs H2 sx rs q hq=>?_
      refine p _ _ (sx.setF (FE hq _) hq Ix (Reps.same (FE hq _) (Reps.wide (λa ha=>?_) _ rs)))
      rcases ha with ha|ha
      .rw[NQ hy]at ha;exact .inl ha
      .rw[ha];exact .inr hq
     .exact p.elim
 obtain⟨b,hb,hb'⟩:=sw;cases b with
 |false=>exact Vs hN hni hx (Ut hc Bk (hi _) hg (λ_ _ _ _ _=>PR) hel hs) hb hf pI s Z H Dn I key
 |true=>exact UI hc Bk (hi _) hg (λ_ _ _ _ _=>PR) hel hs hN hni (hb' rfl) hb pI s Z H Dn I key
end
theorem aK:HA (.type "list_reverseiterator") "__len__" = pure Ae:=by rw[GI,E1];kernel_rfl
theorem eR:HA (.type "list_reverseiterator") "__length_hint__" = pure (Ab (.builtin "list_reverseiterator.__length_hint__")):=by rw[GI,E1];kernel_rfl
section
variable{prog:AT}{w:AE}{A:Bc}{E:Vq}{s:As}
theorem ZG{Q:Vq}{I l:Am}(hh:A.handled=Ae)(hne:l≠I)(hit:s.heap.IsRevIter I l ((items.size:Ad)-1))(hl:s.heap.IsList l items)(hlen:items.size<=2 ^ 24)(hQ:∀ h' tk acc' c',(∀ b o,b≠I->s.heap.get? b=Ab o->h'.get? b=Ab o) ->
      h'.get? s.heap.objs.size=Ab { cls:=.type "list",dict:=Ae,data:=.seq acc' c',slots:=#[] }->ItemsOf (λi v=>items[items.size-1-i]?=Ab v) acc' items.size->Q (.ref s.heap.objs.size) {s with heap:=h',toks:=tk}):
    AB (model prog w) A (call (.type "list") [.ref I]) Q E s:=by
  have W:=(Walks.listRev (prog:=prog) (w:=w) (A:=A.in1.in1) hh I l hne items).toS;have lI:I<s.heap.objs.size:=by obtain⟨o,ho,_⟩:=hit;exact Ax ho
  have ll:l<s.heap.objs.size:=by obtain⟨o,ho,_⟩:=hl;exact Ax ho
  refine Yt (Q₁:=λobj s₁=>obj=.ref s.heap.objs.size/\s₁={ s with heap:=s.heap.push { cls:=.type "list",data:=.seq #[] } }) F.called_list (F.typeCall_list_1 _) F.entry_list_init
    (code_list_new _ ⟨rfl,rfl⟩) λobj s₁ h₁=>?_
  obtain⟨rfl,rfl⟩:=h₁;have hS:(s.heap.push { cls:=.type "list",data:=.seq #[] }).get? s.heap.objs.size=Ab { cls:=.type "list",data:=.seq #[] }:=Aw _ rfl;refine⟨⟨_,hS,rfl⟩,F.args_list_init_2 _ _,?_⟩;have hSI:s.heap.objs.size≠I:=CJ lI;have hSf:s.heap.objs.size∉[I,l]:=λhm=>by
    rcases At.mp hm with e|hm
    · exact hSI e
    · exact CJ ll (Ci.mp hm)
  show AB _ _ (do let old <-W7 (.ref s.heap.objs.size);Builtin.List.listUpdate (.ref s.heap.objs.size) (λ_=>#[]);letGo old.toList.reverse;Dp (.ref s.heap.objs.size) (.ref I) .none) _ _ _
  refine Ah ?_;unfold W7;refine Ah (BW hS rfl (Av ?_));show AB _ _ (Im s.heap.objs.size (λ_=>#[]) >>= λ_=>letGo (#[]:AY Ai).toList.reverse >>= λ_=>Dp (.ref s.heap.objs.size) (.ref I) .none) _ _ _
  refine Ah (EK hS rfl ?_);have hS₂:=B8 (Cd (λ_=>(#[]:AY Ai))) hS rfl
  have oth:∀ b o,s.heap.get? b=Ab o->((s.heap.push { cls:=.type "list",data:=.seq #[] }).update s.heap.objs.size (Cd (λ_=>(#[]:AY Ai)))).get? b=Ab o:=
    λb o e=>(B6 _ _ (CJ (Ax e))).trans (Ar _ e)
  refine Ah (Fm ?_);have hit₂:=hit.at λo e=>oth I o e
  have hl₂:=hl.at λo e=>oth l o e
  unfold Dp;refine Ah (wpAny_typeOf (T := "list_reverseiterator") (X0 (s:={ s with heap:=(s.heap.push { cls:=.type "list",data:=.seq #[] }).update s.heap.objs.size (Cd (λ_=>(#[]:AY Ai))) }) hit₂) ?_)
  have h1:Er (.ref s.heap.objs.size) (.ref I)=Af:=by simp[Er,hSI]
  have h2:(Ek "list_reverseiterator" == Ek "list")=Af:=by decide
  have h3:(Ek "list_reverseiterator" == Ek "tuple")=Af:=by decide
  simp only[h1,h2,h3,Fh,FA,Gn];have ty:=X0 (s:={ s with heap:=(s.heap.push { cls:=.type "list",data:=.seq #[] }).update s.heap.objs.size (Cd (λ_=>(#[]:AY Ai))) }) hit₂
  refine Ah (wpAny_pyIter_revIter hit₂ ?_);refine Ah (Ck ?_);unfold W8;refine Ah (Fx ty aK ?_);show AB _ _ (specialOf (Dq I) (AN "__length_hint__") >>= _) _ _ _;refine Ah (Fx ty eR ?_)
  (generalize hid:("list_reverseiterator.__length_hint__" : Dj)=id0;(fail_if_success (clear hid id0));wp_delta;rw[show splitId id0=Ab ("list_reverseiterator", "__length_hint__") from by subst hid;decide+kernel];subst hid)
  refine Ah (HN (b:=Aa) ty (by rw[isSubtype_type];kernel_rfl) ?_)
  refine Av ?_;rw[AV (by decide)]
  have e0:(items.size:Ad)-1-((0:Ag):Ad)=(items.size:Ad)-1:=by omega
  refine Av ⟨Ga Ey _,codeAny_extend_loopS W (by rw[DT];omega) _ hSf _ items.size 0 _ _ _ rfl (Em _) ⟨Em _,by rw[e0];exact hit₂,hl₂⟩ hS₂ (ItemsOf.nil _) λs' acc' c' hm hS' hacc=>?_⟩
  rw[Moved.eq_with hm];refine⟨rfl,hQ s'.heap s'.toks acc' c' (λb o hb e=>hm.heap b o (λhmem=>?_) (oth b o e)) hS' hacc⟩
  rcases At.mp hmem with e'|hmem
  · exact A1 (Ax e) e'
  · exact hb (Ci.mp hmem)
end
theorem aV(h:ItemsOf (λi v=>its.toArray[its.toArray.size-1-i]?=Ab v) acc its.toArray.size):acc.toList=its.reverse:=by
 obtain⟨h1,h2⟩:=h;have n:its.toArray.size=its.length:=by simp
 rw[n]at h1
 apply FU
 intro j;by_cases hj:j<its.length
 .have e:acc[j]?=Ab (acc[j]'(by omega)):=BN (by omega)
  have q:=h2 j _ e;rw[Go,e,<-q,List.getElem?_reverse hj,n,Gr]
 .rw[Gq (by rw[DN];omega),Gq (by rw[GV];omega)]
def Zi(K:Fg)(ta:TA):TE:=λZ H Q=>ta Z H λvs H1=>∃ a xs,vs=[.ref a]/\SqL K H1 a xs/\∀ p,H1 p=Ae->Q (.ref p) (upd H1 p (.lst xs.reverse))
theorem rD{p':A7}(hc:X.calm=Aa)(hg:Gl X "list")(hm:X.mg "list" = Ae)(hg':Gl X "reversed")(hm':X.mg "reversed" = Ae)(ha:PA X [e] ta)(hs:AF [e] X.env=[(Af,eval e X.env)]):
    PE X (.Call (.Name "list" p) [.Call (.Name "reversed" p') [e] [] pos'] [] pos) (Zi X.K ta):=by
  intro pI s Z H Q I h;refine IR (HW I hg hm F4 (BR ?_ rfl rfl));show AB _ _ (spliced ((Af,eval (.Call (.Name "reversed" p') [e] [] pos') X.env)::C4 pos (AF [] X.env))) _ _ s;refine Hc ?_;refine IR (HW I hg' hm' PyProof.Rows.boot_reversed (BR (thn (ha pos' pI s Z H _ I h) λus s1 ⟨vs,H1,I1,r1,q1⟩=>?_) (by rw[hs];rfl) rfl))
  obtain⟨a,xs,e',hx,q⟩:=q1;subst e';cases r1 with
  |cons r rr=>
    cases rr;cases r;obtain⟨its,rv,ht,hz⟩:=I1.list hx;have hlen:=rv.length;refine call_reversed_list ht.isList (Hx ?_);have hl:=ht.isList;have la:a<s1.heap.objs.size:=by obtain⟨o,ho,_⟩:=hl;exact Ax ho
    refine ZG (s:={s1 with heap:=s1.heap.push (revObj a ((its.toArray.size:Ad)-1))}) (I:=s1.heap.objs.size) (l:=a) (I1.ok.hd hc) (A1 la) ⟨_,Aw _ rfl,rfl,rfl⟩ (hl.at λo e=>Ar _ e) (by rw[AC];rw[DT]at hz;omega) λh' tk acc c' kp e it=>?_
    have e':=aV it;refine⟨.ref (s1.heap.push (revObj a ((its.toArray.size:Ad)-1))).objs.size,_,I1.laid (t':=tk) (λb o e=>kp b o (A1 (Ax e)) (Ar _ e)) ?_ (show ObjOk X.prog X.w _ h' _ (.lst xs.reverse) from ⟨by rw[GV];exact hz,acc.toList,c',by rw[e'];exact bH rv,by rw[Gv];exact e⟩),rfl,q _ (I1.hok.fresh ?_)⟩
    · rw[Bm];exact Io _
    · rw[Bm];exact Io _
section
variable{X:Cx}{CL:ClA}{W:XW}{pos p pos' p':A7}{e:An}{fe:Rho->R D}
theorem pH(ha:ST X CL W e fe)(hc:X.calm=Aa)(hg:Gl X "list")(hm:X.mg "list" = Ae)(hg':Gl X "reversed")(hm':X.mg "reversed" = Ae)(hs:AF [e] X.env=[(Af,eval e X.env)]):SE X CL W (.Call (.Name "list" p) [.Call (.Name "reversed" p') [e] [] pos'] [] pos) (λU=>(fe U).bind λx=>biD .rvs [x]):=
 λA=>PE.weak (rD hc hg hm hg' hm' (Fo (ha A) G0 hs) hs) λZ H Q ⟨hA,U,g,p⟩=>⟨hA,U,g,Br.bind p λd v H1 _ s1 r1 p1=>by
  cases d with
  |lst ds=>
   obtain⟨q,xs,rfl,sq,r⟩:=r1.lst_of;exact⟨q,xs,rfl,sq,λt ht=>p1 _ _ (FE ht _) (PF (hA.same s1) ht (Tz r))⟩
  | _=>exact p1.elim⟩
end
section
variable{X:Cx}{CL:ClA}{W:XW}
end
section
variable{X:Cx}
variable{CL:ClA}{W:XW}{pos p pos' p':A7}{a b:An}{fa fb:Rho->R D}
end
section
variable{X:Cx}{CL:ClA}{W:XW}{e o o' k l:An}{fe:Rho->R Ov.D}{i ik il:Ag}{pos spos spos' tpos:A7}{kt:Ag}
end
section
variable{prog:AT}{w:AE}{A:Bc}{E:Vq}{s:As}
theorem Tj{it t:Am}{items:AY Ai}(hne:t≠it):∀(n i:Ag)(s:As)(Q:Ac Ai->As->Prop),s.heap.IsListIter it t i->s.heap.IsList t items->i+n<=items.size->(∀ h',h'.IsListIter it t (i+n)->EY it s.heap h'->Q ((items.toList.drop i).take n) {s with heap:=h'})->AB (model prog w) A (draw (.ref it) n) Q E s
 |0,i,s,Q,hit,_,_,hQ=>by
  show AB _ _ (pure []) Q E s;exact Av (by simpa using hQ s.heap hit (X1 ..))
 |n+1,i,s,Q,hit,ht,hle,hQ=>by
  have hlt:i<items.size:=by omega
  show AB _ _ (Ed (.ref it) >>= _) Q E s;refine Ah (YH hit ht (x:=items[i]) (by simp[hlt]) λh₁ hit₁ hs₁=>?_)
  refine Ah (Ck (Tj hne n (i+1) _ _ hit₁ (ht.extBut hs₁.extBut hne) (by omega) λh₂ hit₂ hs₂=>Av ?_))
  have hd:items.toList.drop i=items[i]::items.toList.drop (i+1):=by simp[Eg,hlt]
  have:=hQ h₂ (by rw[show i+(n+1)=i+1+n by omega];exact hit₂) (hs₁.trans hs₂)
  rw[hd,List.take_succ_cons]at this;exact this
theorem Zy{t:Am}{Q:Ac Ai->As->Prop}(hh:A.handled=Ae)(ht:s.heap.IsList t items)(hQ:∀ h',Ip s.heap.objs.size s.heap h'->Q items.toList {s with heap:=h'}):AB (model prog w) A (unpackItems (.ref t) items.size Ae) Q E s:=by
 have hlt:t≠s.heap.objs.size:=by obtain⟨o,ho,_⟩:=ht;exact A1 (Ax ho)
 have htp:(s.heap.push { cls:=.type "list_iterator",data:=.fields #[.ref t,.int 0 0] }).IsList t items:=by
  obtain⟨o,ho,r⟩:=ht;exact⟨o,Ar _ ho,r⟩
 unfold unpackItems;refine Ah ?_
 .unfold notIterableAtAll;refine Ah (Fx ht.typeIs slot_list_iter.lookup ?_);refine Av ?_;simp only[FA,Gn];refine Ah (Ck (Ee ht ?_));refine Ah (Ck (Tj hlt items.size 0 _ _ ⟨_,Aw _ rfl,rfl,rfl⟩ htp (by omega) λh₁ hit₁ hs₁=>?_))
  have hall:List.take items.size (List.drop 0 items.toList)=items.toList:=by
   rw[WD];exact EM (by simp)
  rw[hall];rw[AV (by simp)]
  have ht₁:h₁.IsList t items:=htp.extBut hs₁.extBut hlt;refine Ah (Ck (YG hh hit₁ ht₁ (by simp) λh₂ he₂=>?_))
  simp only[Option.isSome_none,FA,Gn];refine Av (hQ h₂ λb o hb e=>he₂ b o hb (hs₁.extBut b o hb (Ar _ e)))
theorem ZA{elts:Ac An}{x1}{t:Am}{Q:IY->As->Prop}(hh:A.handled=Ae)(ht:s.heap.IsList t items) (hn:(Cz elts env).length=items.size) (hstar:(Cz elts env).findIdx? (·.1)=Ae) (h:∀ h',Ip s.heap.objs.size s.heap h'->AB (model prog w) A (assignInOrder ((Cz elts env).map (·.2)) items.toList) Q E {s with heap:=h'}):AB (model prog w) A (assign (.Tuple elts x1 pos) env (.ref t)) Q E s:=by
 rw[assign_Tuple];refine Ah (Hk ?_);unfold unpack;rw[hn,hstar];exact Ah (Ck (Zy hh ht h))
end
section
variable{X:Cx}{pos:A7}{CL:ClA}
def gSq(K:Fg)(n:Ag)(t:TGs):TG:=λv Z H Q=>Lr K n t v Z H Q\/∃ a xs,v=.ref a/\SqL K H a xs/\xs.length=n/\t xs Z H Q
theorem xM{t:TGs}(hc:X.calm=Aa)(h:PGs X es t)(hn:(Cz es X.env).length=n)(hst:(Cz es X.env).findIdx? (·.1)=Ae):PG X (.Tuple es k pos) (gSq X.K n t):=by
 intro pI s Z H v u Q I r hw;rcases hw with hw|hw
 .exact Qf hc h hn hst pI s Z H v u Q I r hw
 .obtain⟨a,xs,e1,hq,hl,hw⟩:=hw;subst e1;cases r;obtain⟨its,rv,ht,hz⟩:=I.list hq;refine ZA (I.ok.hd hc) ht.isList (by simp[hn,<-hl,rv.length]) hst λh' hx=>?_
  have I1:Inv X pI Z H {s with heap:=h'}:=I.kept (t':=s.toks) λb o e=>hx b o (A1 (Ax e)) e
  exact h pI _ Z H xs _ Q I1 (by simpa using rv) hw
theorem aa(ts:Ac Ag):GT K CL (Ji ts) (gSq K ts.length (ts.foldr (λt u=>Ib (ED t) u) Ic)):=λFz B U Z H v d U' Q x r e k=>by
 cases d with
 |lst ds=>
  obtain⟨a,xs,rfl,na,sq,rs⟩:=r;rw[bQ]at e;cases e2:E2 ts ds U with
  |none=>rw[e2]at e;cases e
  |some U2=>
   rw[e2]at e;cases e;exact .inr ⟨a,xs,rfl,sq,by rw[rs.length];exact MJ _ _ _ _ e2,Qd ts ds xs U _ Z Q x rs e2 k⟩
 |_=>exact .inl (VB ts Fz B U Z H v _ U' Q x r e k)
end
section
variable{X:Cx}{CL:ClA}{W:XW}
end
end Ov
namespace Ov
open PySem PySem.W PyProof.Rows
variable{p:AY Ag}{m:Ag}
def Kr{α:Type}(lt:Ag->Ag->Aj)(n:Ag):KasT α->(α->Prop)->Prop
 |.ret a,Q=>Q a
 |.ask i j k,Q=>i<n/\j<n/\Kr lt n (k (lt i j)) Q
theorem Kr.mono{α:Type}{lt:Ag->Ag->Aj}{n:Ag}{Q Q':α->Prop}:∀{t:KasT α},Kr lt n t Q->(∀ a,Q a->Q' a)->Kr lt n t Q'
 |.ret _,h,k=>k _ h
 |.ask i j f,h,k=>⟨h.1,h.2.1,Kr.mono (t:=f (lt i j)) h.2.2 k⟩
theorem Kr.bind{α β:Type}{lt:Ag->Ag->Aj}{n:Ag}{f:α->KasT β}{Q:β->Prop}:∀{t:KasT α},Kr lt n t (λa=>Kr lt n (f a) Q)->Kr lt n (t.bind f) Q
 |.ret _,h=>h
 |.ask i j k,h=>⟨h.1,h.2.1,Kr.bind (t:=k (lt i j)) h.2.2⟩
structure Sto (lt:Ag->Ag->Aj) (n:Ag):Prop where
 tr:∀ i j k,i<n->j<n->k<n->lt i j=Aa->lt j k=Aa->lt i k=Aa
 tot:∀ i j,i<n->j<n->i≠j->lt i j=Af->lt j i=Aa
 asy:∀ i j,i<n->j<n->lt i j=Aa->lt j i=Af
noncomputable def at0(p:AY Ag)(x:Ag):Ag:=p.getD x 0
structure Pm (n:Ag) (p:AY Ag):Prop where
 sz:p.size=n
 lt:∀ x,x<n->at0 p x<n
 inj:∀ x y,x<n->y<n->at0 p x=at0 p y->x=y
section
variable{lt:Ag->Ag->Aj}{n:Ag}
def Rh(lt:Ag->Ag->Aj)(p:AY Ag)(m:Ag):Prop:=∀ x y,x<y->y<m->lt (at0 p x) (at0 p y)=Aa
def Rm(lt:Ag->Ag->Aj)(p:AY Ag)(m:Ag):Prop:=∀ x y,x<y->y<m->lt (at0 p y) (at0 p x)=Aa
theorem Rh.succ(S:Sto lt n)(hp:Pm n p)(h1:1<=m)(hm:m<n)(h:Rh lt p m)(e:lt (at0 p (m-1)) (at0 p m)=Aa):Rh lt p (m+1):=λx y hxy hy=>by
 by_cases hym:y<m
 .exact h x y hxy hym
 .have:y=m:=by omega
  subst this;by_cases hx:x=y-1
  .rw[hx];exact e
  .exact S.tr _ _ _ (hp.lt _ (by omega)) (hp.lt _ (by omega)) (hp.lt _ hm) (h x (y-1) (by omega) (by omega)) e
theorem Rm.succ(S:Sto lt n)(hp:Pm n p)(h1:1<=m)(hm:m<n)(h:Rm lt p m)(e:lt (at0 p m) (at0 p (m-1))=Aa):Rm lt p (m+1):=λx y hxy hy=>by
 by_cases hym:y<m
 .exact h x y hxy hym
 .have:y=m:=by omega
  subst this;by_cases hx:x=y-1
  .rw[hx];exact e
  .exact S.tr _ _ _ (hp.lt _ hm) (hp.lt _ (by omega)) (hp.lt _ (by omega)) e (h x (y-1) (by omega) (by omega))
end
section
variable{prog:AT}{w:AE}{A:Bc}{E:Vq}{κ:SortKind}{it:AY Keyed}
end
section
variable{lt:Ag->Ag->Aj}{n:Ag}
end
def PZ(h:AJ)(v:Ai)(r:Ac Ad):Prop:=∃ a its,v=.ref a/\JQ h a its/\IJ its.toList r/\r≠[]
theorem PZ.kept{h h':AJ}{v:Ai}{r:Ac Ad}(t:PZ h v r)(k:∀ b o,h.get? b=Ab o->h'.get? b=Ab o):PZ h' v r:=by
 obtain⟨a,its,e,⟨o,ho,q⟩,i,n⟩:=t;exact⟨a,its,e,⟨o,k _ _ ho,q⟩,i,n⟩
section
variable{prog:AT}{w:AE}{A:Bc}{E:Vq}{s:As}
end
end Ov
section
namespace Ov
open PySem PySem.Spec PyProof.Rows L2
section
variable{X:Cx}{CL:ClA}{W:XW}
end
end Ov
end
section
namespace Ov
open PySem PySem.Spec PyProof.Rows
section
variable{t:SetTable}{hashAt:Ag->Ad}{h:Ad}
noncomputable def stand(i b:Ag):SetTable.Probe:=⟨i,0,i,b,Ae⟩
end
section
variable{prog:AT}{w:AE}{A:Bc}{E:Vq}{s:As}{K:Type} [DecidableEq K] {knd:KeyKind prog w K}
end
section
variable{prog:AT}{w:AE}{A:Bc}{R:Ju->As->Prop}{I:Am}{fp wr:Ac Am}{G:AY Fb->AY Fb->Prop}{n:Ag}{P:Ag->Ai->Prop}{St:Ag->As->Prop}
end
section
variable{prog:AT}{w:AE}{A:Bc}{E:Vq}{s:As}
end
end Ov
end
namespace Ov
open PySem PySem.Spec PyProof.Rows L2
variable{ex:Ac Am}{h h':AJ}{P:AT}{w:AE}{H:Hp}{a T':Am}{oe:Dg}{vs:AY Ai}{Q:IY->As->Prop}{a0:Ai}{X:Cx}{pI:Pn}{Z:L2.St}{s:As}
section
variable{X:Cx}
def Ob(K:Fg)(H:Hp):Ac V->Ac (Ac Ad)->Prop
 |[],[]=>GL
 |x::xs,k::ks=>(∃ b,x=.ref b/\SqT K H b (k.map V.int))/\Ob K H xs ks
 |_,_=>Bz
theorem Ob.length{K:Fg}{H:Hp}:∀{xs:Ac V}{ks:Ac (Ac Ad)},Ob K H xs ks->xs.length=ks.length
 |[],[],_=>rfl
 |_::_,_::_,h=>congrArg (· + 1) (Ob.length h.2)
 |[],_::_,h=>h.elim
 |_::_,[],h=>h.elim
variable{CL:ClA}{W:XW}{pos p pos' p':A7}{a:An}{fa:Rho->R D}
end
section
theorem lR(l:Am)(items:AY Ai)(n:Ag)(b:Am)(items2:AY Ai)(n2:Ag)(dd:Ap Am)(sl:AY (Ap Ai))(hs0:¬(!items.isEmpty&&DE (items.size+items2.size))=Aa)(hs1:items.size<=sizeLine)(hs2:items.size+items2.size<=sizeLine+1):
  Meets (Builtin.«list.extend» ⟨[.ref l,.ref b],[]⟩) (λ_ R s=>s.heap.get? l=Ab { cls:=.type "list",dict:=Ae,data:=.seq items n,slots:=#[] }/\s.heap.get? b=Ab { cls:=.type "tuple",dict:=dd,data:=.seq items2 n2,slots:=sl }/\R (.ok (.ret Dt)) {s with heap:=s.heap.update l (Cd λx=>x++items2),toks:=s.toks}):=
 .of_wp λprog w A R s h=>by
  obtain⟨hp,g,d,tk,os⟩:=s;obtain⟨hl,hb,h⟩:=h;have f1:=AutoSeq1.idx_int;have f2:=AutoSeq1.sub_tuple_tuple;have f3:=AutoSeq1.sub_list_list;have f4:=AutoSeq1.sub_tuple_list;have f5:=AutoSeq1.sub_list_tuple;
  have hz':(items++items2).size<=sizeLine+1:=by rw[Array.size_append];exact hs2
  wp_walk using (EK hl rfl (hz:=hs1) (_hz':=hz')),W5 hl,W5 hb;exact⟨_,rfl,h⟩
end
section
variable{X:Cx}
def xF(K:Fg):V->Ac V->Hp->VK->Prop:=λx vs H Q=>∃ l b xs zs,x=.ref l/\vs=[.ref b]/\H l=Ab (.lst xs)/\SqT K H b zs/\xs.length+zs.length<=sizeLine/\Q .non (upd H l (.lst (xs++zs)))
theorem mJ:MtM X "list.extend" (xF X.K):=by
 intro pI s Z H x vs v us Q I rx rv h;obtain⟨l,b,xs,zs,rfl,rfl,hH,hB,hz,q⟩:=h;cases rx;obtain⟨u,rfl,ru⟩:=rv.one;cases ru;obtain⟨z,its,n,r,hl,e⟩:=I.lstM hH;obtain⟨its2,r2,⟨o,e2,c2,n2,d2⟩,z2⟩:=I.tuple hB;have hl2:=r2.length;obtain⟨oc,od,oda,os⟩:=o;dsimp only at c2 d2;subst c2 d2;have hsz:its.toArray.size+its2.toArray.size<=sizeLine:=by rw[AC,AC];omega
 have hlong:¬ (!its.toArray.isEmpty&&DE (its.toArray.size+its2.toArray.size))=Aa:=by
  rw[TU hsz,FJ];exact AW
 refine IW EX ⟨_,e,rfl⟩ XN (XF _ _)
  (lR l its.toArray n b its2.toArray n2 od os hlong (by rw[AC];omega) (by omega)) ⟨e,e2,?_⟩
 refine⟨.non,_,I.lset (its':=its++its2) hH e (by simp) (r.append r2) ?_,rfl,q⟩
 rw[Ch];omega
variable{CL:ClA}{W:XW}{o e:An}{fe:Rho->R D}{i:Ag}{apos cpos pos:A7}
theorem gN(ho:PE X o (GP i))(he:ST X CL W e fe)(hbase:F9 o "extend" X.env (eval o X.env)=eval o X.env)(hfew:((C4 cpos (AF [e] X.env)).all (λx=>!x.1)&&(JX cpos (Iq [] X.env)).all (λx=>x.1.isSome)&&decide ([e].length+([]:Ac EH).length+(if ([]:Ac EH).isEmpty then 0 else 1)<30))=Aa)(hline:(apos.endLine==cpos.line)=Aa)(hs:AF [e] X.env=[(Af,eval e X.env)])(hsw:DJ (.Call (.Attribute o "extend" apos) [e] [] cpos) Ae pos.line X.env=pure Af):
  SS X CL W (.Expr (.Call (.Attribute o "extend" apos) [e] [] cpos) pos) (λU=>O.of U (C7 U i) λxs=>O.of U (fe U) λx=>O.of U ((C1 .Add x (.tup [])).bind λy=>biD .list [y]) λd=>O.of U (Li d) λys=>if Di (xs.length+ys.length)=Aa then .next (U.set i (Ab (.lst (xs++ys),Aa))) else .bad):=λFz B pI s Z H D I ⟨U,x,p⟩=>by
 refine Nh (NP EB EX XZ mJ ho (Fo (he (BG B U Z)) G0 hs) hbase hfew hline hs rfl) hsw pI s Z H D I ?_;dsimp only at p;cases e1:C7 U i with
 |bad=>rw[e1]at p;exact p.elim
 |exn z=>exact(LY e1).elim
 |ok ds=>
  rw[e1,O.of_ok]at p;have hi:=L9 e1;obtain⟨a,xs,ds',q,e2,ha,hh,r⟩:=x.good.ow i _ hi;cases e2;refine⟨_,q,.inl ⟨rfl,xs,SqL.of hh⟩,x.aok,U,x.good,CQ.ex x p λd v H' _ s rv x' q'=>?_⟩
  cases d with
  |tup es=>
   obtain⟨b,ys,rfl,h0,h1,rs⟩:=Dh.tup_of rv;have eb:C1 .Add (.tup es) (.tup [])=if (!es.isEmpty&&Di (es.length+0))=Aa then .ok (.tup (es++[])) else .bad:=rfl
   rw[eb]at q';split at q'
   .rw[R.bind_ok,show biD .list [.tup (es++[])]=.ok (.lst (es++[])) from rfl,O.of_ok,SN,O.of_ok,Do]at q'
    split at q'
    .rename_i hz;refine⟨a,b,xs,ys,rfl,rfl,s _ _ hh,h1,?_,q' _ _ (x'.upd hi q ((r.same s).append rs))⟩;rw[r.length,rs.length];exact IZ hz
    .exact q'.elim
   .exact q'.elim
  |_=>exact q'.elim
end
section
open PySem.AutoSeq1 (wpAny_loadPart')
end
section
variable{prog:AT}{w:AE}{A:Bc}{R:Ju->As->Prop}{I S T:Am}{u v:Ai}{c:Ag}{P:Ag->Ai->Prop}{St:Ag->AJ->Prop}{s:As}{r q:Ac Ad}
end
section
variable{X:Cx}{CL:ClA}{W:XW}
end
def Oc(e T:Am)(cls:Ai)(dx:Ap Am)(fl:Ai)(h:AJ):Prop:=∃ oe vs oT ts a0,h.get? e=Ab oe/\oe.cls=cls/\oe.dict=dx/\vs[0]?=Ab a0/\oe.data=.fields vs/\vs[1]?=Ab (.ref T)/\T≠e/\h.get? T=Ab oT/\oT.data=.fields ts/\ts[3]?=Ab fl
noncomputable abbrev Fly(e T:Am)(cls:Ai)(dx:Ap Am)(h:AJ):Prop:=Oc e T cls dx Dt h
noncomputable def zL(C:Am)(dx:Ap Am)(t:Am):Dg:={cls:=.ref C,dict:=dx,data:=.fields #[.ref t,.none,.none,.none,.bool Af,.none]}
structure Shift (ex fs:Ac Am) (h h':AJ):Prop where
 keep:∀ b o,h.get? b=Ab o->b∉ex->b∉fs->h'.get? b=Ab o
 slot:∀ b o,h.get? b=Ab o->b∈fs->∃ sl,h'.get? b=Ab {o with slots:=sl}
theorem Shift.trans{fs:Ac Am}{h1 h2:AJ}(a:Shift ex fs h h1)(b:Shift ex fs h1 h2):Shift ex fs h h2:=
 ⟨λc o q n m=>b.keep c o (a.keep c o q n m) n m,λc o q m=>by
  obtain⟨sl,e1⟩:=a.slot c o q m;obtain⟨sl',e2⟩:=b.slot c _ e1 m;exact⟨sl',e2⟩⟩
theorem ObjOk.isThere:∀(o:HO),L2.ObjOk P w H h a o->∃ ob,h.get? a=Ab ob
 |.lst _,x=>by obtain⟨_,_,_,_,e⟩:=x;exact⟨_,e⟩
 |.tup _,x=>by obtain⟨_,_,_,p⟩:=x;obtain⟨o,e,_⟩:=p;exact⟨_,e⟩
 |.dK _,x=>by obtain⟨_,_,_,_,o,_,_,e,_⟩:=x;exact⟨_,e⟩
 |.dT _,x=>by obtain⟨_,_,_,_,o,_,_,e,_⟩:=x;exact⟨_,e⟩
 |.set _ _,x=>by obtain⟨o,_,_,_,e,_⟩:=x;exact⟨_,e⟩
 |.ins _ _ _,x=>by obtain⟨_,_,_,e,_⟩:=x;exact⟨_,e⟩
 |.own _,x=>x
 |.xd _,x=>by obtain⟨_,⟨_,_,_,e,_⟩,_⟩:=x;exact⟨_,e⟩
 |.met _ _,x=>⟨_,x⟩
 |.rng _ _,x=>by obtain⟨_,_,_,e⟩:=x;exact⟨_,e⟩
 |.frz _ _,x=>⟨_,x.1⟩
 |.tbl _,x=>⟨_,x⟩
 |.ext _,x=>x.2.1
theorem T3(x:HOk P w H h)(e:h.get? a=Ae):H a=Ae:=by
 cases q:H a with
 |none=>rfl
 |some o=>
  obtain⟨ob,z⟩:=ObjOk.isThere o (x a o q);rw[e]at z;cases z
theorem HOk.shift{fs:Ac Am}(x:HOk P w H h)(sh:Shift ex fs h h')(h1:∀ b∈ex,H b=Ae)(h2:∀ b∈fs,H b=Ae):HOk P w H h':=λa o e=>
 (x a o e).stay (λb u hb q=>by
  have hs:∃ v,H b=Ab v:=by
   rcases hb with rfl|hb
   .exact⟨_,e⟩
   .exact⟨_,hb⟩
  obtain⟨v,hv⟩:=hs;exact sh.keep b u q (λz=>by rw[h1 b z]at hv;cases hv) (λz=>by rw[h2 b z]at hv;cases hv)) (λ_ q=>q) λ_ _ q=>q
theorem Un.shift{fs0 fs ex:Ac Am}{H':Hp}{h0:AJ}(u:Un fs0 [] H H' h0 h)(sh:Shift ex fs h h')(h1:∀ b∈ex,h0.get? b=Ae)(h2:∀ b∈fs,b∈fs0\/h0.get? b=Ae):Un fs0 [] H H' h0 h' where
 keep:=λb o q n hb hx=>sh.keep b o (u.keep b o q n hb hx) (λz=>by rw[h1 b z]at q;cases q) λz=>(h2 b z).elim hb λe=>by rw[e]at q;cases q
 slot:=λb o q n hb hx=>by
  obtain⟨sl,e1⟩:=u.slot b o q n hb hx;by_cases hf:b∈fs
  .obtain⟨sl',e2⟩:=sh.slot b _ e1 hf;exact⟨sl',e2⟩
  .exact⟨sl,sh.keep b _ e1 (λz=>by rw[h1 b z]at q;cases q) hf⟩
 free:=u.free
 there:=λb o q hx=>by
  obtain⟨o',e1⟩:=u.there b o q hx;by_cases hf:b∈fs
  .obtain⟨sl',e2⟩:=sh.slot b _ e1 hf;exact⟨_,e2⟩
  .exact⟨o',sh.keep b _ e1 (λz=>by rw[h1 b z]at q;cases q) hf⟩
 tups:=u.tups
 frzs:=u.frzs
 tbls:=u.tbls
theorem mB(f:AY Ai->AY Ai)(o:Dg):(F8 f o).dict=o.dict:=by
 obtain⟨c,d,dt,sl⟩:=o;cases dt<;>rfl
section
variable{M:JR}{A:Bc}{E:Vq}{s:As}{env:CU}{outer:Ac CU}{L e T:Am}{cls:Ai}{dx:Ap Am}{base h:AJ}
theorem SY{hd:Ai}{nx:Aj}(hfr:A.frames=Ab (env::outer))(hf:env.frame=Ab L)(ff:s.heap.FunFrames base (env::outer))(he:s.heap.get? e=Ab oe)(dt:oe.data=.fields vs)(hz:1<vs.size)(hQ:∀ h' T' oT ts,h'.get? e=Ab (F8 (·.setIfInBounds 1 (.ref T')) oe)->T'≠e->s.heap.get? T'=Ae->h'.get? T'=Ab oT->oT.data=.fields ts->ts[3]?=Ab (Co L)->Shift [e] (frs (env::outer)) s.heap h'->Q () {s with heap:=h'}):
  AB M A (do
   let fr <-frameOf env
   let pl <-entryPlaceOf L nx
   let en <-Xb hd fr .none (Co L) .none pl
   setField (.ref e) 1 en) Q E s:=by
 have nf:e∉frs (env::outer):=λz=>by
  obtain⟨_,o,q,n⟩:=ff.mem z;rw[he]at q;cases q;exact n vs dt
 refine Ah (wpAny_frameOf_fun hfr ff hf λk1 so=>Ah (wpAny_entryPlaceOf λpl ip=>?_))
 obtain⟨sz,sm,sl⟩:=so;have e1:k1.get? e=Ab oe:=(sm e nf).trans he;unfold Xb;unfold newFields;refine Ah (CI ?_ (ip.sizeOk5 _ _ _ _ _));generalize hX:({ cls:=.type "traceback",dict:=Ae,data:=.fields ([hd,.ref L,.none,Co L,.none]++(if pl.isEmpty then GZ 6 Dt else pl)).toArray }:Dg)=ob
 have od:ob.data=.fields ([hd,.ref L,.none,Co L,.none]++(if pl.isEmpty then GZ 6 Dt else pl)).toArray:=by rw[<-hX]
 have nl:k1.objs.size≠e:=CJ (Ax e1);have e2:=Ar ob e1;refine FQ e2 dt hz ?_;have up:∀ b,b≠e->((k1.push ob).update e (F8 (·.setIfInBounds 1 (.ref k1.objs.size)))).get? b=(k1.push ob).get? b:=λb nb=>B6 _ _ (BA nb)
 have lf:ob.isFreed=Af:=by rw[<-hX];rfl
 refine hQ _ k1.objs.size ob _ (B8 _ e2 (E0 (Dv dt _))) nl ?_ ((up _ nl).trans (Aw k1 lf)) od ?_ ⟨λb o q n1 n2=>?_,λb o q hb=>?_⟩
 .rw[sz];exact GD (A6 _)
 .simp
 .have nb:b≠e:=λz=>n1 (by rw[z];exact Az)
  rw[up b nb];exact Ar ob ((sm b n2).trans q)
 .obtain⟨sl',q'⟩:=sl b o q;have nb:b≠e:=λz=>nf (z ▸ hb)
  exact⟨sl',(up b nb).trans (Ar ob q')⟩
theorem Ti{oT:Dg}{ts:AY Ai}{fl:Ai}(hc:oe.cls=cls)(hx:oe.dict=dx)(h0:vs[0]?=Ab a0)(dt:oe.data=.fields vs)(hz:1<vs.size)(g:h'.get? e=Ab (F8 (·.setIfInBounds 1 (.ref T')) oe))(ne:T'≠e)(gT:h'.get? T'=Ab oT)(dT:oT.data=.fields ts)(f3:ts[3]?=Ab fl):Oc e T' cls dx fl h':=
 ⟨_,_,oT,ts,a0,g,(X3 _ _).trans hc,(mB _ _).trans hx,by rw[Array.getElem?_setIfInBounds_ne (by decide)];exact h0,Dv dt _,by simp[hz],ne,gT,dT,f3⟩
theorem KS{i:Ag}{v:Ai}(q:vs[i]?=Ab v):i<vs.size:=(Ff.mp q).1
theorem eV(hfr:A.frames=Ab (env::outer))(hf:env.frame=Ab L)(ff:s.heap.FunFrames base (env::outer))(fl:Fly e T cls dx s.heap)(hQ:∀ h' T',Oc e T' cls dx (Co L) h'->Shift [e,T] (frs (env::outer)) s.heap h'->s.heap.get? T'=Ae->Q () {s with heap:=h'}):AB M A (JA (.ref e) env) Q E s:=by
 obtain⟨oe,vs,oT,ts,a0,he,hc,hx,h0,dt,h1,ne,hT,dT,h3⟩:=fl;have z3:=KS h3;unfold JA;simp only[hf];refine Ah (Bh he dt h1 ?_);rw[AI (by simp:(Dq T != Dt)=Aa)]
 refine Ah (Bh hT dT h3 ?_);rw[AV (by simp[Co]:¬ (Dt==Co L)=Aa)]
 refine Ah (FQ hT dT z3 ?_);have up:∀ b,b≠T->(s.heap.update T (F8 (·.setIfInBounds 3 Dt))).get? b=s.heap.get? b:=λb nb=>B6 _ _ (BA nb)
 have rcd:∀ b o,s.heap.get? b=Ab o->(∀ us,o.data≠.fields us)->b≠T:=λb o q n z=>by
  rw[z,hT]at q;cases q;exact n ts dT
 refine SY (base:=base) hfr hf (ff.of_keeps λb o q n=>⟨o,(up b (rcd b o q n)).trans q,rfl⟩) ((up e (BA ne)).trans he) dt (KS h1) λh' T' oT' ts' g nT gn gT dT' f3 sh=>?_
 have T0:s.heap.get? T'=Ae:=by
  by_cases z:T'=T
  .rw[z]at gn;rw[B8 _ hT (E0 (Dv dT _))]at gn;cases gn
  .rw[<-up T' z];exact gn
 refine hQ h' T' (Ti hc hx h0 dt (KS h1) g nT gT dT' f3) ⟨λb o q n1 n2=>?_,λb o q hb=>?_⟩ T0
 .simp only[At,AR,BO,DR]at n1;exact sh.keep b o ((up b n1.2).trans q) (by simp[n1.1]) n2
 .obtain⟨_,o',q',n⟩:=ff.mem hb;rw[q]at q';cases q';exact sh.slot b o ((up b (rcd b o q n)).trans q) hb
theorem UW{fv:Ai}(fl:Oc e T cls dx fv s.heap)(hQ:∀ h',Fly e T cls dx h'->(∀ b o,b≠T->s.heap.get? b=Ab o->h'.get? b=Ab o)->Q () {s with heap:=h'}):AB M A (setFlight (.ref e) Ae) Q E s:=by
 obtain⟨oe,vs,oT,ts,a0,he,hc,hx,h0,dt,h1,ne,hT,dT,h3⟩:=fl;have z3:=KS h3;unfold setFlight;refine Ah (Bh he dt h1 ?_);rw[AI (by simp:(Dq T != Dt)=Aa)]
 refine FQ hT dT z3 (hQ _ ?_ λb o nb q=>(B6 _ _ (BA nb)).trans q)
 exact⟨oe,vs,_,_,a0,(B6 _ _ ne).trans he,hc,hx,h0,dt,h1,ne,B8 _ hT (E0 (Dv dT _)),Dv dT _,by simp[z3]⟩
theorem Si{h1 h2:AJ}(ff:s.heap.FunFrames base (env::outer))(sh:Shift ex (frs (env::outer)) s.heap h1)(hT:s.heap.get? T'=Ae)(k:∀ b o,b≠T'->h1.get? b=Ab o->h2.get? b=Ab o):Shift ex (frs (env::outer)) s.heap h2:=
 ⟨λb o q n1 n2=>k b o (λz=>by rw[z,hT]at q;cases q) (sh.keep b o q n1 n2),λb o q hb=>let ⟨sl,q'⟩:=sh.slot b o q hb;⟨sl,k b _ (λz=>by rw[z,hT]at q;cases q) q'⟩⟩
theorem bX(hfr:A.frames=Ab (env::outer))(hf:env.frame=Ab L)(ff:s.heap.FunFrames base (env::outer))(fl:Fly e T cls dx s.heap)(hQ:∀ h' T',Fly e T' cls dx h'->Shift [e,T] (frs (env::outer)) s.heap h'->(T'=T\/s.heap.get? T'=Ae)->Q () {s with heap:=h'}):AB M A (leaving env (.ref e)) Q E s:=by
 unfold leaving;exact Ah (eV hfr hf ff fl λh1 T' f1 sh hT=>UW f1 λh2 f2 k=>hQ h2 T' f2 (Si ff sh hT k) (.inr hT))
theorem ZU(hfr:A.frames=Ab (env::outer))(hf:env.frame=Ab L)(ff:s.heap.FunFrames base (env::outer))(he:s.heap.get? e=Ab oe)(hc:oe.cls=cls)(hx:oe.dict=dx)(dt:oe.data=.fields vs)(h0:vs[0]?=Ab a0)(h1:vs[1]?=Ab .none)(hQ:∀ h' T',Fly e T' cls dx h'->Shift [e] (frs (env::outer)) s.heap h'->s.heap.get? T'=Ae->Q () {s with heap:=h'}):AB M A (leaving env (.ref e)) Q E s:=by
 unfold leaving JA;simp only[hf];refine Ah (Ah (Bh he dt h1 ?_));rw[AV (by decide)]
 exact SY (base:=base) hfr hf ff he dt (KS h1) λh' T' oT ts g nT gn gT dT f3 sh=>UW (Ti hc hx h0 dt (KS h1) g nT gT dT f3) λh2 f2 k=>hQ h2 T' f2 (Si ff sh gn k) gn
end
def CXR(P:AT)(w:AE):CXT:=λouter H s E ev s'=>∃ e T cls dx H',ev=.ref e/\s'.os=s.os/\FN s'.gens/\Un (frs outer) [] H H' s.heap s'.heap/\HOk P w H' s'.heap/\Fly e T cls dx s'.heap/\H' e=Ae/\H' T=Ae/\s.heap.get? e=Ae/\s.heap.get? T=Ae/\E cls dx H'
def Rj(X:Cx)(CL:ClA)(W:XW):Prop:=∀ pI Z H s e C dx t x,Inv X pI Z H s->(X.ex=[]->X.s₀.heap.get? e=Ae)->H e=Ae->s.heap.get? e=Ab (zL C dx t)->HY X.K CL H (.ref C) dx x->W x H->X.xe (.ref e) s
section
variable{P:AT}{w:AE}{K:Fg}{mg:Al->Ap Ai}{base:AJ}{N:Ac Al}{qual:Al}{scope:Cq}{f:Am}{cd:Ai}{A:Bc}{outer:Ac CU}{s:As}{H:Hp}{E:XK}{CL:ClA}{W:XW}
theorem Uq(I:Inv X pI Z H s):∀ b∈frs X.stack,b∈X.fs\/X.s₀.heap.get? b=Ae:=λb hb=>by
 rcases At.mp (I.stkSub b hb) with z|z
 .exact .inr (by rw[z];exact GD I.ok.above)
 .exact .inl z
theorem M0{b:Am}(I:Inv X pI Z H s)(hx:X.ex=[])(h:s.heap.get? b=Ae):X.s₀.heap.get? b=Ae:=by
 cases q:X.s₀.heap.get? b with
 |none=>rfl
 |some o=>
  obtain⟨o',z⟩:=I.base.there b o q (by rw[hx];simp)
  rw[h]at z;cases z
theorem aj(hE:∀ x cls dx H',W x H'->HY K CL H' cls dx x->E cls dx H'):∀ A',K7 (CXR P w) (G4 (CXR P w) P w K mg base N qual scope f cd A outer s H E) (EKW K CL A' W):=by
 intro A' pI Z H1 s1 ev s2 I h;obtain⟨e,T,cls,dx,H',rfl,os,bare,un,hok,fl,he,hT,ne,nT,x,xr,wx⟩:=h;have I':=I.call' (s':=s2) (ch:=[]) os un hok bare (λb z=>absurd z (by simp))
 have hb0:Un (frs outer) [] H H' s.heap s2.heap:=I'.base;show AB (model P w) (A.deeper (Fi qual scope s.heap.objs.size f cd)) (leaving (Fi qual scope s.heap.objs.size f cd) (.ref e)) _ _ s2;refine bX (L:=s.heap.objs.size) I'.ok.frames rfl I'.stack fl λh' T' fl' sh hT'=>?_
 have e0:s.heap.get? e=Ae:=M0 I rfl ne;have T0:s.heap.get? T=Ae:=M0 I rfl nT;refine⟨e,T',cls,dx,H',rfl,I'.os,bare,Un.shift hb0 sh ?_ (Uq I'),HOk.shift hok sh ?_ I'.stkFree,fl',he,?_,e0,?_,?_⟩
 .intro b hb;rcases At.mp hb with rfl|hb
  .exact e0
  .rw[Ci.mp hb];exact T0
 .intro b hb;rcases At.mp hb with rfl|hb
  .exact he
  .rw[Ci.mp hb];exact hT
 .rcases hT' with rfl|z
  .exact hT
  .exact T3 hok z
 .rcases hT' with rfl|z
  .exact T0
  .exact M0 I' rfl z
 .exact hE x cls dx H' wx xr
theorem rzR(hE:∀ x cls dx H',W x H'->HY K CL H' cls dx x->E cls dx H'):Rj (G4 (CXR P w) P w K mg base N qual scope f cd A outer s H E) CL W:=by
 intro pI Z H1 s1 e C dx t x I e0 he ge xr hw;have hb0:Un (frs outer) [] H H1 s.heap s1.heap:=I.base;have e0':s.heap.get? e=Ae:=e0 rfl;show AB (model P w) (A.deeper (Fi qual scope s.heap.objs.size f cd)) (leaving (Fi qual scope s.heap.objs.size f cd) (.ref e)) _ _ s1;refine ZU (cls:=.ref C) (dx:=dx) (L:=s.heap.objs.size) I.ok.frames rfl I.stack ge rfl rfl rfl (a0:=.ref t) rfl rfl λh' T' fl' sh hT'=>?_
 have one:∀{Z_:Am->Prop},Z_ e->∀ b∈[e],Z_ b:=λ{Z_} z b hb=>by rw[Ci.mp hb];exact z
 exact⟨e,T',.ref C,dx,H1,rfl,I.os,I.bare,Un.shift hb0 sh (one e0') (Uq I),HOk.shift I.hok sh (one (Z_:=λb=>H1 b=Ae) he) I.stkFree,fl',he,T3 I.hok hT',e0',M0 I rfl hT',hE x _ dx H1 hw xr⟩
theorem ownR:Gu (model P w) (G4 (CXR P w) P w K mg base N qual scope f cd A outer s H E).A (G4 (CXR P w) P w K mg base N qual scope f cd A outer s H E).env (G4 (CXR P w) P w K mg base N qual scope f cd A outer s H E).xe:=PassesOwn.leaving
end
noncomputable def veB:Ac Ai:=[.type "ValueError",.type "Exception",.type "BaseException",.type "object"]
noncomputable def Ls(K:Fg)(C:Am)(v:Ap Ai):Aj:=match K.lookup C with
  | some ⟨.type "type",_,.cls c,z⟩=>(match c.mro,z.toList with
    |.ref c0::tl,[_,_,_,_,Ab (.builtin nw),_]=>c0==C&&(nw == "ValueError.__new__" && (!c.hasDel&&(PySem.W.tailIn K veB tl&&(PySem.W.nsOkIn K c.ns&&BY K c.ns "__init__" == Ab v))))
    | _,_=>Af)
  |_=>Af
structure XcOk (K:Fg) (C:Am):Prop where
 exc:∃ v,Ls K C v=Aa
 ga:CV K (.ref C) "__getattribute__" = Ab (Ab (.builtin "BaseException.__getattribute__"))
 gt:CV K (.ref C) "__getattr__" = Ab Ae
 cl:CV K (.ref C) "__class__" = Ab (Ab (.builtin "object.__class__"))
 ob:PySem.W.mroIn K C (.type "object")=Ab Aa
 be:Yr K (.ref C) (.type "BaseException")=Ab Aa
 cs:(PySem.W.clsIn K C).isSome=Aa
 ve:Yp K (.ref C) (.type "ValueError")=Ab Aa
section
variable{prog:AT}{w:AE}{A:Bc}{E:Vq}{h:AJ}{g:AY Fb}{d:IS}{t:Ag}{os:IK}{K:Fg}{e C:Am}
end
def Wk(X:Cx)(pI:Pn)(e:Am):Prop:=e≠X.env.locals/\(∀ x c,X.env.cells.lookup x=Ab c->c≠e)/\(∀ p∈X.pn++pI,p.1≠e)/\X.s₀.heap.get? e=Ae
section
variable{X:Cx}{pI:Pn}{Z:L2.St}{H:Hp}{s:As}{e:Am}
end
noncomputable def Cx.hot(X:Cx)(e:Am):Cx:={X with A:=X.A.mark (Ab (.ref e)),calm:=Af,xe:=λ_ _=>Bz}
section
variable{X:Cx}{pI:Pn}{Z:L2.St}{H:Hp}{s:As}{e:Am}
end
noncomputable def cq(X:Cx)(CL:ClA)(pI:Pn)(Z:L2.St)(H:Hp)(y:Ex)(Xw:Vq):Prop:=
 ∀ s' H' e T cls dx,Inv X pI Z H' s'->AM H H'->Fly e T cls dx s'.heap->H' e=Ae->H' T=Ae->Wk X pI e->Wk X pI T->HY X.K CL H' cls dx y->Xw (.ref e) s'
def STB(X:Cx)(CL:ClA)(body:Ac Bx)(f:Rho->O):Prop:=∀ Fz B pI s Z H D U (Xw:Vq),Gu (model X.prog X.w) X.A X.env Xw->Inv X pI Z H s->Sx X.K CL Fz B U Z H ->
  (match f U with
   |.exn y U'=>U'=U->cq X CL pI Z H y Xw
   | o=>CQ X.K CL Fz B (λ_ _=>Bz) o D)->(∀ y U',f U=.exn y U'->U'=U)->AB (model X.prog X.w) X.A (execs body X.env) (SP X pI D) Xw s
noncomputable def Cx.pw(X:Cx)(pI:Pn)(Xw:Vq):Cx:={X with pn:=X.pn++pI,xe:=Xw}
section
variable{X:Cx}{pI pins':Pn}{Z:L2.St}{H:Hp}{s:As}{Xw:Vq}
end
section
variable{X:Cx}{CL:ClA}{k n:Ag}{fr:Aj}{f:Am}{fd:Cs}{ps:Ac Al}{F:Ac D->R D}{x:Al}{p pos pos2:A7}{e:An}{es:Ac An}{fs ft:Rho->R (Ac D)}{sh:Rho->Aj}
variable(hx0:X.ex=[])(G:FnOk X.prog X.w X.K X.mg X.base (CXR X.prog X.w) k f fd ps (spD X.K CL n fr F))(hr:Room k X.A)(hg:Gl X x)(hm:X.mg x=Ab (.ref f))
    (hk:Dx X.K (.ref f)=Aa) (hb:IB X.K fd ps []) (hst:∀ U,sh U=Aa->ft U=fs U) (hn:∀ U ds,ft U=.ok ds->ds.length=n) (hnx:∀ U y,ft U≠.exn y)
    (hdb:(x==("__debug__" : Al))=Af) (he:AF (e::es) X.env=(Af,eval e X.env)::AF es X.env) (hpl:∀ pos,(C4 pos (AF es X.env)).any (·.1)=Af)
    (ha:∀ pI Xw,Gu (model X.prog X.w) X.A X.env Xw->SA (Cx.pw X pI Xw) CL (λ_ _=>Bz) (e::es) fs/\SAT (Cx.pw X pI Xw) CL (λ_ _=>Bz) (e::es) ft)
include hx0 G hr hg hm hk hb hst hn hnx hdb he hpl ha
end
section
variable{X:Cx}{CL:ClA}{W:XW}
def vH(K:Fg)(CL:ClA)(up:Ag->Ac Ag)(c':Ag)(C':Am):Prop:=∀ c C,CL c=Ab C->Yp K (.ref C) (.ref C')=Ab ((up c).contains c')
variable{a:An}{fa:Rho->R D}{up:Ag->Ac Ag}{x:Al}{p p2 pos:A7}
end
end Ov
section
namespace Ov
open PySem PySem.Spec PyProof.Rows L2
end Ov
end
namespace Ov
open PySem PySem.Spec PyProof.Rows L2
variable{α:Type}{g x qual x0 x1:Al}{as:Es}{X:Cx}{CL:ClA}{fr:Aj}{pos p:A7}{xs ys:Ac An}{env:CU}{l kk k:Ag}{scope:Cq}{ts:Ac Ag}{C:Am}{H:Hp}{vs:Ac V}{K:Fg}{fd:Cs}{xn:Ag->Ac D->R Ex}{CX:CXT}{ps:Ac Al}{h:AJ}
noncomputable abbrev Zs:CXT:=λ_ _ _ _ _ _=>Bz
structure HotOk (P:AT) (w:AE) (K:Fg) (mg:Al->Ap Ai) (base:AJ) (k:Ag) (f:Am) (fd:Cs) (ps:Ac Al) (sp:Sp):Prop where
 len:∀ vs H Q E,sp vs H Q E->vs.length=ps.length
 run:∀(A:Bc)(ev:Am)(outer:Ac CU)(s:As)(H:Hp)(args:Args)(us:Ac Ai)(vs:Ac V)(Q:VK)(E:XK),Room k A->Env0 P w K mg base (A.mark (Ab (.ref ev))) outer s H->HB s fd args (ps.zip us)->Bi vs us->sp vs H Q E ->
  FP (model P w) (A.mark (Ab (.ref ev))) (.call (.ref f) args) (CR Zs outer P w H s Q E) s
def spH(K:Fg)(CL:ClA)(n:Ag)(fr:Aj)(F:Ac D->R D):Sp:=λvs H Q _=>∃(ds:Ac D)(A:Am->Prop),vs.length=n/\AOk H A/\Reps K CL H A vs ds/\(match F ds with
  |.ok d=>∀ v H',AM H H'->E6 K CL fr H A H' v d->Q v H'
  |.exn _=>Bz
  | .bad=>Bz)
section
variable{X:Cx}{CL:ClA}{ev:Am}
end
section
variable{M:JR}{A:Bc}{E:Vq}{s:As}{env:CU}{nm q:Al}{C N:Am}{bs bm bmB:Ac Ai}{hdct:Aj}{sn:Ac Al}{sub:Ac Ai}{ab:Aj}{col:Ap Aj}{dd:Ap Am}{k0 k1 k2 k3 k5:Ap Ai}{B newId initId:Dj}
end
section
variable{prog:AT}{w:AE}{A:Bc}{E:Vq}{h:AJ}{g:AY Fb}{d:IS}{t:Ag}{os:IK}
variable{nm q:Al}{C N fI:Am}{bs bm bmB:Ac Ai}{hdct:Aj}{sn:Ac Al}{sub:Ac Ai}{ab:Aj}{col:Ap Aj}{dd:Ap Am}{k0 k1 k2 k3 k5:Ap Ai}{B newId initId:Dj}{mN:Al->Ap Ai}{rest:Ac Ai}{oI:Dg}
end
section
variable{prog:AT}{w:AE}{A:Bc}{E:Vq}{s:As}{env:CU}
variable{nm q:Al}{C N fI:Am}{bs bm bmB:Ac Ai}{hdct:Aj}{sn:Ac Al}{sub:Ac Ai}{ab:Aj}{col:Ap Aj}{dd:Ap Am}{k0 k1 k2 k3 k5:Ap Ai}{B newId initId:Dj}{mN:Al->Ap Ai}
end
section
variable{prog:AT}{w:AE}{A:Bc}{E:Vq}{h:AJ}{g:AY Fb}{d:IS}{tk0:Ag}{os:IK}
variable{nm q:Al}{C N e t:Am}{dx:Ap Am}{bs bm bmB:Ac Ai}{hdct:Aj}{sn:Ac Al}{sub:Ac Ai}{ab:Aj}{col:Ap Aj}{dd:Ap Am}{k0 k1 k2 k3 k5:Ap Ai}{B newId initId:Dj}
end
section
variable{X:Cx}{CL:ClA}{pI:Pn}{Z:L2.St}{H:Hp}{s:As}
end
section
variable{X:Cx}{CL:ClA}
end
section
variable{X:Cx}{CL:ClA}{C:Am}{nm q:Al}{N:Am}{bs bm:Ac Ai}{hdct:Aj}{sn:Ac Al}{sub:Ac Ai}{ab:Aj}{col:Ap Aj}{dd:Ap Am}{k0 k1 k2 k3 k5:Ap Ai}
end
section
variable{prog:AT}{w:AE}{A:Bc}{E:Vq}{h:AJ}{g:AY Fb}{d:IS}{tk0:Ag}{os:IK}{K:Fg}
variable{nm q:Al}{C N e t:Am}{bs bm bmB:Ac Ai}{sn:Ac Al}{sub:Ac Ai}{ab:Aj}{col:Ap Aj}{dd:Ap Am}{k0 k1 k2 k3 k5:Ap Ai}{B newId sa owner:Dj}
end
section
variable{prog:AT}{w:AE}{A:Bc}{E:Vq}{h:AJ}{g:AY Fb}{d:IS}{tk0:Ag}{os:IK}{K:Fg}
variable{nm q:Al}{C N e t:Am}{bs bm bmB:Ac Ai}{sn:Ac Al}{sub:Ac Ai}{ab:Aj}{col:Ap Aj}{dd:Ap Am}{k0 k1 k2 k3 k5:Ap Ai}{B newId sa owner:Dj}
end
section
variable{X:Cx}{pI:Pn}{Z:L2.St}{H:Hp}{s:As}{e:Am}
end
section
variable{X:Cx}{C:Am}{nm q:Al}{N:Am}{bs bm:Ac Ai}{sn:Ac Al}{sub:Ac Ai}{ab:Aj}{col:Ap Aj}{dd:Ap Am}{k0 k1 k2 k3 k5:Ap Ai}
end
noncomputable def Mp(K:Fg)(C:Am):Aj:=match K.lookup C with
  |some ⟨_,_,.cls c,_⟩=>c.hasDict
  |_=>Af
section
variable{P:AT}{w:AE}{K:Fg}{mg:Al->Ap Ai}{base:AJ}{CL:ClA}{C fI OV:Am}{x qual g par z f:Al}{st:Bx}{fd:Cs}{k:Ag}{np apos p1 p2 p3 p4 p5 cpos p6 p7 p8 p9 p10:A7}
variable{nm q:Al}{N:Am}{bs bm:Ac Ai}{sn:Ac Al}{sub:Ac Ai}{ab:Aj}{col:Ap Aj}{dd:Ap Am}{k0 k1 k2 k3 k5:Ap Ai}
end
section
variable{X:Cx}{CL:ClA}{W:XW}
end
section
variable{prog:AT}{w:AE}{A:Bc}{E:Vq}{h:AJ}{g:AY Fb}{d:IS}{t:Ag}{os:IK}{K:Fg}{e C dx:Am}{f:Al}{mA:Al->Ap Ai}{v:Ai}
end
section
variable{X:Cx}{CL:ClA}{W:XW}{K:Fg}{H:Hp}{A:Am->Prop}
end
theorem noF{P:Prop}(h:Af=Aa):P:=nomatch h
structure Tc where
 sc:Cq
 N:Ac Al
 /-- a def's name,its number,how many parameters it has -/
 fns:Ac (Al×Ag×Ag)
 /-- built-in names that the text does not hide -/
 bl:Ac Al
 /-- exceptions' classes by their names: those that are raised,all that are asked for -/
 rzs:Ac (Al×Ag)
 exs:Ac (Al×Ag)
 /-- the text's constants -/
 gls:Ac (Al×Ag)
noncomputable def Q6(T:Tc)(x:Al):Aj:=match T.sc.names.lookup x with
  |some .local=>Aa
  |some .cell=>Aa
  |some .free=>Aa
  |_=>Af
noncomputable def Kv(T:Tc)(x:Al):Aj:=match T.sc.names.lookup x with
  |some .local=>Aa
  |some .cell=>Aa
  |_=>Af
noncomputable def glB(T:Tc)(x:Al):Aj:=T.sc.names.lookup x==Ab .globalImplicit
noncomputable def Mq(x:Al):Aj:=!(x==("__debug__" : Al)) && !(x==("__classdict__" : Al)) && !(x==("__name__" : Al))
noncomputable def isV(T:Tc)(x:Al)(i:Ag):Aj:=T.N[i]? == Ab x&&Q6 T x&&Mq x
noncomputable def isB(T:Tc)(x:Al):Aj:=T.bl.contains x&&glB T x&&Mq x
theorem FI{a b:Aj}(h:(a&&b)=Aa):a=Aa/\b=Aa:=(Aq a b).mp h
theorem orT{a b:Aj}(h:(a||b)=Aa):a=Aa\/b=Aa:=(C3 a b).mp h
noncomputable def HV(e:An)(F:Al->Aj):Aj:=if c:e.ctorIdx=23 then Xu (motive_1:=λ_=>Aj) e c λx _=>F x else Af
theorem Iw{e:An}{F:Al->Aj}(h:HV e F=Aa):∃ x p,e=Xs x p/\F x=Aa:=by
 by_cases c:e.ctorIdx=23
 .exact Xu (motive_1:=λe=>HV e F=Aa->∃ x p,e=Xs x p/\F x=Aa) e c (λx p h=>⟨x,p,rfl,h⟩) h
 .exact noF ((CG c).symm.trans h)
noncomputable def La(e:An)(F:Const->Aj):Aj:=if c:e.ctorIdx=19 then Xn (motive_1:=λ_=>Aj) e c λc _ _=>F c else Af
theorem MZ{e:An}{F:Const->Aj}(h:La e F=Aa):∃ c u p,e=Xm c u p/\F c=Aa:=by
 by_cases c:e.ctorIdx=19
 .exact Xn (motive_1:=λe=>La e F=Aa->∃ c u p,e=Xm c u p/\F c=Aa) e c (λc u p h=>⟨c,u,p,rfl,h⟩) h
 .exact noF ((CG c).symm.trans h)
noncomputable def QE(e:An)(F:An->Ge->An->Aj):Aj:=if c:e.ctorIdx=2 then Xf (motive_1:=λ_=>Aj) e c λx o y _=>F x o y else Af
theorem dF{e:An}{F:An->Ge->An->Aj}(h:QE e F=Aa):∃ x o y p,e=Xe x o y p/\F x o y=Aa:=by
 by_cases c:e.ctorIdx=2
 .exact Xf (motive_1:=λe=>QE e F=Aa->∃ x o y p,e=Xe x o y p/\F x o y=Aa) e c (λx o y p h=>⟨x,o,y,p,rfl,h⟩) h
 .exact noF ((CG c).symm.trans h)
noncomputable def Lp(e:An)(F:JS->An->Aj):Aj:=if c:e.ctorIdx=3 then XE (motive_1:=λ_=>Aj) e c λo x _=>F o x else Af
theorem PV{e:An}{F:JS->An->Aj}(h:Lp e F=Aa):∃ o x p,e=XD o x p/\F o x=Aa:=by
 by_cases c:e.ctorIdx=3
 .exact XE (motive_1:=λe=>Lp e F=Aa->∃ o x p,e=XD o x p/\F o x=Aa) e c (λo x p h=>⟨o,x,p,rfl,h⟩) h
 .exact noF ((CG c).symm.trans h)
noncomputable def Lf(e:An)(F:BoolOp->Ac An->A7->Aj):Aj:=if c:e.ctorIdx=0 then Xh (motive_1:=λ_=>Aj) e c λo xs p=>F o xs p else Af
theorem Pl{e:An}{F:BoolOp->Ac An->A7->Aj}(h:Lf e F=Aa):∃ o xs p,e=Xg o xs p/\F o xs p=Aa:=by
 by_cases c:e.ctorIdx=0
 .exact Xh (motive_1:=λe=>Lf e F=Aa->∃ o xs p,e=Xg o xs p/\F o xs p=Aa) e c (λo xs p h=>⟨o,xs,p,rfl,h⟩) h
 .exact noF ((CG c).symm.trans h)
noncomputable def Lb(e:An)(F:An->Ac DA->Ac An->Aj):Aj:=if c:e.ctorIdx=15 then Xl (motive_1:=λ_=>Aj) e c λx os ys _=>F x os ys else Af
theorem Pk{e:An}{F:An->Ac DA->Ac An->Aj}(h:Lb e F=Aa):∃ x os ys p,e=Xk x os ys p/\F x os ys=Aa:=by
 by_cases c:e.ctorIdx=15
 .exact Xl (motive_1:=λe=>Lb e F=Aa->∃ x os ys p,e=Xk x os ys p/\F x os ys=Aa) e c (λx os ys p h=>⟨x,os,ys,p,rfl,h⟩) h
 .exact noF ((CG c).symm.trans h)
noncomputable def NK(e:An)(F:An->Ac An->Ac EH->A7->Aj):Aj:=if c:e.ctorIdx=16 then Xj (motive_1:=λ_=>Aj) e c λf as ks p=>F f as ks p else Af
theorem TN{e:An}{F:An->Ac An->Ac EH->A7->Aj}(h:NK e F=Aa):∃ f as ks p,e=Xi f as ks p/\F f as ks p=Aa:=by
 by_cases c:e.ctorIdx=16
 .exact Xj (motive_1:=λe=>NK e F=Aa->∃ f as ks p,e=Xi f as ks p/\F f as ks p=Aa) e c (λf as ks p h=>⟨f,as,ks,p,rfl,h⟩) h
 .exact noF ((CG c).symm.trans h)
noncomputable def QF(e:An)(F:An->Al->A7->Aj):Aj:=if c:e.ctorIdx=20 then Xd (motive_1:=λ_=>Aj) e c λo m p=>F o m p else Af
theorem dG{e:An}{F:An->Al->A7->Aj}(h:QF e F=Aa):∃ o m p,e=Xc o m p/\F o m p=Aa:=by
 by_cases c:e.ctorIdx=20
 .exact Xd (motive_1:=λe=>QF e F=Aa->∃ o m p,e=Xc o m p/\F o m p=Aa) e c (λo m p h=>⟨o,m,p,rfl,h⟩) h
 .exact noF ((CG c).symm.trans h)
noncomputable def Ml(e:An)(F:An->An->Aj):Aj:=if c:e.ctorIdx=21 then Xz (motive_1:=λ_=>Aj) e c λx y _=>F x y else Af
theorem Pj{e:An}{F:An->An->Aj}(h:Ml e F=Aa):∃ x y p,e=Xy x y p/\F x y=Aa:=by
 by_cases c:e.ctorIdx=21
 .exact Xz (motive_1:=λe=>Ml e F=Aa->∃ x y p,e=Xy x y p/\F x y=Aa) e c (λx y p h=>⟨x,y,p,rfl,h⟩) h
 .exact noF ((CG c).symm.trans h)
noncomputable def QJ(e:An)(F:Ap An->Ap An->Ap An->Aj):Aj:=if c:e.ctorIdx=26 then Xx (motive_1:=λ_=>Aj) e c λl u s _=>F l u s else Af
theorem cY{e:An}{F:Ap An->Ap An->Ap An->Aj}(h:QJ e F=Aa):∃ l u s p,e=Xv l u s p/\F l u s=Aa:=by
 by_cases c:e.ctorIdx=26
 .exact Xx (motive_1:=λe=>QJ e F=Aa->∃ l u s p,e=Xv l u s p/\F l u s=Aa) e c (λl u s p h=>⟨l,u,s,p,rfl,h⟩) h
 .exact noF ((CG c).symm.trans h)
noncomputable def K9(e:An)(F:Ac An->Aj):Aj:=if c:e.ctorIdx=25 then XC (motive_1:=λ_=>Aj) e c λxs _ _=>F xs else Af
theorem MQ{e:An}{F:Ac An->Aj}(h:K9 e F=Aa):∃ xs c p,e=XB xs c p/\F xs=Aa:=by
 by_cases c:e.ctorIdx=25
 .exact XC (motive_1:=λe=>K9 e F=Aa->∃ xs c p,e=XB xs c p/\F xs=Aa) e c (λxs c p h=>⟨xs,c,p,rfl,h⟩) h
 .exact noF ((CG c).symm.trans h)
noncomputable def QC(e:An)(F:Ac An->Aj):Aj:=if c:e.ctorIdx=24 then Xp (motive_1:=λ_=>Aj) e c λxs _=>F xs else Af
theorem dA{e:An}{F:Ac An->Aj}(h:QC e F=Aa):∃ xs p,e=Xo xs p/\F xs=Aa:=by
 by_cases c:e.ctorIdx=24
 .exact Xp (motive_1:=λe=>QC e F=Aa->∃ xs p,e=Xo xs p/\F xs=Aa) e c (λxs p h=>⟨xs,p,rfl,h⟩) h
 .exact noF ((CG c).symm.trans h)
noncomputable def QD(e:An)(F:An->Ac Jo->Cq->Aj):Aj:=if c:e.ctorIdx=8 then Xr (motive_1:=λ_=>Aj) e c λx gs sc _=>F x gs sc else Af
theorem dB{e:An}{F:An->Ac Jo->Cq->Aj}(h:QD e F=Aa):∃ x gs sc p,e=Xq x gs sc p/\F x gs sc=Aa:=by
 by_cases c:e.ctorIdx=8
 .exact Xr (motive_1:=λe=>QD e F=Aa->∃ x gs sc p,e=Xq x gs sc p/\F x gs sc=Aa) e c (λx gs sc p h=>⟨x,gs,sc,p,rfl,h⟩) h
 .exact noF ((CG c).symm.trans h)
noncomputable def QG(e:Bx)(F:Ac An->An->Aj):Aj:=if c:e.ctorIdx=5 then X8 (motive_2:=λ_=>Aj) e c λts v _=>F ts v else Af
theorem dH{e:Bx}{F:Ac An->An->Aj}(h:QG e F=Aa):∃ ts v p,e=X7 ts v p/\F ts v=Aa:=by
 by_cases c:e.ctorIdx=5
 .exact X8 (motive_2:=λe=>QG e F=Aa->∃ ts v p,e=X7 ts v p/\F ts v=Aa) e c (λts v p h=>⟨ts,v,p,rfl,h⟩) h
 .exact noF ((CG c).symm.trans h)
noncomputable def NG(e:Bx)(F:An->Aj):Aj:=if c:e.ctorIdx=24 then Yb (motive_2:=λ_=>Aj) e c λv _=>F v else Af
theorem TM{e:Bx}{F:An->Aj}(h:NG e F=Aa):∃ v p,e=X9 v p/\F v=Aa:=by
 by_cases c:e.ctorIdx=24
 .exact Yb (motive_2:=λe=>NG e F=Aa->∃ v p,e=X9 v p/\F v=Aa) e c (λv p h=>⟨v,p,rfl,h⟩) h
 .exact noF ((CG c).symm.trans h)
noncomputable def QK(e:Bx)(F:Ap An->Aj):Aj:=if c:e.ctorIdx=3 then Yg (motive_2:=λ_=>Aj) e c λo _=>F o else Af
theorem cZ{e:Bx}{F:Ap An->Aj}(h:QK e F=Aa):∃ o p,e=Ye o p/\F o=Aa:=by
 by_cases c:e.ctorIdx=3
 .exact Yg (motive_2:=λe=>QK e F=Aa->∃ o p,e=Ye o p/\F o=Aa) e c (λo p h=>⟨o,p,rfl,h⟩) h
 .exact noF ((CG c).symm.trans h)
noncomputable def Rb(e:Bx)(F:An->Ac Bx->Ac Bx->Aj):Aj:=if c:e.ctorIdx=12 then Yd (motive_2:=λ_=>Aj) e c λt xs ys _=>F t xs ys else Af
theorem iS{e:Bx}{F:An->Ac Bx->Ac Bx->Aj}(h:Rb e F=Aa):∃ t xs ys p,e=Stmt.If t xs ys p/\F t xs ys=Aa:=by
 by_cases c:e.ctorIdx=12
 .exact Yd (motive_2:=λe=>Rb e F=Aa->∃ t xs ys p,e=Stmt.If t xs ys p/\F t xs ys=Aa) e c (λt xs ys p h=>⟨t,xs,ys,p,rfl,h⟩) h
 .exact noF ((CG c).symm.trans h)
noncomputable def NE(e:Bx)(F:An->An->Ac Bx->Ac Bx->Aj):Aj:=if c:e.ctorIdx=9 then Yc (motive_2:=λ_=>Aj) e c λt it xs ys _=>F t it xs ys else Af
theorem TK{e:Bx}{F:An->An->Ac Bx->Ac Bx->Aj}(h:NE e F=Aa):∃ t it xs ys p,e=Stmt.For t it xs ys p/\F t it xs ys=Aa:=by
 by_cases c:e.ctorIdx=9
 .exact Yc (motive_2:=λe=>NE e F=Aa->∃ t it xs ys p,e=Stmt.For t it xs ys p/\F t it xs ys=Aa) e c (λt it xs ys p h=>⟨t,it,xs,ys,p,rfl,h⟩) h
 .exact noF ((CG c).symm.trans h)
noncomputable def Nm{α:Type}:Ac α->(α->Ac α->Aj)->Aj
 |[],_=>Af
 |x::xs,F=>F x xs
theorem Pc{l:Ac α}{F:α->Ac α->Aj}(h:Nm l F=Aa):∃ x xs,l=x::xs/\F x xs=Aa:=by
 cases l with
 |nil=>exact noF h
 |cons x xs=>exact⟨x,xs,rfl,h⟩
theorem K3{l:Ac α}(h:l.isEmpty=Aa):l=[]:=E7.mp h
noncomputable def Gi{α:Type}(l:Ac α)(F:α->Aj):Aj:=Nm l λx r=>r.isEmpty&&F x
theorem Hl{l:Ac α}{F:α->Aj}(h:Gi l F=Aa):∃ x,l=[x]/\F x=Aa:=by
 obtain⟨x,r,rfl,h⟩:=Pc h;obtain⟨h1,h2⟩:=FI h;exact⟨x,by rw[K3 h1],h2⟩
noncomputable def IE{α:Type}(l:Ac α)(F:α->α->Aj):Aj:=Nm l λx r=>Gi r λy=>F x y
theorem Ka{l:Ac α}{F:α->α->Aj}(h:IE l F=Aa):∃ x y,l=[x,y]/\F x y=Aa:=by
 obtain⟨x,r,rfl,h⟩:=Pc h;obtain⟨y,rfl,h⟩:=Hl h;exact⟨x,y,rfl,h⟩
noncomputable def Km(e:An)(F:Al->Ac An->Aj):Aj:=NK e λf as ks _=>HV f λg=>ks.isEmpty&&F g as
theorem KP{e:An}{F:Al->Ac An->Aj}(h:Km e F=Aa):∃ g p as q,e=.Call (.Name g p) as [] q/\F g as=Aa:=by
 obtain⟨f,as,ks,q,rfl,h⟩:=TN h;obtain⟨g,p,rfl,h⟩:=Iw h;obtain⟨h1,h2⟩:=FI h;exact⟨g,p,as,q,by rw[K3 h1],h2⟩
noncomputable def Qg(e:An)(F:Al->An->Ac An->Aj):Aj:=Km e λg l=>Nm l λx xs=>F g x xs
theorem S5{e:An}{F:Al->An->Ac An->Aj}(h:Qg e F=Aa):∃ g p x xs q,e=.Call (.Name g p) (x::xs) [] q/\F g x xs=Aa:=by
 obtain⟨g,p,as,q,rfl,h⟩:=KP h;obtain⟨x,xs,rfl,h⟩:=Pc h;exact⟨g,p,x,xs,q,rfl,h⟩
noncomputable def QB(st:Bx)(F:Al->Al->Ac An->Aj):Aj:=NG st λe=>NK e λf as ks cp=>QF f λo m ap=>HV o λx=>ks.isEmpty&&(ap.endLine==cp.line&&F x m as)
theorem TJ{st:Bx}{F:Al->Al->Ac An->Aj}(h:QB st F=Aa):∃ x p m ap as cp q,st=.Expr (.Call (.Attribute (.Name x p) m ap) as [] cp) q/\ap.endLine=cp.line/\F x m as=Aa:=by
 obtain⟨e,q,rfl,h⟩:=TM h;obtain⟨f,as,ks,cp,rfl,h⟩:=TN h;obtain⟨o,m,ap,rfl,h⟩:=dG h;obtain⟨x,p,rfl,h⟩:=Iw h;obtain⟨h1,h⟩:=FI h;obtain⟨h2,h3⟩:=FI h;exact⟨x,p,m,ap,as,cp,q,by rw[K3 h1],eq_of_beq h2,h3⟩
noncomputable def NL(st:Bx)(F:An->An->Aj):Aj:=QG st λts v=>Gi ts λt=>F t v
theorem Po{st:Bx}{F:An->An->Aj}(h:NL st F=Aa):∃ t v q,st=.Assign [t] v q/\F t v=Aa:=by
 obtain⟨ts,v,q,rfl,h⟩:=dH h;obtain⟨t,rfl,h⟩:=Hl h;exact⟨t,v,q,rfl,h⟩
noncomputable def QH(st:Bx)(F:Al->An->Aj):Aj:=NL st λt v=>HV t λx=>F x v
theorem TQ{st:Bx}{F:Al->An->Aj}(h:QH st F=Aa):∃ x p v q,st=.Assign [.Name x p] v q/\F x v=Aa:=by
 obtain⟨t,v,q,rfl,h⟩:=Po h;obtain⟨x,p,rfl,h⟩:=Iw h;exact⟨x,p,v,q,rfl,h⟩
noncomputable def N8(e:An)(F:An->An->An->Ac An->Cq->Aj):Aj:=QD e λx gs sc=>Gi gs λg=>decide (g.is_async=0)&&F x g.target g.iter g.ifs sc
theorem PC{e:An}{F:An->An->An->Ac An->Cq->Aj}(h:N8 e F=Aa):∃ x t it ifs sc p,e=.ListComp x [⟨t,it,ifs,0⟩] sc p/\F x t it ifs sc=Aa:=by
 obtain⟨x,gs,sc,p,rfl,h⟩:=dB h;obtain⟨g,rfl,h⟩:=Hl h;obtain⟨t,it,ifs,a⟩:=g;obtain⟨h1,h2⟩:=FI h;have h1:a=0:=BX h1;subst h1;exact⟨x,t,it,ifs,sc,p,rfl,h2⟩
noncomputable def N7(e:E)(F:E->Aj):Aj:=if c:e.ctorIdx=8 then E.no.elim (motive_1:=λ_=>Aj) e c F else Af
theorem iR{e:E}{F:E->Aj}(h:N7 e F=Aa):∃ a,e=E.no a/\F a=Aa:=by
 by_cases c:e.ctorIdx=8
 .exact E.no.elim (motive_1:=λe=>N7 e F=Aa->∃ a,e=E.no a/\F a=Aa) e c (λa h=>⟨a,rfl,h⟩) h
 .exact noF ((CG c).symm.trans h)
noncomputable def NM(e:E)(F:Es->Aj):Aj:=if c:e.ctorIdx=9 then E.and.elim (motive_1:=λ_=>Aj) e c F else Af
theorem dI{e:E}{F:Es->Aj}(h:NM e F=Aa):∃ es,e=E.and es/\F es=Aa:=by
 by_cases c:e.ctorIdx=9
 .exact E.and.elim (motive_1:=λe=>NM e F=Aa->∃ es,e=E.and es/\F es=Aa) e c (λes h=>⟨es,rfl,h⟩) h
 .exact noF ((CG c).symm.trans h)
noncomputable def N6(e:E)(F:Es->Aj):Aj:=if c:e.ctorIdx=10 then E.or.elim (motive_1:=λ_=>Aj) e c F else Af
theorem jR{e:E}{F:Es->Aj}(h:N6 e F=Aa):∃ es,e=E.or es/\F es=Aa:=by
 by_cases c:e.ctorIdx=10
 .exact E.or.elim (motive_1:=λe=>N6 e F=Aa->∃ es,e=E.or es/\F es=Aa) e c (λes h=>⟨es,rfl,h⟩) h
 .exact noF ((CG c).symm.trans h)
noncomputable def NH(e:E)(F:DA->E->E->Aj):Aj:=if c:e.ctorIdx=11 then E.cmp.elim (motive_1:=λ_=>Aj) e c F else Af
theorem dC{e:E}{F:DA->E->E->Aj}(h:NH e F=Aa):∃ o a b,e=E.cmp o a b/\F o a b=Aa:=by
 by_cases c:e.ctorIdx=11
 .exact E.cmp.elim (motive_1:=λe=>NH e F=Aa->∃ o a b,e=E.cmp o a b/\F o a b=Aa) e c (λo a b h=>⟨o,a,b,rfl,h⟩) h
 .exact noF ((CG c).symm.trans h)
noncomputable def NI(e:E)(F:DA->DA->E->E->E->Aj):Aj:=if c:e.ctorIdx=12 then E.cmp2.elim (motive_1:=λ_=>Aj) e c F else Af
theorem dD{e:E}{F:DA->DA->E->E->E->Aj}(h:NI e F=Aa):∃ o q a b c,e=E.cmp2 o q a b c/\F o q a b c=Aa:=by
 by_cases c:e.ctorIdx=12
 .exact E.cmp2.elim (motive_1:=λe=>NI e F=Aa->∃ o q a b c,e=E.cmp2 o q a b c/\F o q a b c=Aa) e c (λo q a b c h=>⟨o,q,a,b,c,rfl,h⟩) h
 .exact noF ((CG c).symm.trans h)
noncomputable def NJ(e:E)(F:BI->Es->Aj):Aj:=if c:e.ctorIdx=15 then E.bi.elim (motive_1:=λ_=>Aj) e c F else Af
theorem dE{e:E}{F:BI->Es->Aj}(h:NJ e F=Aa):∃ b as,e=E.bi b as/\F b as=Aa:=by
 by_cases c:e.ctorIdx=15
 .exact E.bi.elim (motive_1:=λe=>NJ e F=Aa->∃ b as,e=E.bi b as/\F b as=Aa) e c (λb as h=>⟨b,as,rfl,h⟩) h
 .exact noF ((CG c).symm.trans h)
noncomputable def Rc(e:E)(F:Aj->Aj):Aj:=if c:e.ctorIdx=1 then E.bl.elim (motive_1:=λ_=>Aj) e c F else Af
theorem iT{e:E}{F:Aj->Aj}(h:Rc e F=Aa):∃ b,e=E.bl b/\F b=Aa:=by
 by_cases c:e.ctorIdx=1
 .exact E.bl.elim (motive_1:=λe=>Rc e F=Aa->∃ b,e=E.bl b/\F b=Aa) e c (λb h=>⟨b,rfl,h⟩) h
 .exact noF ((CG c).symm.trans h)
noncomputable def ND(e:E):Aj:=decide (e.ctorIdx=0)
theorem cR{e:E}(h:ND e=Aa):e=.non:=E.non.elim (motive_1:=λe=>e=.non) e (BX h) rfl
noncomputable def DG:An->Aj
 |.Starred _ _=>Af
 |_=>Aa
noncomputable def PD:An->Aj
 |.Slice _ _ _ _=>Af
 |_=>Aa
noncomputable def Lg:An->Aj
 |.Set _ _ _=>Af
 |_=>Aa
noncomputable def K2:An->Aj
 |.ListComp _ _ _ _=>Af
 |.SetComp _ _ _ _=>Af
 |.DictComp _ _ _ _ _=>Af
 |_=>Aa
noncomputable def RE(tu:Aj):An->Aj
 |.Tuple ..=>tu
 |.Name ..=>!tu
 |_=>Af
noncomputable def zT:An->Aj
 |.Tuple _ _ _=>Aa
 |_=>Af
noncomputable def Wc:An->Aj
 |.Tuple _ _ _=>Af
 |_=>Aa
noncomputable def MU:An->Aj
 |.UnaryOp _ _ _=>Af
 |.BoolOp _ _ _=>Af
 |.IfExp _ _ _ _=>Af
 |.Compare _ _ _ _=>Af
 |_=>Aa
noncomputable def QS:Ki->Ap Al
 |.int=>Ab "int"
 |.bool=>Ab "bool"
 |.str=>Ab "str"
 |.list=>Ab "list"
 |.tuple=>Ab "tuple"
 |_=>Ae
noncomputable def QT:BI->Ap Al
 |.len=>Ab "len"
 |.abs=>Ae
 |.max=>Ab "max"
 |.min=>Ab "min"
 |.int=>Ae
 |.list=>Ab "list"
 |.tuple=>Ab "tuple"
 |.all=>Ab "all"
 |.any=>Ab "any"
 |.sum=>Ab "sum"
 |.sorted=>Ae
 |.tmin=>Ae
 |.tmax=>Ae
 |_=>Ae
noncomputable def QL(o scope:Cq):Cq:={scope with names:=scope.names.map λ(n,k)=>if (k==.free&&o.kind==.function&&o.names.lookup n==Ab .cell) then (n,.cell) else (n,k)}
noncomputable def Kq:Ac Ag->Ac Al->Ac Al->Ac Al
 |t::ts,x::xs,N=>Kq ts xs ((N.map λy=>if y==x then N.getD t x else y).set t x)
 |_,_,N=>N
noncomputable def Mi:Ac Al->Aj
 |[]=>Aa
 |x::xs=>!xs.contains x&&Mi xs
noncomputable def Lw(T:Tc)(scope:Cq)(ts:Ac Ag)(N':Ac Al):Aj:=
  scope.kind==.function&&scope.names.all (λy=>scope.names.lookup y.1==Ab y.2) &&
  scope.names.all (λy=>y.2 != .free||T.sc.names.lookup y.1==Ab .cell||T.sc.names.lookup y.1==Ab .free) &&
  N'.length==T.N.length&&Mi N' &&
  (A4 N'.length).all λi=>ts.contains i||(match N'[i]? with
    |some x=>(scope.names.lookup x != Ab .local&&scope.names.lookup x != Ab .cell)&&(scope.names.lookup x != Ab .free||T.N[i]? == Ab x)
    | none=>Aa)
noncomputable def Fn:Ac An->Ap (Ac Al)
 |[]=>Ab []
 |.Name x _::r=>(Fn r).map (x :: ·)
 |_=>Ae
noncomputable def tgN(ys:Ac An):Ac Al:=(Fn ys).getD []
noncomputable def tgB(T:Tc):Ac Ag->Ac Al->Aj
 |[],[]=>Aa
 |t::ts,x::xs=>T.N[t]? == Ab x&&T.sc.names.lookup x==Ab .local&&tgB T ts xs
 |_,_=>Af
noncomputable def tgO(T:Tc)(scope:Cq)(t:Ag)(x:Al):Aj:=T.N[t]? == Ab x&&(T.sc.names.lookup x==Ab .local||(T.sc.names.lookup x==Ab .cell&&scope.names.lookup x==Ab .cell))
noncomputable def tgC(T:Tc):Ac Ag->Ac Al->Aj
 |[],[]=>Aa
 |t::ts,x::xs=>T.N[t]? == Ab x&&Kv T x&&tgC T ts xs
 |_,_=>Af
noncomputable def Tc.blk(T:Tc)(scope:Cq)(ts:Ac Ag)(xs:Ac Al):Tc:={T with sc:=QL T.sc scope,N:=Kq ts xs T.N}
noncomputable def Re:E->Aj
 |.lst _=>Aa
 |.comp _ _ _ _=>Aa
 |.compT _ _ _ _=>Aa
 |.bin .Add _ _=>Aa
 |.bi .list _=>Aa
 |.sl _ _ _=>Aa
 |_=>Af
noncomputable def NS:E->Ap E
  | .bi b as=>(match b with
    | .list=>(match as with
      | .cons x r=>(match r with
        | .nil=>(match x with
          | .bin op a c=>(match op with
            | .Add=>(match c with
              | .tup es=>(match es with
                |.nil=>Ab a
                | _=>Ae)
              | _=>Ae)
            | _=>Ae)
          | _=>Ae)
        | _=>Ae)
      | .nil=>Ae)
    | _=>Ae)
  |_=>Ae
theorem fG{e a:E}(q:NS e=Ab a):e=.bi .list (.cons (.bin .Add a (.tup .nil)) .nil):=by
 unfold NS at q
 repeat' split at q
 all_goals first|cases q;done|skip
 cases q;rfl
theorem mG(Y:Gam){e:E}(h:Re e=Aa):DL Y e=Aa:=by
 unfold Re at h;split at h<;>first|rfl|cases h
noncomputable def RS:An->Ap (An×An×A7)
  | .Compare x ops ys p=>(match ops with
    | [.Lt]=>(match ys with
      |[y]=>Ab (x,y,p)
      | _=>Ae)
    | _=>Ae)
  |_=>Ae
noncomputable def QX(_:Es):Ap (E×E):=Ae
noncomputable def Q3(_:Tc)(_:Tc->An->E->Aj)(_:An)(_:Ac DA)(_:Ac An)(_:BI)(_:Es):Aj:=Af
noncomputable def RN(T:Tc)(e:An)(b:BI)(as:Es):Aj:=Af
noncomputable def Qp:An->Ap (Al×A7)
 |.Name x p=>Ab (x,p)
 |_=>Ae
theorem SM{e:An}{t:Al×A7}(q:Qp e=Ab t):e=.Name t.1 t.2:=by
 cases e with
 |Name x p=>cases q;rfl
 |_=>cases q
noncomputable def Qq:An->Ap (An×Ac An×Ac EH×A7)
 |.Call f as ks p=>Ab (f,as,ks,p)
 |_=>Ae
theorem SQ{e:An}{t:An×Ac An×Ac EH×A7}(q:Qq e=Ab t):e=.Call t.1 t.2.1 t.2.2.1 t.2.2.2:=by
 cases e with
 |Call f as ks p=>cases q;rfl
 |_=>cases q
noncomputable def ci:An->Ap (Ac An×Ag×A7)
 |.Tuple es k p=>Ab (es,k,p)
 |_=>Ae
noncomputable def one{α:Type}:Ac α->Ap α
 |[a]=>Ab a
 |_=>Ae
theorem uO{l:Ac α}{a:α}(q:one l=Ab a):l=[a]:=by
  match l,q with
  |[b],q=>cases q;rfl
noncomputable def Lv(e:An):Ap (Al×Al×Ac An):=(Qq e).bind λc=>(Qp c.1).bind λg=>(one c.2.1).bind λa=>(Qq a).bind λd=>(Qp d.1).bind λh=>if (c.2.2.1.isEmpty&&d.2.2.1.isEmpty)=Aa then Ab (g.1,h.1,d.2.1) else Ae
theorem U_5{e:An}{h:Al}{bs:Ac An}(q:Lv e=Ab (g,h,bs)):∃ p p' pos pos',e=.Call (.Name g p) [.Call (.Name h p') bs [] pos'] [] pos:=by
 obtain⟨⟨f,as,ks,pos⟩,e1,q⟩:=DM.mp q;obtain⟨⟨g',p⟩,e2,q⟩:=DM.mp q;obtain⟨a,e3,q⟩:=DM.mp q;obtain⟨⟨f',bs',ks',pos'⟩,e4,q⟩:=DM.mp q;obtain⟨⟨h',p'⟩,e5,q⟩:=DM.mp q;by_cases hk:(ks.isEmpty&&ks'.isEmpty)=Aa
 .rw[AI hk]at q;cases q;rw[Aq,E7,E7]at hk;obtain⟨rfl,rfl⟩:=hk;have x1:=SQ e1;have x2:=SM e2;have x3:=uO e3;have x4:=SQ e4;have x5:=SM e5;dsimp only at x1 x2 x3 x4 x5;subst x1 x2 x3 x4 x5;exact⟨_,_,_,_,rfl⟩
 .rw[AV hk]at q;cases q
noncomputable def NW(e:An):Ap (Al×Al×An×An×An):=match Lv e with
  | some (g,h,bs)=>(match bs with
    |[x,y,z]=>Ab (g,h,x,y,z)
    | _=>Ae)
  |none=>Ae
theorem kR{e:An}{h:Al}{x y z:An}(q:NW e=Ab (g,h,x,y,z)):∃ p p' pos pos',e=.Call (.Name g p) [.Call (.Name h p') [x,y,z] [] pos'] [] pos:=by
  unfold NW at q;cases c:Lv e with
  |none=>rw[c]at q;cases q
  |some t=>
    obtain⟨g',h',bs⟩:=t;rw[c]at q
    match bs,q,c with
    |[a,b,d],q,c=>cases q;exact U_5 c
noncomputable def Rx(e:An):Ap (Al×Al×An×An):=match Lv e with
  | some (g,h,bs)=>(match bs with
    |[x,y]=>Ab (g,h,x,y)
    | _=>Ae)
  |none=>Ae
noncomputable def Q0(_:Es):Ap (E×E):=Ae
noncomputable def Ku(e:An):Ap (Al×Al×An):=match Lv e with
  | some (g,h,bs)=>(match bs with
    |[x]=>Ab (g,h,x)
    | _=>Ae)
  |none=>Ae
theorem mK{e:An}{h:Al}{x:An}(q:Ku e=Ab (g,h,x)):∃ p p' pos pos',e=.Call (.Name g p) [.Call (.Name h p') [x] [] pos'] [] pos:=by
  unfold Ku at q;cases c:Lv e with
  |none=>rw[c]at q;cases q
  |some t=>
    obtain⟨g',h',bs⟩:=t;rw[c]at q
    match bs,q,c with
    |[a],q,c=>cases q;exact U_5 c
noncomputable def QZ(_:Es):Ap E:=Ae
noncomputable def two(e:An):Ap (An×An):=(ci e).bind λt=>match t.1 with
  |[a,b]=>Ab (a,b)
  |_=>Ae
noncomputable def Mr:Es->Ap E
  | .cons a r=>(match r with
    |.nil=>Ab a
    | _=>Ae)
  |.nil=>Ae
theorem nG{a:E}(q:Mr as=Ab a):as=.cons a .nil:=by
 unfold Mr at q;split at q
 .split at q
  .cases q;rfl
  .cases q
 .cases q
noncomputable def N4:An->Ap (Al×An)
  | .Call f as ks cp=>(match f,as,ks with
    | .Attribute o m ap,[v],[]=>(match o with
      |.Name x _=>if (m==("pop" : Al)&&ap.endLine==cp.line&&DG v)=Aa then Ab (x,v) else Ae
      | _=>Ae)
    | _,_,_=>Ae)
  |_=>Ae
theorem iY{e v:An}(q:N4 e=Ab (x,v)):∃ p ap cp,e=.Call (.Attribute (.Name x p) "pop" ap) [v] [] cp/\ap.endLine=cp.line/\DG v=Aa:=by
 unfold N4 at q
 repeat' split at q
 all_goals first|cases q;done|skip
 rename_i h;cases q;simp only[Aq,BD]at h;obtain⟨⟨rfl,h1⟩,h2⟩:=h;exact⟨_,_,_,rfl,h1,h2⟩
noncomputable def RF:An->Ap (An×Ad)
  | .Subscript v s _=>(match s with
    | .Slice lo hi st _=>(match lo with
      | some (.Constant (.int k) _ _)=>(match hi with
        | none=>(match st with
          |some (.Constant (.int j) _ _)=>if j=2 then Ab (v,k) else Ae
          | _=>Ae)
        | some _=>Ae)
      | _=>Ae)
    | _=>Ae)
  |_=>Ae
noncomputable def QY(_:Es):Ap (E×Ad):=Ae
mutual
noncomputable def Bw:Ag->Tc->An->E->Aj
  |0,_,_,_=>Af
  |n+1,T,e,c=>match c with
    |.non=>La e λc=>decide (c=.none)
    |.bl b=>La e λc=>decide (c=.bool b)
    |.int i=>La e λc=>decide (c=.int i)
    |.str x=>La e λc=>decide (c=.str x)
    |.var i=>HV e λx=>isV T x i
    |.glob g=>Af
    |.bin op a b=>QE e λx op' y=>decide (op'=op)&&Bw n T x a&&Bw n T y b
    |.un op a=>Lp e λo x=>decide (o=.USub)&&(decide (op=.USub)&&Bw n T x a)
    |.no a=>Lp e λo x=>decide (o=.Not)&&Bw n T x a
    |.and es=>Lf e λo xs _=>decide (o=.And)&&(chkEs n T xs es && !xs.isEmpty)
    |.or es=>Lf e λo xs _=>decide (o=.Or)&&(chkEs n T xs es && !xs.isEmpty)
    |.cmp op a b=>Lb e λx os ys=>Gi os λop'=>Gi ys λy=>decide (op'=op) && !behindInMarks op y&&Bw n T x a&&Bw n T y b
    |.cmp2 op1 op2 a b c=>Lb e λx os ys=>IE os λo1 o2=>IE ys λy z=>decide (o1=op1)&&decide (o2=op2) && !lastMarks [op1,op2] [y,z]&&Bw n T x a&&Bw n T y b&&Bw n T z c
    |.ite c a b=>Af
    |.call f as=>Qg e λg x xs=>(T.fns.any λp=>p.1==g&&p.2.1==f&&p.2.2==xs.length+1)&&decide (xs.length<900)&&glB T g&&Mq g&&chkEs n T (x::xs) as
    |.bi b as=>(Qg e λg x xs=>QT b==Ab g&&isB T g&&chkEs n T (x::xs) as)||RN T e b as||(match Q0 as with|some (a,c)=>(match Rx e with|some (g,h,x,y)=>decide (b=.list)&&g==("list" : Al)&&h==("range" : Al)&&isB T g&&isB T h&&DG x&&DG y&&Bw n T x a&&Bw n T y c|none=>Af)|none=>Af)||(match QY as with|some (a,k)=>(match RF e with|some (x,j)=>decide (b=.stp)&&decide (j=k)&&decide (0<=k)&&Bw n T x a|none=>Af)|none=>Af)||(match QZ as with|some a=>(match Ku e with|some (g,h,x)=>decide (b=.lset)&&g==("len" : Al)&&h==("set" : Al)&&isB T g&&isB T h&&DG x&&Bw n T x a|none=>Af)|none=>Af)||(match QX as with|some (a,c)=>(match RS e with|some (x,y,_)=>decide (b=.tlt) && !behindInMarks .Lt y&&Bw n T x a&&Bw n T y c|none=>Af)|none=>Af)||(match Mr as with|some a=>(match Ku e with|some (g,h,x)=>decide (b=.rvs)&&g==("list" : Al)&&h==("reversed" : Al)&&isB T g&&isB T h&&DG x&&Bw n T x a|none=>Af)|none=>Af)
    |.isi a ks=>Gi ks λk=>Km e λg l=>IE l λx t=>HV t λt=>g==("isinstance" : Al)&&isB T g&&QS k==Ab t&&isB T t&&DG x&&Bw n T x a
    |.idx a i=>Ml e λx y=>PD y&&Bw n T x a&&Bw n T y i
    |.sl a lo hi=>Ml e λx s=>QJ s λl h st=>st.isNone&&(Bw n T x a&&chkO n T l lo&&chkO n T h hi)
    |.tup es=>K9 e λxs=>chkEs n T xs es&&decide (xs.length<=1000)
    |.lst es=>QC e λxs=>chkEs n T xs es&&decide (xs.length<=1000)
    |.comp elt t it c=>N8 e λx tg iter ifs scope=>HV tg λy=>chkI n T Af iter it&&Lg iter&&Lw T scope [t] (Kq [t] [y] T.N)&&tgO (T.blk scope [t] [y]) scope t y&&chkT n (T.blk scope [t] [y]) ifs c&&Bw n (T.blk scope [t] [y]) x elt
    |.compT elt ts it c=>N8 e λx tg iter ifs scope=>K9 tg λys=>(Fn ys).isSome&&chkI n T Aa iter it&&Lg iter&&Lw T scope ts (Kq ts (tgN ys) T.N)&&tgB (T.blk scope ts (tgN ys)) ts (tgN ys)&&chkT n (T.blk scope ts (tgN ys)) ifs c&&Bw n (T.blk scope ts (tgN ys)) x elt
    |.tupI it=>(match it with | .zip3 a b c=>(match NW e with|some (g,h,x,y,z)=>g==("tuple" : Al)&&h==("zip" : Al)&&isB T g&&isB T h&&DG x&&DG y&&DG z&&Bw n T x a&&Bw n T y b&&Bw n T z c|none=>Af)|_=>Af)
    |.dnew=>Af
    |.fld _ _=>Af
noncomputable def Jk:Ag->Tc->An->E->Aj
 |0,_,_,_=>Af
 |n+1,T,e,c=>(Lp e λo x=>decide (o=.Not)&&(N7 c λa=>Jk n T x a)) ||
  (Lf e λo xs _=>(decide (o=.And)&&(NM c λes=>chkBs n T xs es && !xs.isEmpty))||(decide (o=.Or)&&(N6 c λes=>chkBs n T xs es && !xs.isEmpty))) ||
  (Lb e λx os ys=>(NH c λop a b=>Gi os λop'=>Gi ys λy=>decide (op'=op) && !behindInMarks op y&&Bw n T x a&&Bw n T y b) ||
   (NI c λop1 op2 a b c=>IE os λo1 o2=>IE ys λy z=>decide (o1=op1)&&decide (o2=op2) && !lastMarks [op1,op2] [y,z]&&Bw n T x a&&Bw n T y b&&Bw n T z c) ||
   (NJ c λb as=>Q3 T (Bw n) x os ys b as)) ||
  MU e&&Bw n T e c
noncomputable def chkBs:Ag->Tc->Ac An->Es->Aj
  |0,_,_,_=>Af
  |n+1,T,xs,es=>match xs,es with
    |[],.nil=>Aa
    |x::xs,.cons e es=>Jk n T x e&&chkBs n T xs es
    |_,_=>Af
noncomputable def chkEs:Ag->Tc->Ac An->Es->Aj
  |0,_,_,_=>Af
  |n+1,T,xs,es=>match xs,es with
    |[],.nil=>Aa
    |x::xs,.cons e es=>DG x&&Bw n T x e&&chkEs n T xs es
    |_,_=>Af
noncomputable def chkO:Ag->Tc->Ap An->E->Aj
  |0,_,_,_=>Af
  |n+1,T,x,e=>match x with
    |none=>ND e
    |some x=>!(ND e)&&Bw n T x e
noncomputable def chkT:Ag->Tc->Ac An->E->Aj
  |0,_,_,_=>Af
  |n+1,T,xs,e=>match xs with
    |[]=>Rc e λb=>b
    |x::r=>r.isEmpty&&Jk n T x e
noncomputable def chkI:Ag->Tc->Aj->An->I->Aj
  |0,_,_,_,_=>Af
  |n+1,T,tu,e,i=>match i with
    |.e a=>Bw n T e a
    |.rng a=>Km e λg l=>Gi l λx=>g==("range" : Al)&&isB T g&&DG x&&Bw n T x a
    |.enm a=>Km e λg l=>Gi l λx=>tu&&g==("enumerate" : Al)&&isB T g&&DG x&&Bw n T x a
    |.zip a b=>Km e λg l=>IE l λx y=>tu&&g==("zip" : Al)&&isB T g&&DG x&&DG y&&Bw n T x a&&Bw n T y b
    |.rng2 a b=>Km e λg l=>IE l λx y=>g==("range" : Al)&&isB T g&&DG x&&DG y&&Bw n T x a&&Bw n T y b
    |.zip3 a b c=>Af
end
noncomputable def Wm(_:Ag)(_:Tc)(_:Ag)(_:Ac Bx)(_:Ss):Aj:=Af
noncomputable def Zl:E->Aj
  | .bi b as=>(match b,as with
    |.len,.nil=>Aa
    | _,_=>Af)
  |_=>Af
noncomputable def Zk:S->Aj
 |.expr e=>Zl e
 |_=>Af
noncomputable def NY:Ss->Aj
 |.cons s _=>Zk s
 |.nil=>Af
mutual
noncomputable def NX:Ag->Tc->Bx->S->Aj
  |0,_,_,_=>Af
  |n+1,T,st,s=>match s with
    |.pass=>Af
    |.brk=>Af
    |.cont=>Af
    |.asg i _ e=>QH st λx v=>T.N[i]? == Ab x&&Kv T x&&Bw n T v e
    |.asgT ts e=>NL st λt v=>K9 t λys=>(Fn ys).isSome&&tgC T ts (tgN ys)&&(Wc v||En 4 ys.length)&&Bw n T v e
    |.expr e=>NG st λv=>K2 v&&Bw n T v e
    |.ret e=>QK st λo=>match o with|some v=>Bw n T v e|none=>Af
    |.retN=>Af
    |.ife c a b=>Rb st λt xs ys=>Jk n T t c&&chkSs n T xs a&&chkSs n T ys b
    |.fors t it body=>NE st λtg iter xs ys=>ys.isEmpty&&(HV tg λx=>tgC T [t] [x]&&Lg iter&&chkI n T Af iter it&&chkSs n T xs body)
    |.forT ts it body=>NE st λtg iter xs zs=>zs.isEmpty&&(K9 tg λys=>(Fn ys).isSome&&tgC T ts (tgN ys)&&Lg iter&&chkI n T Aa iter it&&chkSs n T xs body)
    |.whl c body=>Af
    |.rais c as=>!(T.rzs.any λp=>p.2==c)
    |.tryx _ _ _ _=>Af
    |.try2 _ _ _ _ _ _ _=>Af
    |.app i e=>QB st λx m l=>Gi l λv=>m==("append" : Al)&&isV T x i&&DG v&&Bw n T v e
    |.ext i e=>QB st λx m l=>Gi l λv=>m==("extend" : Al)&&isV T x i&&DG v&&(Re e&&Bw n T v e||(match NS e with|some a=>Bw n T v a|none=>Af))
    |.rev i=>Af
    |.clr i=>Af
    |.put i k e=>NL st λt v=>Ml t λo y=>HV o λx=>isV T x i&&PD y&&Bw n T y k&&Bw n T v e
    |.swp _ _ _=>Af
    |.cpop t y k it e=>QH st λx v=>N8 v λw tg iter ifs scope=>HV tg λz=>(match N4 w with|some (o,u)=>T.N[t]? == Ab x&&Kv T x&&ifs.isEmpty&&chkI n T Af iter it&&Lg iter&&Lw T scope [k] (Kq [k] [z] T.N)&&tgO (T.blk scope [k] [z]) scope k z&&isV (T.blk scope [k] [z]) o y&&Bw n (T.blk scope [k] [z]) u e|none=>Af)
    |.apop _ _ _=>Af
    |.ins i k e=>Af
    |.dput _ _ _=>Af
    |.dsd _ _ _=>Af
    |.rel _=>Af
noncomputable def chkSs:Ag->Tc->Ac Bx->Ss->Aj
  |0,_,_,_=>Af
  | n+1,T,sts,ss=>(match ss with
    |.nil=>sts.isEmpty
    |.cons (.rel i) ss=>chkSs n T sts ss
    | .cons s ss=>(match sts with
      |st::r=>NX n T st s&&chkSs n T r ss
      | []=>Af))||NY ss
end
noncomputable def Ig(fuel:Ag)(hot:Aj)(fns:Ac (Al×Ag×Ag))(bl:Ac Al)(rzs exs gls:Ac (Al×Ag))(ps N:Ac Al)(st:Bx)(df:Df):Aj:=
  let sc:=GM st
  sc.kind==.function && !sc.isCoroutine && !sc.isGenerator&&Mi N&&N.take ps.length==ps&&ps.all (λx=>sc.names.lookup x==Ab .local||sc.names.lookup x==Ab .cell)&&sc.names.all (λy=>y.2 != .free)&&N.length==df.n &&
  (match hot with
  |true=>Wm fuel ⟨sc,N,fns,bl,rzs,exs,gls⟩ 0 (HU st) df.body
  | false=>chkSs fuel ⟨sc,N,fns,bl,rzs,exs,gls⟩ (HU st) df.body)
structure XT (up:Ag->Ac Ag) (xn:Ag->Ac D->R Ex) (CL:ClA) (rzs exs:Ac (Al×Ag)) (K:Fg) (mg:Al->Ap Ai):Prop where
 xc:∀ c C,CL c=Ab C->XcOk K C
 rz:∀ p∈rzs,∃ C,CL p.2=Ab C/\mg p.1=Ab (.ref C)
 ex:∀ p∈exs,∃ C,mg p.1=Ab (.ref C)/\vH K CL up p.2 C/\∀ c D,CL c=Ab D->Yr K (.ref D) (.ref C)=Ab ((up c).contains p.2)
 made:∀ c C ds,CL c=Ab C->xn c ds=.bad\/(xn c ds=.ok ⟨c,[]⟩/\Ls K C Ae=Aa)\/Bz
 nf:∀ c C,CL c=Ab C->∀ f:Al,(f==("triple" : Al)||f==("points" : Al))=Aa->Mp K C=Aa/\CV K (.ref C) f=Ab Ae
 xb:∀ c,(∀ p∈rzs,p.2≠c)->∀ ds,xn c ds=.bad
def Rl(K:Fg)(mg:Al->Ap Ai)(CL:ClA)(x:Al)(d:D):Prop:=∃ u v,mg x=Ab u/\B5 v u/\∀ H A,Rep K CL H A v d
structure VX (Y:Gam) (CL:ClA) (k:Ag) (W:XW) (T:Tc) (X:Cx):Prop where
 sc:X.env.scope=T.sc
 kd:T.sc.kind=.function
 N:X.N=T.N
 nd:T.N.Nodup
 calm:X.calm=Aa
 room:Room k X.A
 bl:∀ x,x∈T.bl->X.mg x=Ae
 fn:∀ p∈T.fns,∃ f fd ps,X.mg p.1=Ab (.ref f)/\Dx X.K (.ref f)=Aa/\IB X.K fd ps []/\ps.length=p.2.2%1000/\(p.2.2<1000->FnOk X.prog X.w X.K X.mg X.base (CXR X.prog X.w) k f fd ps (spD X.K CL (p.2.2%1000) (Y.fr p.2.1) (Y.F p.2.1)))/\(1000<=p.2.2->HotOk X.prog X.w X.K X.mg X.base k f fd ps (spH X.K CL (p.2.2%1000) (Y.fr p.2.1) (Y.F p.2.1)))
 own:Gu (model X.prog X.w) X.A X.env X.xe
 px:∀ A,K7 (CXR X.prog X.w) X (EKW X.K CL A W)
 rz:Rj X CL W
 xt:XT Y.up Y.xn CL T.rzs T.exs X.K X.mg
 gl:∀ p∈T.gls,Rl X.K X.mg CL p.1 (Y.G p.2)
theorem Vv:∀ A,K7 (CXR X.prog X.w) X (EKW X.K CL A W0):=λA pI Z H s ev s' I h=>by
 obtain⟨e,T,cls,dx,H',_,_,_,_,_,_,_,_,_,_,x,_,w⟩:=h;exact w.elim
theorem RI:Rj X CL W0:=λ_ _ _ _ _ _ _ _ _ _ _ _ _ _ z=>z.elim
def Rf{α:Type}(g f:Rho->R α):Prop:=∀ U,g U=.bad\/g U=f U
section
variable{X:Cx}{CL:ClA}{W:XW}{a:An}{f g:Rho->R D}
theorem SE.ref(h:SE X CL W a f)(r:Rf g f):SE X CL W a g:=λA=>PE.weak (h A) λZ H Q ⟨hA,U,q,p⟩=>⟨hA,U,q,by
 rcases r U with e|e
 .rw[e]at p;exact p.elim
 .rw[e]at p;exact p⟩
theorem SB.ref{f g:Rho->R Aj}(h:SB X CL W a f)(r:Rf g f):SB X CL W a g:=λA=>PT.weak (h A) λZ H Q ⟨hA,U,q,p⟩=>⟨hA,U,q,by
 rcases r U with e|e
 .rw[e]at p;exact p.elim
 .rw[e]at p;exact p⟩
theorem SW.ref{f g:Rho->R Aj}(h:SW X CL W a f)(r:Rf g f):SW X CL W a g:=λA=>PW.weak (h A) λZ H Q ⟨hA,U,q,p⟩=>⟨hA,U,q,by
 rcases r U with e|e
 .rw[e]at p;exact p.elim
 .rw[e]at p;exact p⟩
theorem SC.ref(h:SC X CL W fr a f)(r:Rf g f):SC X CL W fr a g:=λA=>PE.weak (h A) λZ H Q ⟨hA,U,q,p⟩=>⟨hA,U,q,by
 rcases r U with e|e
 .rw[e]at p;exact p.elim
 .rw[e]at p;exact p⟩
theorem SS.ref{st:Bx}{f g:Rho->O}(h:SS X CL W st f)(r:∀ U,g U=.bad\/g U=f U):SS X CL W st g:=λFz B=>PS.weak (h Fz B) λD Z H ⟨U,x,p⟩=>⟨U,x,by
 rcases r U with e|e
 .rw[e]at p;exact p.elim
 .rw[e]at p;exact p⟩
end
theorem MV:∀{l:Ac Al},Mi l=Aa->l.Nodup
 |[],_=>FK
 |x::xs,h=>by
  unfold Mi at h;simp only[Aq,Cr,WC,decide_eq_false_iff_not]at h;exact BZ.mpr ⟨h.1,MV h.2⟩
section
variable{T:Tc}{X:Cx}{Y:Gam}{CL:ClA}{k:Ag}{W:XW}
theorem iG(h:Q6 T x=Aa):Vis T.sc x:=by
 unfold Q6 at h;split at h
 .exact .inl (by assumption)
 .exact .inr (.inl (by assumption))
 .exact .inr (.inr (by assumption))
 .cases h
theorem M9(h:Kv T x=Aa):Loc T.sc x:=by
 unfold Kv at h;split at h
 .exact .inl (by assumption)
 .exact .inr (by assumption)
 .cases h
theorem PH(h:Mq x=Aa):(x==("__debug__" : Al))=Af/\(x==("__classdict__" : Al))=Af/\x≠"__name__" := by
 unfold Mq at h;simp only[Aq,Cr]at h;exact⟨h.1.1,h.1.2,λe=>by subst e;exact absurd h.2 (by simp)⟩
theorem JK{i:Ag}(v:VX Y CL k W T X)(h:isV T x i=Aa):PE X (.Name x pos) (GP i):=by
 unfold isV at h;simp only[Aq,BD]at h;obtain⟨h2,h3,_⟩:=PH h.2;exact qU (by rw[v.N];exact h.1.1) (by rw[v.sc];exact iG h.1.2) h2 h3
theorem HX(v:VX Y CL k W T X)(h:isB T x=Aa):Gl X x/\X.mg x=Ae/\x≠"__name__"/\(x==("__debug__" : Al))=Af:=by
 unfold isB glB at h;simp only[Aq,BD,WC,Bl]at h;obtain⟨h2,h3,h4⟩:=PH h.2;exact⟨by show X.env.scope.names.lookup x=_;rw[v.sc];exact h.1.2,v.bl x h.1.1,h4,h2⟩
theorem Dd{x:An}(h:DG x=Aa):AF (x::xs) env=(Af,eval x env)::AF xs env:=by
 cases x<;>first|rfl|cases h
theorem dL{y:An}(h:PD y=Aa):P7 y:=by
 intro o i;cases y<;>first|rfl|cases h
theorem Md{e:An}(h:Lg e=Aa):∀ x,CY e env x=pure x:=by
 intro x;cases e<;>first|rfl|cases h
theorem U_2{e:An}{t:Ap An}(h:K2 e=Aa):DJ e t l env=pure Af:=by
 cases e<;>first|rfl|cases h
theorem gB{e:An}(h:MU e=Aa):∀ whole,IM e env whole=(do let v <-whole;JU e.pos;holding [v] (truthy v)):=by
 intro whole;cases e<;>first|rfl|cases h
theorem aC(v:VX Y CL k W T X)(scope:Cq):relabel scope X.env=QL T.sc scope:=by
 unfold relabel QL;have:∀ n,X.env.kindOf n=T.sc.names.lookup n:=λn=>by show X.env.scope.names.lookup n=_;rw[v.sc]
 simp only[this,v.sc]
theorem Nw{N':Ac Al}(v:VX Y CL k W T X)(h:Lw T scope ts N'=Aa):BlockOk X scope N' ts/\N'.Nodup/\scope.kind=.function:=by
 unfold Lw at h;simp only[Aq,BD,Gc,C3,KC,ne_eq]at h;obtain⟨⟨⟨⟨⟨h1,h2⟩,h4⟩,h5⟩,h6⟩,h7⟩:=h;have at7:∀ i x,N'[i]?=Ab x->i∈ts\/((scope.names.lookup x≠Ab .local/\scope.names.lookup x≠Ab .cell)/\(scope.names.lookup x≠Ab .free\/T.N[i]?=Ab x)):=λi x e=>by
  have hi:=(AX.mp e).1;have:=h7 i (A3.mpr hi);rcases this with z|z
  .exact .inl (by simpa using z)
  .rw[e]at z;simp only[Aq,KC,ne_eq,C3,BD]at z;exact .inr z
 refine⟨⟨h1,h2,λy hy hl=>by rw[h2 y hy,hl],λy hy hf=>?_,by rw[v.N];exact h5,λi x e hf hn=>?_,λi x e hl=>?_⟩,MV h6,h1⟩
 .rw[v.sc];rcases h4 y hy with (z|z)|z
  .exact absurd hf z
  .exact .inl z
  .exact .inr z
 .rw[v.N];rcases at7 i x e with z|⟨_,z⟩
  .exact absurd z hn
  .exact z.resolve_left λq=>q hf
 .rcases at7 i x e with z|⟨z,_⟩
  .exact z
  .exact hl.elim (λq=>absurd q z.1) (λq=>absurd q z.2)
theorem VX.blk{xs:Ac Al}{cl:Ac (Al×Am)}{s:As}{fp:Ac Am}(v:VX Y CL k W T X)(h:Lw T scope ts (Kq ts xs T.N)=Aa):VX Y CL k W0 (T.blk scope ts xs) (cxC X scope cl C (Kq ts xs T.N) s H fp):=by
 obtain⟨_,h2,h3⟩:=Nw v h;exact⟨aC v scope,h3,rfl,h2,v.calm,v.room,v.bl,v.fn,PassesOwn.never,Vv,RI,v.xt,v.gl⟩
theorem Ug{t:Ag}(v:VX Y CL k W T X)(hfn:scope.names.lookup x=Ab .cell->X.fn x=Aa)(h:tgO T scope t x=Aa):PG X (.Name x pos) (ED t):=by
 unfold tgO at h;simp only[Aq,C3,BD]at h;rcases h with ⟨h1,h2|h2⟩
 .exact L8 (by rw[v.N];exact v.nd) (by rw[v.N];exact h1) (by rw[v.sc];exact .inl h2) (.inr (by rw[v.sc];exact h2))
 .exact L8 (by rw[v.N];exact v.nd) (by rw[v.N];exact h1) (by rw[v.sc];exact .inr h2.1) (.inl (hfn h2.2))
theorem OC{y:An}{r:Ac An}{zs:Ac Al}(h:Fn (y::r)=Ab zs):∃ x p ws,y=.Name x p/\Fn r=Ab ws/\zs=x::ws:=by
 cases y with
 |Name x p=>
  have h':(Fn r).map (x :: ·)=Ab zs:=h;cases e:Fn r with
  |none=>rw[e]at h';cases h'
  |some ws=>rw[e]at h';cases h';exact⟨x,p,ws,rfl,rfl,rfl⟩
 |_=>cases h
theorem Ph(x:Al)(p:A7)(r:Ac An)(env:CU):Cz (.Name x p::r) env=(Af,assign (.Name x p) env)::Cz r env:=rfl
theorem OB:∀(ys:Ac An)(zs:Ac Al),Fn ys=Ab zs->(Cz ys env).length=ys.length/\(Cz ys env).findIdx? (·.1)=Ae/\(Cz ys env).map (·.2)=ys.map λy=>assign y env:=by
 intro ys
 induction ys with
 |nil=>intro _ _;exact⟨rfl,rfl,rfl⟩
 |cons y r ih=>
  intro zs h;obtain⟨x,p,ws,rfl,e,rfl⟩:=OC h;obtain⟨h1,h2,h3⟩:=ih ws e;rw[Ph];refine⟨?_,?_,?_⟩
  .rw[BU,BU,h1]
  .rw[List.findIdx?_cons,h2];simp
  .rw[BP,BP,h3]
theorem gA(v:VX Y CL k W T X):∀(ys:Ac An)(ts:Ac Ag)(zs:Ac Al),Fn ys=Ab zs->tgB T ts zs=Aa->PGs X ys (ts.foldr (λt u=>Ib (ED t) u) Ic)/\ts.length=ys.length:=by
 intro ys
 induction ys with
 |nil=>
  intro ts zs e h;cases e;cases ts with
  |nil=>exact⟨Us,rfl⟩
  |cons t ts=>cases h
 |cons y r ih=>
  intro ts zs e h;obtain⟨x,p,ws,rfl,e2,rfl⟩:=OC e;cases ts with
  |nil=>cases h
  |cons t ts=>
   have h':(T.N[t]? == Ab x&&T.sc.names.lookup x==Ab .local&&tgB T ts ws)=Aa:=h;simp only[Aq,BD]at h';obtain⟨h1,h2⟩:=ih ts ws e2 h'.2;exact⟨TD (L8 (by rw[v.N];exact v.nd) (by rw[v.N];exact h'.1.1) (by rw[v.sc];exact .inl h'.1.2) (.inr (by rw[v.sc];exact h'.1.2))) h1 (by rw[Ph];rfl),congrArg (· + 1) h2⟩
theorem fZ(v:VX Y CL k W T X)(hn:(Fn ys).isSome=Aa)(h:tgB T ts (tgN ys)=Aa):PG X (.Tuple ys kk pos) (Lr X.K ts.length (ts.foldr (λt u=>Ib (ED t) u) Ic)):=by
 cases e:Fn ys with
 |none=>rw[e]at hn;cases hn
 |some zs=>
  have e2:tgN ys=zs:=by unfold tgN;rw[e];rfl
  rw[e2]at h;obtain⟨h1,h2⟩:=gA v ys ts zs e h;obtain⟨h3,h4,_⟩:=OB (env:=X.env) ys zs e;exact Qf v.calm h1 (by rw[h3,h2]) h4
end
noncomputable def Es.len:Es->Ag
 |.nil=>0
 |.cons _ es=>es.len+1
theorem PM(Y:Gam)(U:Rho):∀(es:Es)(ds:Ac D),evA Y U es=.ok ds->ds.length=es.len
 |.nil,ds,h=>by cases h;rfl
 |.cons e es,ds,h=>by
  obtain⟨x,h1,h2⟩:=Iu (Tq Y U e es ▸ h);obtain⟨xs,h3,h4⟩:=Iu h2;cases h4;exact congrArg (· + 1) (PM Y U es xs h3)
theorem UX(Y:Gam)(U:Rho):∀(es:Es)(ds:Ac D),evB Y U es=.ok ds->ds.length=es.len
 |.nil,ds,h=>by cases h;rfl
 |.cons e es,ds,h=>by
  obtain⟨x,h1,h2⟩:=Iu (Tp Y U e es ▸ h);obtain⟨xs,h3,h4⟩:=Iu h2;cases h4;exact congrArg (· + 1) (UX Y U es xs h3)
theorem Vj(Y:Gam)(U:Rho)(e:E)(h:shE U e=Aa):top U e (evE Y U e)=evE Y U e:=by
 cases e with
 |var i=>
  show EE U i=F1 U i;have h':shV U i=Aa:=h;unfold shV at h';unfold EE F1;cases q:U[i]? with
  |none=>rfl
  |some x=>
   cases x with
   |none=>rfl
   |some y=>
    obtain⟨d,o⟩:=y;cases o with
    |true=>rw[q]at h';cases h'
    |false=>rfl
 |_=>rfl
theorem Va(Y:Gam)(U:Rho):∀(es:Es),JP U es=Aa->evB Y U es=evA Y U es
 |.nil,_=>rfl
 |.cons e es,h=>by
  simp only[aS,Aq]at h;rw[Tq,Tp,Vj Y U e h.1,Va Y U es h.2]
theorem Qb(Y:Gam)(c:E):Rf (λU=>evE Y U c) (λU=>top U c (evE Y U c)):=λU=>by
 by_cases h:shE U c=Aa
 .exact .inr (Vj Y U c h).symm
 .cases c with
  |var i=>
   refine .inl ?_;show F1 U i=.bad;have h':¬ shV U i=Aa:=h;unfold shV at h';unfold F1;cases q:U[i]? with
   |none=>rfl
   |some x=>
    cases x with
    |none=>rfl
    |some y=>
     obtain⟨d,o⟩:=y;cases o with
     |true=>rfl
     |false=>rw[q]at h';exact absurd rfl h'
  |_=>exact absurd rfl h
def Pcs(X:Cx)(CL:ClA)(W:XW)(e:An)(f:Rho->R D):Prop:=∃ tg iter elt ifs scope pos N' ts fi fc fe as g,e=.ListComp elt [⟨tg,iter,ifs,0⟩] scope pos/\BlockOk X scope N' ts/\SI X CL W tg iter fi/\GG X.K CL ts as g /\
 (∀ cl C s H fp,PG (cxC X scope cl C N' s H fp) tg g)/\(∀ cl C s H fp,STs (cxC X scope cl C N' s H fp) CL ifs fc)/\(∀ cl C s H fp,SE (cxC X scope cl C N' s H fp) CL W0 elt fe)/\(∀ x,CY iter X.env x=pure x) /\
 ∀ U,f U=(fi U).bind λxs=>(noX (BQ (λx=>(as x U).bind fc) (λx=>(as x U).bind fe) xs)).bind λys=>.ok (.lst ys)
theorem Pcs.sc{W:XW}{e:An}{f:Rho->R D}(hc:X.calm=Aa)(h:Pcs X CL W e f):SC X CL W Aa e f:=by
 obtain⟨tg,iter,elt,ifs,scope,pos,N',ts,fi,fc,fe,as,g,rfl,B,hi,hGG,hg,ht,he,hs,ef⟩:=h;exact SC.congr (fQ hc B hi hGG hg ht he hs) ef
structure OkE (Y:Gam) (CL:ClA) (W:XW) (X:Cx) (e:An) (c:E):Prop where
 se:SE X CL W e (λU=>evE Y U c)
 st:ST X CL W e (λU=>top U c (evE Y U c))
 nw:DL Y c=Aa->SC X CL W Aa e (λU=>evE Y U c)
 cp:K2 e=Af->Pcs X CL W e (λU=>evE Y U c)
section
variable{Y:Gam}{CL:ClA}{W:XW}{X:Cx}{e:An}{c:E}
theorem EC(h:SE X CL W e (λU=>evE Y U c))(ht:∀ U r,top U c r=r)(hn:DL Y c=Af)(hc:K2 e=Aa):OkE Y CL W X e c:=
 ⟨h,by simp only[ht];exact h.st,λz=>absurd z (by rw[hn];decide),λz=>absurd z (by rw[hc];decide)⟩
theorem Qh(h:SC X CL W Aa e (λU=>evE Y U c))(ht:∀ U r,top U c r=r)(hc:K2 e=Aa):OkE Y CL W X e c:=
 ⟨h.se,by simp only[ht];exact h.se.st,λ_=>h,λz=>absurd z (by rw[hc];decide)⟩
theorem Wb(hc:X.calm=Aa)(h:Pcs X CL W e (λU=>evE Y U c))(ht:∀ U r,top U c r=r):OkE Y CL W X e c:=
 ⟨(h.sc hc).se,by simp only[ht];exact(h.sc hc).se.st,λ_=>h.sc hc,λ_=>h⟩
end
theorem bu{k:Ki}(h:QS k=Ab x):∃ T,tyK k=Ab T/\Dr x=Ab (.type T):=by
 cases k<;>simp only[QS]at h<;>cases h
 .exact⟨_,rfl,PyProof.Rows.boot_int⟩
 .exact⟨_,rfl,PyProof.Rows.boot_bool⟩
 .exact⟨_,rfl,PyProof.Rows.boot_str⟩
 .exact⟨_,rfl,F4⟩
 .exact⟨_,rfl,FS⟩
structure Snd (Y:Gam) (CL:ClA) (k:Ag) (n:Ag):Prop where
 e:∀(W:XW)(T:Tc)(X:Cx)(x:An)(c:E),VX Y CL k W T X->Bw n T x c=Aa->OkE Y CL W X x c
 b:∀(W:XW)(T:Tc)(X:Cx)(x:An)(c:E),VX Y CL k W T X->Jk n T x c=Aa->SB X CL W x (λU=>(top U c (evE Y U c)).bind CD)
 bs:∀(W:XW)(T:Tc)(X:Cx)(xs:Ac An)(es:Es)(pos:A7),VX Y CL k W T X->chkBs n T xs es=Aa->xs≠[]->SW X CL W (.BoolOp .And xs pos) (λU=>(evN Y U es).bind CD)/\SW X CL W (.BoolOp .Or xs pos) (λU=>(evO Y U es).bind CD)
 es:∀(W:XW)(T:Tc)(X:Cx)(xs:Ac An)(es:Es),VX Y CL k W T X->chkEs n T xs es=Aa->SA X CL W xs (λU=>evA Y U es)/\SAT X CL W xs (λU=>evB Y U es)/\xs.length=es.len/\(∀ pos,xs≠[]->SE X CL W (.BoolOp .And xs pos) (λU=>evN Y U es)/\SE X CL W (.BoolOp .Or xs pos) (λU=>evO Y U es))/\(∀ pos,(C4 pos (AF xs X.env)).any (·.1)=Af)
 o:∀(W:XW)(T:Tc)(X:Cx)(x:Ap An)(c:E),VX Y CL k W T X->chkO n T x c=Aa->SO X CL W x (λU=>(top U c (evE Y U c)).bind (slE c))
 t:∀(T:Tc)(X:Cx)(xs:Ac An)(c:E),VX Y CL k W0 T X->chkT n T xs c=Aa->STs X CL xs (λU=>(top U c (evE Y U c)).bind CD)
 i:∀(W:XW)(T:Tc)(X:Cx)(tu:Aj)(tg x:An)(i:I),VX Y CL k W T X->RE tu tg=Aa->chkI n T tu x i=Aa->SI X CL W tg x (λU=>evI Y U i)
section
variable{Y:Gam}{CL:ClA}{W:XW}{k n:Ag}{T:Tc}{X:Cx}
theorem bO:Snd Y CL k 0:=⟨λ_ _ _ _ _ _ h=>noF h,λ_ _ _ _ _ _ h=>noF h,λ_ _ _ _ _ _ _ h=>noF h,λ_ _ _ _ _ _ h=>noF h,λ_ _ _ _ _ _ h=>noF h,λ_ _ _ _ _ h=>noF h,λ_ _ _ _ _ _ _ _ _ h=>noF h⟩
theorem R4{x:An}(h:DG x=Aa)(hx:(C4 pos (AF xs env)).any (·.1)=Af):(C4 pos (AF (x::xs) env)).any (·.1)=Af:=by
 rw[Dd h];show (Af||(C4 pos (AF xs env)).any (·.1))=Af;rw[hx];rfl
theorem pT(S:Snd Y CL k n)(W:XW)(T:Tc)(X:Cx)(xs:Ac An)(es:Es)(v:VX Y CL k W T X)(h:chkEs (n+1) T xs es=Aa):SA X CL W xs (λU=>evA Y U es)/\SAT X CL W xs (λU=>evB Y U es)/\xs.length=es.len/\(∀ pos,xs≠[]->SE X CL W (.BoolOp .And xs pos) (λU=>evN Y U es)/\SE X CL W (.BoolOp .Or xs pos) (λU=>evO Y U es))/\(∀ pos,(C4 pos (AF xs X.env)).any (·.1)=Af):=by
 cases xs with
 |nil=>
  cases es with
  |nil=>exact⟨sT,fS,rfl,λ_ z=>absurd rfl z,λ_=>rfl⟩
  |cons=>exact noF h
 |cons x xs=>
  cases es with
  |nil=>exact noF h
  |cons e es=>
   replace h:(DG x&&Bw n T x e&&chkEs n T xs es)=Aa:=h;simp only[Aq]at h;obtain⟨⟨h0,h1⟩,h2⟩:=h;have he:=S.e W T X x e v h1;obtain⟨a1,a2,a3,a4,a5⟩:=S.es W T X xs es v h2;refine⟨fU he.se a1 (Dd h0),dQ he.st a2 (Dd h0),congrArg (· + 1) a3,λpos _=>?_,λpos=>R4 h0 (a5 pos)⟩
   cases xs with
   |nil=>
    cases es with
    |nil=>exact⟨Vo he.se,Vo he.se⟩
    |cons=>cases a3
   |cons y ys=>
    cases es with
    |nil=>cases a3
    |cons e' es'=>
     obtain⟨b1,b2⟩:=a4 pos (by simp)
     exact⟨sP he.se b1,yP he.se b2⟩
theorem wS(S:Snd Y CL k n)(W:XW)(T:Tc)(X:Cx)(x:Ap An)(c:E)(v:VX Y CL k W T X)(h:chkO (n+1) T x c=Aa):SO X CL W x (λU=>(top U c (evE Y U c)).bind (slE c)):=by
 cases x with
 |none=>
  obtain rfl:=cR h;exact gU
 |some x=>
  replace h:(!(ND c)&&Bw n T x c)=Aa:=h;rw[Aq]at h;have q:=gS (S.e W T X x c v h.2).st;have e:slE c=λd=>(EQ d).bind λi=>.ok (Ab i):=by
   funext d
   cases c<;>first|rfl|exact absurd (show Af=Aa from h.1) AW
  rw[e];exact q
theorem wP(S:Snd Y CL k n)(T:Tc)(X:Cx)(xs:Ac An)(c:E)(v:VX Y CL k W0 T X)(h:chkT (n+1) T xs c=Aa):STs X CL xs (λU=>(top U c (evE Y U c)).bind CD):=by
 cases xs with
 |nil=>
  replace h:=iT h;obtain⟨b,rfl,h⟩:=h;subst h;exact gH
 |cons x xs=>
  replace h:(xs.isEmpty&&Jk n T x c)=Aa:=h;rw[Aq]at h;obtain rfl:=K3 h.1;exact gG (S.b W0 T X x c v h.2)
theorem wT(S:Snd Y CL k n)(W:XW)(T:Tc)(X:Cx)(tu:Aj)(tg x:An)(i:I)(v:VX Y CL k W T X)(ht':RE tu tg=Aa)(h:chkI (n+1) T tu x i=Aa):SI X CL W tg x (λU=>evI Y U i):=by
 have ht:tu=Aa->zT tg=Aa:=λz=>by
  subst z;cases tg<;>first|rfl|cases ht'
 cases i with
 |e a=>
  exact YV (S.e W T X x a v h).se
 |rng a=>
  replace h:=KP h;obtain⟨g,pp,l,qq,rfl,h⟩:=h;replace h:=Hl h;obtain⟨y,rfl,h⟩:=h;simp only[Aq,BD]at h;obtain⟨⟨⟨rfl,h1⟩,h2⟩,h3⟩:=h;obtain⟨g1,g2,_,_⟩:=HX v h1;exact qF (S.e W T X _ a v h3).st g1 g2 (Dd h2)
 |rng2 a b=>
  replace h:=KP h;obtain⟨g,pp,l,qq,rfl,h⟩:=h;replace h:=Ka h;obtain⟨y,z,rfl,h⟩:=h;simp only[Aq,BD]at h;obtain⟨⟨⟨⟨⟨rfl,h1⟩,h2⟩,h3⟩,h4⟩,h5⟩:=h;obtain⟨g1,g2,_,_⟩:=HX v h1;exact fM (S.e W T X _ a v h4).st (S.e W T X _ b v h5).st g1 g2 (by rw[Dd h2,Dd h3];rfl) (by rw[Dd h3];rfl)
 |zip a b=>
  replace h:=KP h;obtain⟨g,pp,l,qq,rfl,h⟩:=h;replace h:=Ka h;obtain⟨y,z,rfl,h⟩:=h;simp only[Aq,BD]at h;obtain⟨⟨⟨⟨⟨⟨h0,rfl⟩,h1⟩,h2⟩,h3⟩,h4⟩,h5⟩:=h;obtain⟨g1,g2,_,_⟩:=HX v h1;have hg:=ht h0;cases tg with
  |Tuple es m tpos=>exact qE (S.e W T X _ a v h4).se (S.e W T X _ b v h5).se g1 g2 (by rw[Dd h2,Dd h3];rfl) (by rw[Dd h3];rfl)
  |_=>cases hg
 |zip3 a b c=>exact absurd (show Af=Aa from h) AW
 |enm a=>
  replace h:=KP h;obtain⟨g,pp,l,qq,rfl,h⟩:=h;replace h:=Hl h;obtain⟨y,rfl,h⟩:=h;simp only[Aq,BD]at h;obtain⟨⟨⟨⟨h0,rfl⟩,h1⟩,h2⟩,h3⟩:=h;obtain⟨g1,g2,_,_⟩:=HX v h1;have hg:=ht h0;cases tg with
  |Tuple es m tpos=>exact fN (S.e W T X _ a v h3).se g1 g2 (Dd h2)
  |_=>cases hg
theorem KJ{c:Prop}[Gp c]{b:Aj}:(if c then R.ok (D.bl b) else .bad)=.bad\/∃ b',(if c then R.ok (D.bl b) else .bad)=.ok (.bl b'):=by
 by_cases h:c
 .rw[AI h];exact .inr ⟨_,rfl⟩
 .rw[AV h];exact .inl rfl
theorem fD(op:DA)(d d':D):Cf op d d'=.bad\/∃ b,Cf op d d'=.ok (.bl b):=by
 cases op with
 |Eq=>exact KJ
 |NotEq=>exact KJ
 |In=>
  cases d' with
  |lst ys=>exact KJ
  |tup ys=>exact KJ
  |dic kvs=>
   show (match Lq d with|some k=>R.ok (D.bl (kvs.any λp=>p.1==k))|none=>.bad)=.bad\/∃ b,(match Lq d with|some k=>R.ok (D.bl (kvs.any λp=>p.1==k))|none=>.bad)=.ok (.bl b)
   cases Lq d with
   |some k=>exact .inr ⟨_,rfl⟩
   |none=>exact .inl rfl
  |_=>exact .inl rfl
 |NotIn=>
  cases d' with
  |lst ys=>exact KJ
  |tup ys=>exact KJ
  |_=>exact .inl rfl
 |Is=>
  cases d' with
  |non=>cases d<;>first|exact .inr ⟨_,rfl⟩|exact .inl rfl
  |_=>cases d<;>first|exact .inl rfl|exact .inr ⟨_,rfl⟩
 |IsNot=>
  cases d' with
  |non=>cases d<;>first|exact .inr ⟨_,rfl⟩|exact .inl rfl
  |_=>cases d<;>first|exact .inl rfl|exact .inr ⟨_,rfl⟩
 |_=>
  cases d with
  |int i=>cases d'<;>first|exact .inr ⟨_,rfl⟩|exact .inl rfl
  |_=>exact .inl rfl
theorem U_4(op:DA)(d d':D):(Cf op d d').bind CD=.bad\/(Cf op d d').bind CD=(Cf op d d').bind Eb:=by
 rcases fD op d d' with h|⟨b,h⟩
 .rw[h];exact .inl rfl
 .rw[h];exact .inr rfl
theorem vC(e e':E)(es:Es):Rf (λU=>(evN Y U (.cons e (.cons e' es))).bind CD) (λU=>((top U e (evE Y U e)).bind CD).bind λc=>if c=Aa then (evN Y U (.cons e' es)).bind CD else .ok Af):=λU=>by
 have e0:evN Y U (.cons e (.cons e' es))=(evE Y U e).bind λx=>(Eb x).bind λc=>if c=Aa then evN Y U (.cons e' es) else .ok (.bl Af):=rfl
 dsimp only;rw[e0];rcases Qb Y e U with z|z<;>dsimp only at z
 .rw[z];exact .inl rfl
 .rw[<-z];cases evE Y U e with
  |bad=>exact .inl rfl
  |exn x=>exact .inr rfl
  |ok d=>
   cases d with
   |bl b=>cases b<;>exact .inr rfl
   |_=>exact .inl rfl
theorem vB(e e':E)(es:Es):Rf (λU=>(evO Y U (.cons e (.cons e' es))).bind CD) (λU=>((top U e (evE Y U e)).bind CD).bind λc=>if c=Aa then .ok Aa else (evO Y U (.cons e' es)).bind CD):=λU=>by
 have e0:evO Y U (.cons e (.cons e' es))=(evE Y U e).bind λx=>(Eb x).bind λc=>if c=Aa then .ok (.bl Aa) else evO Y U (.cons e' es):=rfl
 dsimp only;rw[e0];rcases Qb Y e U with z|z<;>dsimp only at z
 .rw[z];exact .inl rfl
 .rw[<-z];cases evE Y U e with
  |bad=>exact .inl rfl
  |exn x=>exact .inr rfl
  |ok d=>
   cases d with
   |bl b=>cases b<;>exact .inr rfl
   |_=>exact .inl rfl
theorem Rf.tru(e:E):Rf (λU=>(evE Y U e).bind CD) (λU=>(top U e (evE Y U e)).bind CD):=λU=>by
 rcases Qb Y e U with z|z<;>dsimp only at z ⊢
 .rw[z];exact .inl rfl
 .rw[<-z];exact .inr rfl
theorem pU(S:Snd Y CL k n)(W:XW)(T:Tc)(X:Cx)(xs:Ac An)(es:Es)(pos:A7)(v:VX Y CL k W T X)(h:chkBs (n+1) T xs es=Aa)(hne:xs≠[]):SW X CL W (.BoolOp .And xs pos) (λU=>(evN Y U es).bind CD)/\SW X CL W (.BoolOp .Or xs pos) (λU=>(evO Y U es).bind CD):=by
 cases xs with
 |nil=>exact absurd rfl hne
 |cons x xs=>
  cases es with
  |nil=>exact noF h
  |cons e es=>
   replace h:(Jk n T x e&&chkBs n T xs es)=Aa:=h;simp only[Aq]at h;obtain⟨h1,h2⟩:=h;have he:=S.b W T X x e v h1;cases xs with
   |nil=>
    cases es with
    |nil=>exact⟨SW.ref (gE he) (Rf.tru e),SW.ref (pO he) (Rf.tru e)⟩
    |cons=>
     cases n with
     |zero=>exact absurd (show Af=Aa from h2) AW
     |succ n=>exact absurd (show Af=Aa from h2) AW
   |cons y ys=>
    cases es with
    |nil=>
     cases n with
     |zero=>exact absurd (show Af=Aa from h2) AW
     |succ n=>exact absurd (show Af=Aa from h2) AW
    |cons e' es'=>
     obtain⟨b1,b2⟩:=S.bs W T X (y::ys) (.cons e' es') pos v h2 (by simp)
     exact⟨SW.ref (pP he b1) (vC e e' es'),SW.ref (wO he b2) (vB e e' es')⟩
theorem iL(S:Snd Y CL k n){x:An}{ops:Ac DA}{b:BI}(v:VX Y CL k W T X)(h:Q3 T (Bw n) x ops ys b as=Aa):SB X CL W (.Compare x ops ys pos) (λU=>(top U (.bi b as) (evE Y U (.bi b as))).bind CD):=by
 exact absurd (show Af=Aa from h) AW
theorem wV(S:Snd Y CL k n)(W:XW)(T:Tc)(X:Cx)(x:An)(c:E)(v:VX Y CL k W T X)(h:Jk (n+1) T x c=Aa):SB X CL W x (λU=>(top U c (evE Y U c)).bind CD):=by
 have plain:∀ e,MU e=Aa->Bw n T e c=Aa->SB X CL W e (λU=>(top U c (evE Y U c)).bind CD):=λe h1 h2=>sQ (S.e W T X e c v h2).st (gB h1)
 replace h:((Lp x λo x=>decide (o=.Not)&&(N7 c λa=>Jk n T x a))||(Lf x λo xs _=>(decide (o=.And)&&(NM c λes=>chkBs n T xs es && !xs.isEmpty))||(decide (o=.Or)&&(N6 c λes=>chkBs n T xs es && !xs.isEmpty)))||(Lb x λx os ys=>(NH c λop a b=>Gi os λop'=>Gi ys λy=>decide (op'=op) && !behindInMarks op y&&Bw n T x a&&Bw n T y b)||(NI c λop1 op2 a b c=>IE os λo1 o2=>IE ys λy z=>decide (o1=op1)&&decide (o2=op2) && !lastMarks [op1,op2] [y,z]&&Bw n T x a&&Bw n T y b&&Bw n T z c)||(NJ c λb as=>Q3 T (Bw n) x os ys b as))||MU x&&Bw n T x c)=Aa:=h
 replace h:=(orT h).imp_left λz=>(orT z).imp_left orT
 rcases h with ((h|h)|h)|h
 .replace h:=PV h;obtain⟨o,y,p,rfl,h⟩:=h;replace h:=FI h;obtain⟨h0,h⟩:=h;obtain rfl:=BX h0;replace h:=iR h;obtain⟨a,rfl,h⟩:=h
  .skip
   refine SB.ref (sR (S.b W T X _ a v h)) λU=>?_
   show ((top U a (evE Y U a)).bind λx=>(Eb x).bind λb=>.ok (.bl (!b))).bind CD=.bad\/((top U a (evE Y U a)).bind λx=>(Eb x).bind λb=>.ok (.bl (!b))).bind CD=_
   cases top U a (evE Y U a) with
   |bad=>exact .inl rfl
   |exn x=>exact .inr rfl
   |ok d=>cases d<;>first|exact .inr rfl|exact .inl rfl
 .replace h:=Pl h;obtain⟨o,ys,p,rfl,h⟩:=h;replace h:=orT h;rcases h with h|h
  .replace h:=FI h;obtain⟨h0,h⟩:=h;obtain rfl:=BX h0;replace h:=dI h;obtain⟨es,rfl,h⟩:=h;simp only[Aq,Cr,Eh]at h;exact(S.bs W T X _ _ _ v h.1 h.2).1.sb
  .replace h:=FI h;obtain⟨h0,h⟩:=h;obtain rfl:=BX h0;replace h:=jR h;obtain⟨es,rfl,h⟩:=h;simp only[Aq,Cr,Eh]at h;exact(S.bs W T X _ _ _ v h.1 h.2).2.sb
 .replace h:=Pk h;obtain⟨w,os,ys,p,rfl,h⟩:=h;replace h:=(orT h).imp_left orT;rcases h with (h|h)|h
  .replace h:=dC h;obtain⟨op,a,b,rfl,h⟩:=h;replace h:=Hl h;obtain⟨op',rfl,h⟩:=h;replace h:=Hl h;obtain⟨y,rfl,h⟩:=h
   .simp only[Aq,Cr,Bl]at h;obtain⟨⟨⟨rfl,h1⟩,h2⟩,h3⟩:=h;refine SB.ref (sS (KY v.room.units _) (S.e W T X _ a v h2).st (S.e W T X _ b v h3).st h1) λU=>?_
    show ((top U a (evE Y U a)).bind λx=>(top U b (evE Y U b)).bind λy=>Cf op' x y).bind CD=.bad\/((top U a (evE Y U a)).bind λx=>(top U b (evE Y U b)).bind λy=>Cf op' x y).bind CD=_
    cases top U a (evE Y U a) with
    |bad=>exact .inl rfl
    |exn x=>exact .inr rfl
    |ok d=>
     cases top U b (evE Y U b) with
     |bad=>exact .inl rfl
     |exn x=>exact .inr rfl
     |ok d'=>
      dsimp only[R.bind];exact U_4 _ d d'
  .replace h:=dD h;obtain⟨op1,op2,a,b,c,rfl,h⟩:=h;replace h:=Ka h;obtain⟨o1,o2,rfl,h⟩:=h;replace h:=Ka h;obtain⟨y,z,rfl,h⟩:=h
   .simp only[Aq,Cr,Bl]at h;obtain⟨⟨⟨⟨⟨rfl,rfl⟩,h1⟩,h2⟩,h3⟩,h4⟩:=h;refine SB.ref (dP v.room.units (S.e W T X _ a v h2).st (S.e W T X _ b v h3).st (S.e W T X _ c v h4).st h1) λU=>?_
    show ((top U a (evE Y U a)).bind λx=>(top U b (evE Y U b)).bind λy=>(Cf o1 x y).bind λz=>(Eb z).bind λk=>if k=Aa then (top U c (evE Y U c)).bind λu=>Cf o2 y u else .ok (.bl Af)).bind CD=.bad\/((top U a (evE Y U a)).bind λx=>(top U b (evE Y U b)).bind λy=>(Cf o1 x y).bind λz=>(Eb z).bind λk=>if k=Aa then (top U c (evE Y U c)).bind λu=>Cf o2 y u else .ok (.bl Af)).bind CD=_
    cases top U a (evE Y U a) with
    |bad=>exact .inl rfl
    |exn x=>exact .inr rfl
    |ok d=>
     cases top U b (evE Y U b) with
     |bad=>exact .inl rfl
     |exn x=>exact .inr rfl
     |ok d'=>
      dsimp only[R.bind];cases Cf o1 d d' with
      |bad=>exact .inl rfl
      |exn x=>exact .inr rfl
      |ok d3=>
       cases d3 with
       |bl k=>
        cases k with
        |false=>exact .inr rfl
        |true=>
         dsimp only[R.bind,Eb];rw[AI rfl,AI rfl];cases top U c (evE Y U c) with
         |bad=>exact .inl rfl
         |exn x=>exact .inr rfl
         |ok d4=>exact U_4 _ d' d4
       |_=>exact .inl rfl
  .replace h:=dE h;obtain⟨b,as,rfl,h⟩:=h;exact iL S v h
 .exact plain _ (FI h).1 (FI h).2
end
section
variable{Y:Gam}{CL:ClA}{W:XW}{k n:Ag}{T:Tc}{X:Cx}
theorem ce{b:BI}{x:An}(v:VX Y CL k W T X)(hb:QT b=Ab g)(hg:isB T g=Aa)(hs:SAT X CL W (x::xs) (λU=>evB Y U as))(h0:DG x=Aa)(hpl:∀ pos,(C4 pos (AF xs X.env)).any (·.1)=Af):OkE Y CL W X (.Call (.Name g p) (x::xs) [] pos) (.bi b as):=by
 obtain⟨g1,g2,g3,g4⟩:=HX v hg;cases b<;>simp only[QT]at hb<;>cases hb
 .exact EC (K1 uY g1 g2 PySem.boot_len hs g3 g4 (Dd h0) hpl) (λ_ _=>rfl) rfl rfl
 .exact EC (K1 (uX v.calm) g1 g2 PyProof.Rows.boot_max hs g3 g4 (Dd h0) hpl) (λ_ _=>rfl) rfl rfl
 .exact EC (K1 (wH v.calm) g1 g2 PyProof.Rows.boot_min hs g3 g4 (Dd h0) hpl) (λ_ _=>rfl) rfl rfl
 .exact Qh (qB kS g1 g2 F4 hs g3 g4 (Dd h0) hpl) (λ_ _=>rfl) rfl
 .exact EC (sO fE g1 g2 FS hs g3 g4 (Dd h0) hpl) (λ_ _=>rfl) rfl rfl
 .exact EC (K1 (vA v.calm) g1 g2 PyProof.Rows.boot_all hs g3 g4 (Dd h0) hpl) (λ_ _=>rfl) rfl rfl
 .exact EC (K1 (uZ v.calm) g1 g2 PyProof.Rows.boot_any hs g3 g4 (Dd h0) hpl) (λ_ _=>rfl) rfl rfl
 .exact EC (K1 (wG v.calm) g1 g2 PyProof.Rows.boot_sum hs g3 g4 (Dd h0) hpl) (λ_ _=>rfl) rfl rfl
theorem OT{x:An}{es:Es}(h:chkEs n T (x::xs) es=Aa):DG x=Aa/\∃ e es',es=.cons e es'/\∃ m,n=m+1/\chkEs m T xs es'=Aa:=by
 cases n with
 |zero=>exact noF h
 |succ m=>
  cases es with
  |nil=>exact noF h
  |cons e es=>
   replace h:(DG x&&Bw m T x e&&chkEs m T xs es)=Aa:=h;simp only[Aq]at h;exact⟨h.1.1,e,es,rfl,m,rfl,h.2⟩
theorem Su:∀(m:Ag)(xs:Ac An)(es:Es),chkEs m T xs es=Aa->∀ pos,(C4 pos (AF xs X.env)).any (·.1)=Af:=by
 intro m
 induction m with
 |zero=>intro xs es h;exact noF h
 |succ m ih=>
  intro xs es h pos;cases xs with
  |nil=>rfl
  |cons x xs=>
   obtain⟨h0,e,es',rfl,m',e1,h1⟩:=OT h;cases e1;exact R4 h0 (ih xs es' h1 pos)
theorem sV(S:Snd Y CL k n){x:An}{b:BI}(v:VX Y CL k W T X)(h:(match Mr as with|some a=>(match Ku x with|some (g,h,y)=>decide (b=.rvs)&&g==("list" : Al)&&h==("reversed" : Al)&&isB T g&&isB T h&&DG y&&Bw n T y a|none=>Af)|none=>Af)=Aa):OkE Y CL W X x (.bi b as):=by
 cases q1:Mr as with
 |none=>rw[q1]at h;cases h
 |some a=>
  cases q2:Ku x with
  |none=>rw[q1,q2]at h;cases h
  |some t2=>
   obtain⟨g,f,y⟩:=t2;rw[q1,q2]at h;simp only[Aq,BD,Bl]at h;obtain⟨⟨⟨⟨⟨⟨rfl,rfl⟩,rfl⟩,h1⟩,h2⟩,h3⟩,h4⟩:=h;obtain⟨p,p',pos,pos',rfl⟩:=mK q2;rw[nG q1];obtain⟨g1,g2,_,_⟩:=HX v h1;obtain⟨g3,g4,_,_⟩:=HX v h2;refine EC (SE.congr (pH (S.e W T X _ a v h4).st v.calm g1 g2 g3 g4 (by rw[Dd h3];rfl)) λU=>?_) (λ_ _=>rfl) rfl rfl
   simp only[U_9,evB,R.bind_assoc,R.bind_ok]
theorem pL(S:Snd Y CL k n){x:An}{b:BI}(v:VX Y CL k W T X)(h:(match QX as with|some (a,c)=>(match RS x with|some (y,z,_)=>decide (b=.tlt) && !behindInMarks .Lt z&&Bw n T y a&&Bw n T z c|none=>Af)|none=>Af)=Aa):OkE Y CL W X x (.bi b as):=by
 simp[QX]at h
theorem vS{x:An}{b:BI}(v:VX Y CL k W T X)(h:RN T x b as=Aa):OkE Y CL W X x (.bi b as):=by
 exact absurd h AW
theorem pR(S:Snd Y CL k n){x:An}{b:BI}(v:VX Y CL k W T X)(h:(match QY as with|some (a,k)=>(match RF x with|some (y,j)=>decide (b=.stp)&&decide (j=k)&&decide (0<=k)&&Bw n T y a|none=>Af)|none=>Af)=Aa):OkE Y CL W X x (.bi b as):=by
 simp[QY]at h
theorem uT(S:Snd Y CL k n){x:An}{b:BI}(v:VX Y CL k W T X)(h:(match Q0 as with|some (a,c)=>(match Rx x with|some (g,h,y,z)=>decide (b=.list)&&g==("list" : Al)&&h==("range" : Al)&&isB T g&&isB T h&&DG y&&DG z&&Bw n T y a&&Bw n T z c|none=>Af)|none=>Af)=Aa):OkE Y CL W X x (.bi b as):=by
 simp[Q0]at h
theorem mL(S:Snd Y CL k n){x:An}{b:BI}(v:VX Y CL k W T X)(h:(match QZ as with|some a=>(match Ku x with|some (g,h,y)=>decide (b=.lset)&&g==("len" : Al)&&h==("set" : Al)&&isB T g&&isB T h&&DG y&&Bw n T y a|none=>Af)|none=>Af)=Aa):OkE Y CL W X x (.bi b as):=by
 simp[QZ]at h
theorem wU(S:Snd Y CL k n)(W:XW)(T:Tc)(X:Cx)(x:An)(c:E)(v:VX Y CL k W T X)(h:Bw (n+1) T x c=Aa):OkE Y CL W X x c:=by
 cases c with
 |non=>
  replace h:=MZ h;obtain⟨c,u,p,rfl,h⟩:=h;obtain rfl:=BX h;exact EC pF (λ_ _=>rfl) rfl rfl
 |bl b=>
  replace h:=MZ h;obtain⟨c,u,p,rfl,h⟩:=h;obtain rfl:=BX h;exact EC yQ (λ_ _=>rfl) rfl rfl
 |int i=>
  replace h:=MZ h;obtain⟨c,u,p,rfl,h⟩:=h;obtain rfl:=BX h;exact EC pK (λ_ _=>rfl) rfl rfl
 |str i=>
  replace h:=MZ h;obtain⟨c,u,p,rfl,h⟩:=h;obtain rfl:=BX h;exact EC pA (λ_ _=>rfl) rfl rfl
 |var i=>
  replace h:=Iw h;obtain⟨y,p,rfl,h⟩:=h;exact⟨oY (JK v h),pV (JK v h),λz=>(nomatch z),λz=>(nomatch z)⟩
 |glob g=>exact absurd (show Af=Aa from h) AW
 |bin op a b=>
  replace h:=dF h;obtain⟨y,op',z,p,rfl,h⟩:=h;simp only[Aq,Bl]at h;obtain⟨⟨rfl,h1⟩,h2⟩:=h;have ha:=(S.e W T X _ a v h1).st;have hb:=(S.e W T X _ b v h2).st;refine⟨Vp (Uw _) ha hb,(Vp (Uw _) ha hb).st,λz=>?_,λz=>nomatch z⟩
  cases op'<;>first|exact qC ha hb|cases z
 |un op a=>
  replace h:=PV h;obtain⟨o,y,p,rfl,h⟩:=h;replace h:=FI h;obtain⟨h0,h⟩:=h;obtain rfl:=BX h0;simp only[Aq,Bl]at h;obtain⟨rfl,h1⟩:=h;exact EC (pG (S.e W T X _ a v h1).st) (λ_ _=>rfl) rfl rfl
 |no a=>
  replace h:=PV h;obtain⟨o,y,p,rfl,h⟩:=h;replace h:=FI h;obtain⟨h0,h⟩:=h;obtain rfl:=BX h0;exact EC (pB (S.e W T X _ a v h).st) (λ_ _=>rfl) rfl rfl
 |and es=>
  replace h:=Pl h;obtain⟨o,ys,p,rfl,h⟩:=h;replace h:=FI h;obtain⟨h0,h⟩:=h;obtain rfl:=BX h0;simp only[Aq,Cr,Eh]at h;exact EC ((S.es W T X _ es v h.1).2.2.2.1 _ h.2).1 (λ_ _=>rfl) rfl rfl
 |or es=>
  replace h:=Pl h;obtain⟨o,ys,p,rfl,h⟩:=h;replace h:=FI h;obtain⟨h0,h⟩:=h;obtain rfl:=BX h0;simp only[Aq,Cr,Eh]at h;exact EC ((S.es W T X _ es v h.1).2.2.2.1 _ h.2).2 (λ_ _=>rfl) rfl rfl
 |cmp op a b=>
  replace h:=Pk h;obtain⟨y,os,ys,p,rfl,h⟩:=h;replace h:=Hl h;obtain⟨op',rfl,h⟩:=h;replace h:=Hl h;obtain⟨z,rfl,h⟩:=h;simp only[Aq,Cr,Bl]at h;obtain⟨⟨⟨rfl,h1⟩,h2⟩,h3⟩:=h;exact EC (sN (KY v.room.units _) (S.e W T X _ a v h2).st (S.e W T X _ b v h3).st h1) (λ_ _=>rfl) rfl rfl
 |cmp2 op1 op2 a b c=>
  replace h:=Pk h;obtain⟨y,os,ys,p,rfl,h⟩:=h;replace h:=Ka h;obtain⟨o1,o2,rfl,h⟩:=h;replace h:=Ka h;obtain⟨z,w,rfl,h⟩:=h;simp only[Aq,Cr,Bl]at h;obtain⟨⟨⟨⟨⟨rfl,rfl⟩,h1⟩,h2⟩,h3⟩,h4⟩:=h;exact EC (dN v.room.units (S.e W T X _ a v h2).st (S.e W T X _ b v h3).st (S.e W T X _ c v h4).st h1) (λ_ _=>rfl) rfl rfl
 |ite c a b=>exact absurd (show Af=Aa from h) AW
 |call f as=>
  replace h:=S5 h;obtain⟨g,pp,y,ys,qq,rfl,h⟩:=h;simp only[Aq,WB,BD,Bl]at h;obtain⟨⟨⟨⟨⟨p,hp,⟨rfl,rfl⟩,hl⟩,h900⟩,h1⟩,h2⟩,h3⟩:=h;obtain⟨fa,fd,ps,m1,m2,m3,m4,m5,_⟩:=v.fn p hp;have hlt:p.2.2<1000:=by omega
  rw[Nat.mod_eq_of_lt hlt]at m4 m5;have m5:=m5 hlt;obtain⟨n2,n3,n4⟩:=PH h2;obtain⟨a1,a2,a3,a4,a5⟩:=S.es W T X _ as v h3;obtain⟨s0,e,es',rfl,m,rfl,s1⟩:=OT h3;have q:SC X CL W (Y.fr p.2.1) (.Call (.Name p.1 pp) (y::ys) [] qq) (λU=>evE Y U (.call p.2.1 (.cons e es'))):=fR (sh:=λU=>JP U (.cons e es')) m5 v.room (by unfold glB at h1;show X.env.scope.names.lookup p.1=_;rw[v.sc];exact eq_of_beq h1) m1 m2 m3 v.px a1 a2 (λU z=>Va Y U _ z) (λU ds z=>by rw[UX Y U _ _ z,<-a3,hl];rfl) n2 (Dd s0) (Su m ys es' s1)
  exact⟨q.se,q.se.st,λz=>by
   have z':Y.fr p.2.1=Aa:=z;rw[z']at q;exact q,λz=>nomatch z⟩
 |bi b as=>
  unfold Bw at h;dsimp only at h;simp only[C3]at h;rcases h with (((((h|h)|h)|h)|h)|h)|h
  .replace h:=S5 h;obtain⟨g,pp,y,ys,qq,rfl,h⟩:=h;simp only[Aq,BD]at h;obtain⟨⟨h1,h2⟩,h3⟩:=h;obtain⟨s0,e,es',rfl,m,rfl,s1⟩:=OT h3;exact ce v h1 h2 (S.es W T X _ _ v h3).2.1 s0 (Su m _ es' s1)
  .exact vS v h
  .exact uT S v h
  .exact pR S v h
  .exact mL S v h
  .exact pL S v h
  .exact sV S v h
 |isi a ks=>
  replace h:=Hl h;obtain⟨k',rfl,h⟩:=h;replace h:=KP h;obtain⟨g,pp,l,qq,rfl,h⟩:=h;replace h:=Ka h;obtain⟨y,t,rfl,h⟩:=h;replace h:=Iw h;obtain⟨t,pt,rfl,h⟩:=h;simp only[Aq,BD]at h;obtain⟨⟨⟨⟨⟨rfl,h1⟩,h2⟩,h3⟩,h4⟩,h5⟩:=h;obtain⟨g1,g2,_,_⟩:=HX v h1;obtain⟨b1,b2,b3,b4⟩:=HX v h3;obtain⟨ty,t1,t2⟩:=bu h2;exact EC (pJ t1 g1 g2 b1 b2 t2 b3 b4 (S.e W T X _ a v h5).st (Dd h4)) (λ_ _=>rfl) rfl rfl
 |idx a i=>
  replace h:=Pj h;obtain⟨y,z,p,rfl,h⟩:=h;simp only[Aq]at h;obtain⟨⟨h1,h2⟩,h3⟩:=h;exact EC (sJ (dL h1) (S.e W T X _ a v h2).st (S.e W T X _ i v h3).st) (λ_ _=>rfl) rfl rfl
 |sl a lo hi=>
  replace h:=Pj h;obtain⟨y,s,p,rfl,h⟩:=h;replace h:=cY h;obtain⟨l,u,st,p',rfl,h⟩:=h;replace h:=FI h;obtain⟨h0,h⟩:=h;obtain rfl:=Option.isNone_iff_eq_none.mp h0;simp only[Aq]at h;obtain⟨⟨h1,h2⟩,h3⟩:=h;refine Qh (SC.congr (wX (S.e W T X _ a v h1).st (S.o W T X _ lo v h2) (S.o W T X _ hi v h3)) λU=>?_) (λ_ _=>rfl) rfl
  show ((top U a (evE Y U a)).bind λx=>(top U lo (evE Y U lo)).bind λl=>(slE lo l).bind λl'=>(top U hi (evE Y U hi)).bind λh=>(slE hi h).bind λh'=>slD x l' h')=_
  simp only[R.bind_assoc]
 |tup es=>
  replace h:=MQ h;obtain⟨ys,cc,p,rfl,h⟩:=h;simp only[Aq,Bl]at h;have q:=S.es W T X _ es v h.1;exact EC (oZ q.1 λU ds z=>by rw[PM Y U _ _ z,<-q.2.2.1];omega) (λ_ _=>rfl) rfl rfl
 |lst es=>
  replace h:=dA h;obtain⟨ys,p,rfl,h⟩:=h;simp only[Aq,Bl]at h;have q:=S.es W T X _ es v h.1;exact Qh (qA q.1 λU ds z=>by rw[PM Y U _ _ z,<-q.2.2.1];omega) (λ_ _=>rfl) rfl
 |comp elt t it c=>
  replace h:=PC (e:=x) (F:=_) (by unfold Bw at h;exact h)
  obtain⟨y,tg,it',ifs,scope,p,rfl,h⟩:=h;replace h:=Iw h;obtain⟨w,pw,rfl,h⟩:=h;simp only[Aq]at h;obtain⟨⟨⟨⟨⟨h1,h2⟩,h3⟩,h4⟩,h5⟩,h6⟩:=h;refine Wb v.calm ⟨_,_,_,_,_,_,_,_,_,_,_,_,_,rfl,(Nw v h3).1,S.i W T X Af _ _ it v rfl h1,lA t,λcl C s H fp=>Ug (v.blk h3) (λz=>BD.mpr z) h4,λcl C s H fp=>S.t _ _ _ c (v.blk h3) h5,λcl C s H fp=>(S.e W0 _ _ _ elt (v.blk h3) h6).se,Md h2,λU=>rfl⟩ (λ_ _=>rfl)
 |compT elt ts it c=>
  replace h:=PC (e:=x) (F:=_) (by unfold Bw at h;exact h)
  obtain⟨y,tg,it',ifs,scope,p,rfl,h⟩:=h;replace h:=MQ h;obtain⟨ys,cc,pw,rfl,h⟩:=h;simp only[Aq]at h;obtain⟨⟨⟨⟨⟨⟨h0,h1⟩,h2⟩,h3⟩,h4⟩,h5⟩,h6⟩:=h;refine Wb v.calm ⟨_,_,_,_,_,_,_,_,_,_,_,_,_,rfl,(Nw v h3).1,S.i W T X Aa _ _ it v rfl h1,tY ts,λcl C s H fp=>fZ (v.blk h3) h0 h4,λcl C s H fp=>S.t _ _ _ c (v.blk h3) h5,λcl C s H fp=>(S.e W0 _ _ _ elt (v.blk h3) h6).se,Md h2,λU=>rfl⟩ (λ_ _=>rfl)
 |tupI it=>
  cases it with
  |zip3 a b c=>
   unfold Bw at h;dsimp only at h;cases q:NW x with
   |none=>rw[q]at h;cases h
   |some t=>
    obtain⟨g,f,y1,y2,y3⟩:=t;rw[q]at h;simp only[Aq,BD]at h;obtain⟨⟨⟨⟨⟨⟨⟨⟨⟨rfl,rfl⟩,h1⟩,h2⟩,h3⟩,h4⟩,h5⟩,h6⟩,h7⟩,h8⟩:=h;obtain⟨p,p',pos,pos',rfl⟩:=kR q;obtain⟨g1,g2,_,_⟩:=HX v h1;obtain⟨g3,g4,_,_⟩:=HX v h2;exact EC (sK (S.e W T X _ a v h6).se (S.e W T X _ b v h7).se (S.e W T X _ c v h8).se v.calm g1 g2 g3 g4 (by rw[Dd h3,Dd h4,Dd h5];rfl) (by rw[Dd h4,Dd h5];rfl) (by rw[Dd h5];rfl)) (λ_ _=>rfl) rfl rfl
  |_=>exact noF h
 |dnew=>exact noF h
 |fld o f=>exact noF h
theorem snd:∀ n,Snd Y CL k n
 |0=>bO
 |n+1=>⟨wU (snd n),wV (snd n),pU (snd n),pT (snd n),wS (snd n),wP (snd n),wT (snd n)⟩
end
section
variable{Y:Gam}{CL:ClA}{W:XW}{k n:Ag}{T:Tc}{X:Cx}
theorem iQ{t:Ag}(v:VX Y CL k W T X)(hf:∀ x,X.fn x=Aa)(h:tgC T [t] [x]=Aa):PG X (.Name x pos) (ED t):=by
 unfold tgC at h;simp only[Aq,BD]at h;exact L8 (by rw[v.N];exact v.nd) (by rw[v.N];exact h.1.1) (by rw[v.sc];exact M9 h.1.2) (.inl (hf x))
theorem UB(v:VX Y CL k W T X)(hf:∀ x,X.fn x=Aa):∀(ys:Ac An)(ts:Ac Ag)(zs:Ac Al),Fn ys=Ab zs->tgC T ts zs=Aa->PGs X ys (ts.foldr (λt u=>Ib (ED t) u) Ic)/\ts.length=ys.length:=by
 intro ys
 induction ys with
 |nil=>
  intro ts zs e h;cases e;cases ts with
  |nil=>exact⟨Us,rfl⟩
  |cons t ts=>cases h
 |cons y r ih=>
  intro ts zs e h;obtain⟨x,p,ws,rfl,e2,rfl⟩:=OC e;cases ts with
  |nil=>cases h
  |cons t ts=>
   have h':(T.N[t]? == Ab x&&Kv T x&&tgC T ts ws)=Aa:=h;simp only[Aq,BD]at h';obtain⟨h1,h2⟩:=ih ts ws e2 h'.2;exact⟨TD (L8 (by rw[v.N];exact v.nd) (by rw[v.N];exact h'.1.1) (by rw[v.sc];exact M9 h'.1.2) (.inl (hf x))) h1 (by rw[Ph];rfl),congrArg (· + 1) h2⟩
theorem iO(v:VX Y CL k W T X)(hf:∀ x,X.fn x=Aa)(hn:(Fn ys).isSome=Aa)(h:tgC T ts (tgN ys)=Aa):PG X (.Tuple ys kk pos) (Lr X.K ts.length (ts.foldr (λt u=>Ib (ED t) u) Ic)):=by
 cases e:Fn ys with
 |none=>rw[e]at hn;cases hn
 |some zs=>
  have e2:tgN ys=zs:=by unfold tgN;rw[e];rfl
  rw[e2]at h;obtain⟨h1,h2⟩:=UB v hf ys ts zs e h;obtain⟨h3,h4,_⟩:=OB (env:=X.env) ys zs e;exact Qf v.calm h1 (by rw[h3,h2]) h4
theorem pM(v:VX Y CL k W T X)(hf:∀ x,X.fn x=Aa)(hn:(Fn ys).isSome=Aa)(h:tgC T ts (tgN ys)=Aa):PG X (.Tuple ys kk pos) (gSq X.K ts.length (ts.foldr (λt u=>Ib (ED t) u) Ic)):=by
 cases e:Fn ys with
 |none=>rw[e]at hn;cases hn
 |some zs=>
  have e2:tgN ys=zs:=by unfold tgN;rw[e];rfl
  rw[e2]at h;obtain⟨h1,h2⟩:=UB v hf ys ts zs e h;obtain⟨h3,h4,_⟩:=OB (env:=X.env) ys zs e;exact xM v.calm h1 (by rw[h3,h2]) h4
theorem qR{e:An}(h:(Wc e||En 4 ys.length)=Aa):Gb [.Tuple ys kk pos] e env=pure Ae:=by
 cases e with
 |Tuple vs a b=>
  have h4:=EV (show En 4 ys.length=Aa from h)
  have e2:(ys.length==2)=Af:=by rw[DQ];omega
  have e3:(ys.length==3)=Af:=by rw[DQ];omega
  unfold Gb;dsimp only;rw[e2,e3];rfl
 |_=>rfl
theorem Sw(ts:Ac Ag):∀ d U x,Gh ts d U≠.exn x:=λd U x h=>by
 unfold Gh at h;cases d with
 |tup xs=>
  dsimp only at h;cases e:E2 ts xs U with
  |some r=>rw[e]at h;cases h
  |none=>rw[e]at h;cases h
 |_=>cases h
theorem bP(ts:Ac Ag):∀ d U x,Ji ts d U≠.exn x:=λd U x h=>by
 unfold Ji at h;split at h
 .split at h<;>cases h
 .exact Sw ts _ U x h
theorem Uc{elt:An}{gs:Ac Jo}{pos':A7}:∃ b,DJ (.ListComp elt gs scope pos) (Ab (.Name x pos')) l env=pure b/\(b=Aa->env.scope.names.lookup x=Ab .local):=by
 refine⟨_,rfl,λh=>?_⟩
 simp only[Aq,BD]at h;exact h.1.1.2
theorem Ql{v0:An}{i:Ag}{e:E}(v:VX Y CL k W T X)(hf:∀ x,X.fn x=Aa)(hi:T.N[i]?=Ab x)(hl:Kv T x=Aa)(o:OkE Y CL W X v0 e)(hfr:fr=Aa->DL Y e=Aa):SAs X CL W fr i (.Assign [.Name x p] v0 pos) (λU=>evE Y U e):=by
 have hN:X.N.Nodup:=by rw[v.N];exact v.nd
 have hi':X.N[i]?=Ab x:=by rw[v.N];exact hi
 have hx:Loc X.env.scope x:=by rw[v.sc];exact M9 hl
 have sc:SC X CL W fr v0 (λU=>evE Y U e):=by
  cases fr with
  |false=>exact o.se.sc
  |true=>exact o.nw (hfr rfl)
 cases hc:K2 v0 with
 |true=>exact SC.sas hN hi' hx sc (U_2 hc) (.inl (hf x))
 |false=>
  obtain⟨tg,iter,elt,ifs,scope,pos2,N',ts,fi,fc,fe,as,g,rfl,B,h2,hGG,hg,ht,he,hs,ef⟩:=o.cp hc;obtain⟨b,hb,hb'⟩:=Uc (elt:=elt) (gs:=[⟨tg,iter,ifs,0⟩]) (scope:=scope) (pos:=pos2) (pos':=p) (x:=x) (l:=pos.line) (env:=X.env);cases b with
  |false=>exact SC.sas hN hi' hx sc hb (.inl (hf x))
  |true=>
   have q:=dR (pos2:=pos) v.calm B h2 hGG hg ht he hs hN hi' (hb' rfl) hb;have q':SAs X CL W Aa i (.Assign [.Name x p] (.ListComp elt [⟨tg,iter,ifs,0⟩] scope pos2) pos) (λU=>evE Y U e):=by
    have:(λU=>evE Y U e)=_:=funext ef
    rw[this];exact q
   cases fr with
   |true=>exact q'
   | false=>exact λA=>PS.weak (q' A) λD Z H ⟨hA,U,gd,z⟩=>⟨hA,U,gd,by
     dsimp only at z ⊢;cases e0:evE Y U e with
     |ok d=>
      rw[e0]at z;exact λv' H' s' r'=>z v' H' s' ⟨r'.1,λ_=>r'.2 rfl⟩
     |exn y=>rw[e0]at z;exact z
     | bad=>rw[e0]at z;exact z⟩
theorem UF{e t:An}(h:∀ x p,t≠.Name x p):Hj [t] e l env=pure Af:=by
 show DJ e (Ab t) l env=pure Af;cases e<;>first|rfl|(cases t<;>first|rfl|exact absurd rfl (h _ _))
theorem Th(U:Rho)(e:E)(h:∀ i,e≠.var i):evS Y U (.ret e)=O.of U (evE Y U e) λd=>.ret d (DL Y e):=by
 have k:∀ b:Aj,b=Af->top U e (evE Y U e)=evE Y U e->(O.of U (top U e (evE Y U e)) λd=>.ret d (DL Y e||b))=O.of U (evE Y U e) λd=>.ret d (DL Y e):=λb hb ht=>by
  rw[hb,ht];simp only[Fh]
 rw[lT];cases e with
 |var i=>exact absurd rfl (h i)
 |_=>exact k _ rfl rfl
structure DefX (X:Cx):Prop where
 fn:∀ x,X.fn x=Aa
 ex:X.ex=[]
 st:X.stack=X.env::X.outer
 fm:X.env.frame=Ab X.env.locals
structure SndS (Y:Gam) (CL:ClA) (k:Ag) (n:Ag):Prop where
 s:∀(W:XW)(T:Tc)(X:Cx)(x:Bx)(c:S),VX Y CL k W T X->DefX X->NX n T x c=Aa->SS X CL W x (λU=>evS Y U c)
 ss:∀(W:XW)(T:Tc)(X:Cx)(x:Ac Bx)(c:Ss),VX Y CL k W T X->DefX X->chkSs n T x c=Aa->SSs X CL W x (λU=>evSs Y U c)
theorem VX.pw(v:VX Y CL k W T X){pI:Pn}{Xw:Vq}(own:Gu (model X.prog X.w) X.A X.env Xw):VX Y CL k W0 T (Cx.pw X pI Xw):=⟨v.sc,v.kd,v.N,v.nd,v.calm,v.room,v.bl,v.fn,own,Vv,RI,v.xt,v.gl⟩
theorem STB.congr{st:Ac Bx}{f g:Rho->O}(h:STB X CL st f)(e:∀ U,g U=f U):STB X CL st g:=by
 have:g=f:=funext e;rw[this];exact h
theorem wR(Z_:SndS Y CL k n)(W:XW)(T:Tc)(X:Cx)(st:Bx)(c:S)(v:VX Y CL k W T X)(hf:DefX X)(h:NX (n+1) T st c=Aa):SS X CL W st (λU=>evS Y U c):=by
  have E:=snd (Y:=Y) (CL:=CL) (k:=k) n;cases c with
  |pass=>exact absurd (show Af=Aa from h) AW
  |brk=>exact absurd (show Af=Aa from h) AW
  |cont=>exact absurd (show Af=Aa from h) AW
  |asg i fresh e=>
    replace h:=TQ h;obtain⟨x,px,v0,pos,rfl,h⟩:=h;simp only[Aq,BD]at h;obtain⟨⟨h1,h2⟩,h3⟩:=h;have o:=E.e W T X _ e v h3;cases fresh with
    |false=>exact Vn (Ql (fr:=Af) v hf.fn h1 h2 o (λz=>nomatch z))
    |true=>
      cases hn:DL Y e with
      |true=>
        refine SS.ref (gR (Ql (fr:=Aa) v hf.fn h1 h2 o (λ_=>hn))) λU=>.inr ?_
        show O.of U (evE Y U e) (λd=>if Aa=Aa then (if DL Y e=Aa then (match d with
          |.lst xs=>.next (U.set i (Ab (.lst xs,Aa)))
          |.dic xs=>.next (U.set i (Ab (.dic xs,Aa)))
          | _=>.bad) else .bad) else .next (U.set i (Ab (d,Af))))=_
        rw[hn];rfl
      |false=>
        refine SS.ref (Vn (Ql (fr:=Af) v hf.fn h1 h2 o (λz=>nomatch z))) λU=>?_
        have e0:evS Y U (.asg i Aa e)=O.of U (evE Y U e) (λd=>if Aa=Aa then (if DL Y e=Aa then (match d with
          |.lst xs=>.next (U.set i (Ab (.lst xs,Aa)))
          |.dic xs=>.next (U.set i (Ab (.dic xs,Aa)))
          | _=>.bad) else .bad) else .next (U.set i (Ab (d,Af)))):=rfl
        rw[e0,hn];cases evE Y U e with
        |ok d=>exact .inl rfl
        |exn y=>exact .inr rfl
        |bad=>exact .inl rfl
  |asgT ts e=>
    replace h:=Po h;obtain⟨t,v0,pos,rfl,h⟩:=h;replace h:=MQ h;obtain⟨ys,cc,pw,rfl,h⟩:=h;simp only[Aq]at h;obtain⟨⟨⟨h1,h2⟩,h3⟩,h5⟩:=h;exact gQ (aa ts) (pM v hf.fn h1 h2) (E.e W T X _ e v h5).se (UF (λ_ _ z=>by cases z)) (qR h3) rfl (bP ts)
  |expr e=>
    replace h:=TM h;obtain⟨v0,pos,rfl,h⟩:=h;simp only[Aq]at h;exact gO (E.e W T X _ e v h.2).se (U_2 h.1)
  |ret e=>
    replace h:=cZ h;obtain⟨o,pos,rfl,h⟩:=h;cases o with
    |none=>exact noF h
    |some v0=>
    replace h:Bw n T v0 e=Aa:=h;have o:=E.e W T X _ e v h;cases hv:DL Y e with
    |true=>
      refine SS.ref (gM (o.nw hv)) λU=>.inr ?_
      rw[Th U e (λi z=>by subst z;cases hv),hv]
    |false=>
      cases e with
      |var i=>
        cases n with
        |zero=>exact noF h
        |succ n=>
          replace h:=Iw h;obtain⟨y,py,rfl,h⟩:=h;exact gK (JK v h)
      |_=>
        refine SS.ref (gL o.se) λU=>.inr ?_
        rw[Th U _ (by intro i z;cases z),hv]
  |retN=>exact absurd (show Af=Aa from h) AW
  |ife c a b=>
    replace h:=iS h;obtain⟨t,xs,ys,pos,rfl,h⟩:=h;simp only[Aq]at h;exact wW (E.b W T X _ c v h.1.1) (Z_.ss W T X _ a v hf h.1.2) (Z_.ss W T X _ b v hf h.2)
  |fors t it body=>
    replace h:=TK h;obtain⟨tg,it',xs,ys,pos,rfl,h⟩:=h;replace h:=FI h;obtain⟨hn,h⟩:=h;obtain rfl:=K3 hn;replace h:=Iw h;obtain⟨y,py,rfl,h⟩:=h;simp only[Aq]at h;obtain⟨⟨⟨h1,h2⟩,h3⟩,h4⟩:=h;exact Vm v.own v.calm (kZ t) (iQ v hf.fn h1) (E.i W T X Af _ _ it v rfl h3) (Z_.ss W T X _ body v hf h4) (Md h2) (λ_ _ _ z=>nomatch z)
  |forT ts it body=>
    replace h:=TK h;obtain⟨tg,it',xs,zs,pos,rfl,h⟩:=h;replace h:=FI h;obtain⟨hn,h⟩:=h;obtain rfl:=K3 hn;replace h:=MQ h;obtain⟨ys,cc,py,rfl,h⟩:=h;simp only[Aq]at h;obtain⟨⟨⟨⟨h0,h1⟩,h2⟩,h3⟩,h4⟩:=h;exact Vm v.own v.calm (VB ts) (iO v hf.fn h0 h1) (E.i W T X Aa _ _ it v rfl h3) (Z_.ss W T X _ body v hf h4) (Md h2) (Sw ts)
  |whl c body=>exact absurd (show Af=Aa from h) AW
  |rais c as=>
    replace h:(!(T.rzs.any λp=>p.2==c))=Aa:=h
    cases hc:T.rzs.any (λp=>p.2==c) with
    |false=>
      have hb:∀ ds,Y.xn c ds=.bad:=v.xt.xb c λp hp z=>by
        have:T.rzs.any (λp=>p.2==c)=Aa:=List.any_eq_true.mpr ⟨p,hp,BD.mpr z⟩
        rw[hc]at this;cases this
      intro Fz B pI s Z H D I ⟨U,x,p⟩;have p':CQ X.K CL Fz B W (O.of U (noX (evA Y U as)) λxs=>O.of U (Y.xn c xs) λx=>.exn x U) D:=p
      cases e1:evA Y U as with
      |bad=>rw[e1]at p';exact p'.elim
      |exn y=>rw[e1]at p';exact p'.elim
      |ok ds=>
        rw[e1]at p';have p2:CQ X.K CL Fz B W (O.of U (Y.xn c ds) λx=>.exn x U) D:=p'
        rw[hb ds]at p2;exact p2.elim
    |true=>rw[hc]at h;cases h
  |app i e=>
    replace h:=TJ h;obtain⟨x,px,m,ap,l,cp,pos,rfl,h2,h⟩:=h;replace h:=Hl h;obtain⟨v0,rfl,h⟩:=h;simp only[Aq,BD]at h;obtain⟨⟨⟨rfl,h1⟩,h3⟩,h4⟩:=h;exact pZ (JK v h1) (E.e W T X _ e v h4).se rfl (by rw[Dd h3];rfl) (by rw[h2];exact Ew _) (Dd h3) rfl
  |ext i e=>
    replace h:=TJ h;obtain⟨x,px,m,ap,l,cp,pos,rfl,h2,h⟩:=h;replace h:=Hl h;obtain⟨v0,rfl,h⟩:=h;simp only[Aq,BD]at h;rw[C3]at h;obtain⟨⟨⟨rfl,h1⟩,h3⟩,h5⟩:=h;rcases h5 with h5|h5
    · rw[Aq]at h5;obtain⟨h5,h4⟩:=h5;exact pY (JK v h1) ((E.e W T X _ e v h4).nw (mG Y h5)) rfl (by rw[Dd h3];rfl) (by rw[h2];exact Ew _) (Dd h3) rfl
    · cases q:NS e with
      |none=>rw[q]at h5;cases h5
      |some a=>
        rw[q]at h5;have eq:=fG q;subst eq;have fe:(λU=>evS Y U (.ext i (.bi .list (.cons (.bin .Add a (.tup .nil)) .nil))))=λU=>O.of U (C7 U i) λxs=>O.of U (top U a (evE Y U a)) λx=>O.of U ((C1 .Add x (.tup [])).bind λy=>biD .list [y]) λd=>O.of U (Li d) λys=>if Di (xs.length+ys.length)=Aa then .next (U.set i (Ab (.lst (xs++ys),Aa))) else .bad:=funext λU=>by
          rw[lV];have e2:evE Y U (.bi .list (.cons (.bin .Add a (.tup .nil)) .nil))=(top U a (evE Y U a)).bind λx=>(C1 .Add x (.tup [])).bind λy=>biD .list [y]:=by
            simp only[U_9,evB,lY,iK,iJ,lX,evA,R.bind_ok,R.bind_assoc]
          rw[e2];cases C7 U i with
          |ok xs=>
            rw[O.of_ok,O.of_ok];cases top U a (evE Y U a)<;>rfl
          |exn z=>rfl
          |bad=>rfl
        show SS X CL W _ (λU=>evS Y U (.ext i (.bi .list (.cons (.bin .Add a (.tup .nil)) .nil))))
        rw[fe];exact gN (JK v h1) (E.e W T X _ a v h5).st rfl (by rw[Dd h3];rfl) (by rw[h2];exact Ew _) (Dd h3) rfl
  |rev i=>exact absurd (show Af=Aa from h) AW
  |clr i=>exact absurd (show Af=Aa from h) AW
  |put i k e=>
    replace h:=Po h;obtain⟨t,v0,pos,rfl,h⟩:=h;replace h:=Pj h;obtain⟨o,y,sp,rfl,h⟩:=h;replace h:=Iw h;obtain⟨x,p,rfl,h⟩:=h;simp only[Aq]at h;obtain⟨⟨⟨h1,h2⟩,h4⟩,h5⟩:=h;exact pX (JK v h1) (E.e W T X _ k v h4).st (E.e W T X _ e v h5).se (λw=>by cases y<;>first|rfl|cases h2) (UF (λ_ _ z=>by cases z)) rfl rfl
  |tryx body c x hh=>exact absurd (show Af=Aa from h) AW
  |try2 body c x hd c' hd' els=>exact absurd (show Af=Aa from h) AW
  |swp i k l=>exact absurd (show Af=Aa from h) AW
  |cpop t y k it e=>
    replace h:=TQ h;obtain⟨x,px,v0,pos,rfl,h⟩:=h;replace h:=PC h;obtain⟨w,tg,it',ifs,scope,p,rfl,h⟩:=h;replace h:=Iw h;obtain⟨z,pz,rfl,h⟩:=h;cases q:N4 w with
    |none=>rw[q]at h;cases h
    |some o=>
      obtain⟨o,u⟩:=o;rw[q]at h;simp only[Aq,BD]at h;obtain⟨⟨⟨⟨⟨⟨⟨⟨h1,h2⟩,h0⟩,h3⟩,h4⟩,h5⟩,h6⟩,h7⟩,h8⟩:=h;obtain⟨p',ap',cp',rfl,h9,h10⟩:=iY q;have hi:ifs=[]:=E7.mp h0;subst hi;exact gP v.calm (Nw v h5).1 (E.i W T X Af _ _ it v rfl h3) (λcl C s H fp=>Ug (v.blk h5) (λz=>BD.mpr z) h6) (λcl C s H fp=>JK (v.blk h5) h7) (λcl C s H fp=>(E.e W0 _ _ _ e (v.blk h5) h8).se) (λ_=>rfl) (by rw[h9];exact Ew _) (λ_=>Dd h10) (Md h4) (by rw[v.N];exact v.nd) (by rw[v.N];exact h1) (by rw[v.sc];exact M9 h2) (.inl (hf.fn x)) Uc
  |apop j i e=>exact absurd (show Af=Aa from h) AW
  |ins i k e=>exact absurd (show Af=Aa from h) AW
  |dput=>exact noF h
  |dsd=>exact noF h
  |rel=>exact noF h
theorem fF{c:Ss}(h:NY c=Aa)(U:Rho):evSs Y U c=.bad:=by
 cases c with
 |nil=>cases h
 |cons s ss=>
  cases s with
  |expr e=>
   cases e with
   |bi b as=>
    cases as with
    |nil=>
     cases b with
     |len=>rfl
     |_=>exact noF h
    |cons=>cases b<;>exact noF h
   |_=>exact noF h
  |_=>exact noF h
theorem pS(Z_:SndS Y CL k n)(W:XW)(T:Tc)(X:Cx)(xs:Ac Bx)(c:Ss)(v:VX Y CL k W T X)(hf:DefX X)(h:chkSs (n+1) T xs c=Aa):SSs X CL W xs (λU=>evSs Y U c):=by
 by_cases hb:NY c=Aa
 .exact λFz B pI s Z H D I ⟨U,x,p⟩=>by
   dsimp only at p;rw[fF hb]at p;exact p.elim
 have hb:NY c=Af:=by simpa using hb
 cases c with
 |nil=>
  simp only[chkSs,hb,Fh,E7]at h;subst h;exact gJ
 |cons s ss=>
  by_cases hr:∃ i,s=.rel i
  .obtain⟨i,rfl⟩:=hr;simp only[chkSs,hb,Fh]at h;exact gI i (Z_.ss W T X xs ss v hf h)
  .cases xs with
   |nil=>cases s<;>first|(simp[chkSs,hb]at h;done)|exact absurd ⟨_,rfl⟩ hr
   |cons st r=>
    have h':NX n T st s=Aa/\chkSs n T r ss=Aa:=by
     cases s<;>first|(simp only[chkSs,hb,Fh,Aq]at h;exact h)|exact absurd ⟨_,rfl⟩ hr
    exact bN (Z_.s W T X st s v hf h'.1) (Z_.ss W T X r ss v hf h'.2)
theorem Q4:∀ n,SndS Y CL k n
 |0=>⟨λ_ _ _ _ _ _ _ h=>noF h,λ_ _ _ _ _ _ _ h=>noF h⟩
 |n+1=>⟨wR (Q4 n),pS (Q4 n)⟩
end
theorem LX{n:Ag}{ds:Ac D}{i:Ag}{d:D}{o:Aj}(h:(BJ n ds)[i]?=Ab (Ab (d,o))):o=Af/\ds[i]?=Ab d:=by
 unfold BJ at h;by_cases hi:i<ds.length
 .rw[Fs (by simpa using hi),DH]at h
  cases e:ds[i]? with
  |none=>rw[e]at h;cases h
  |some x=>rw[e]at h;cases h;exact⟨rfl,rfl⟩
 .rw[WE (by simpa using Nat.le_of_not_lt hi),WG]at h
  split at h<;>cases h
theorem aR{N:Ac Al}{i:Ag}{v:V}(h:vs[i]?=Ab v):(L2.start N vs)[i]?=Ab (Ab v):=by
 unfold L2.start;have hi:=(AX.mp h).1;rw[Fs (by simpa using hi),DH,h]
 rfl
theorem bK{A:Am->Prop}{N:Ac Al}{n:Ag}{ds:Ac D}(hn:N.length=n)(hA:AOk H A)(r:Reps K CL H A vs ds):Sx K CL (λb o=>H b=Ab o) A (BJ n ds) (L2.start N vs) H:=by
 have own:∀ a,BG A (BJ n ds) (L2.start N vs) a->A a:=λa h=>by
  rcases h with h|⟨j,d,h,_⟩
  .exact h
  .exact absurd (LX h).1 (by decide)
 have hlen:(BJ n ds).length=(L2.start N vs).length:=by
  unfold BJ L2.start;simp only[Ch,AZ,WK,r.length,hn]
 refine⟨⟨λi d h=>?_,λi d h=>absurd (LX h).1 (by decide),hlen⟩,λa h=>hA a (own a h),λj d a h _=>absurd (LX h).1 (by decide),λi j d e a h _ _ _=>absurd (LX h).1 (by decide),λb o h=>h,hlen⟩
 obtain⟨v,h1,h2⟩:=r.get (LX h).2;exact⟨v,aR h1,Rep.sub own _ h2⟩
structure FunX (K:Fg) (x qual:Al) (st:Bx) (f:Am) (fd:Cs):Prop where
 ex:∃(oc:Ai)(od:Ap Am)(dV kV doc pm:Ai)(an:Ap Am)(cdv ct:Ai)(osl:AY (Ap Ai)),
  fd=DV x qual (Ke st) (HU st) (GM st) dV kV doc pm an cdv ct/\K.lookup f=Ab ⟨oc,od,.func fd,osl⟩/\FO K cdv qual=Aa
 kp:Dx K (.ref f)=Aa
theorem V7{st:Bx}{f:Am}(F:Fun K x qual st f fd):FunX K x qual st f fd:=by
 obtain⟨oc,od,kV,doc,pm,an,cdv,ct,osl,e,lk,hcd⟩:=F.ex;exact⟨⟨oc,od,.none,kV,doc,pm,an,cdv,ct,osl,e,lk,hcd⟩,F.kp⟩
def Lx(K:Fg)(mg:Al->Ap Ai)(fns:Ac (Al×Ag×Ag))(bl:Ac Al)(rzs exs gls:Ac (Al×Ag))(Pg:Prg)(fuel:Ag)(p:Al×Ag×Ag):Prop:=∃ f fd ps qual st N,mg p.1=Ab (.ref f)/\FunX K p.1 qual st f fd/\IB K fd ps []/\ps.length=p.2.2%1000/\Ig fuel (En 1000 p.2.2) fns bl rzs exs gls ps N st (Pg.defs p.2.1)=Aa
structure Tab (K:Fg) (mg:Al->Ap Ai) (CL:ClA) (fns:Ac (Al×Ag×Ag)) (bl:Ac Al) (rzs exs gls:Ac (Al×Ag)) (Pg:Prg) (fuel:Ag):Prop where
 xt:XT Pg.up Pg.xn CL rzs exs K mg
 bln:∀ x,x∈bl->mg x=Ae
 gl:∀ p∈gls,Rl K mg CL p.1 (Pg.G p.2)
 fn:∀ p∈fns,Lx K mg fns bl rzs exs gls Pg fuel p
theorem uB(Pg:Prg)(n i:Ag):(gam Pg n).fr i=(Pg.defs i).fr:=by cases n<;>rfl
theorem uA(Pg:Prg)(n:Ag):(gam Pg n).up=Pg.up:=by cases n<;>rfl
theorem zJ(Pg:Prg)(n:Ag):(gam Pg n).G=Pg.G:=by cases n<;>rfl
theorem tZ(Pg:Prg)(n:Ag):(gam Pg n).xn=Pg.xn:=by cases n<;>rfl
section
variable{P:AT}{w:AE}{K:Fg}{mg:Al->Ap Ai}{base:AJ}{CL:ClA}{fns:Ac (Al×Ag×Ag)}{bl:Ac Al}{rzs exs gls:Ac (Al×Ag)}{Pg:Prg}{fuel:Ag}
def Lvl(P:AT)(w:AE)(K:Fg)(mg:Al->Ap Ai)(base:AJ)(CL:ClA)(Pg:Prg)(n:Ag)(p:Al×Ag×Ag):Prop:=∃ f fd ps,mg p.1=Ab (.ref f)/\Dx K (.ref f)=Aa/\IB K fd ps []/\ps.length=p.2.2%1000/\(p.2.2<1000->FnOk P w K mg base (CXR P w) n f fd ps (spD K CL (p.2.2%1000) ((gam Pg n).fr p.2.1) ((gam Pg n).F p.2.1)))/\(1000<=p.2.2->HotOk P w K mg base n f fd ps (spH K CL (p.2.2%1000) ((gam Pg n).fr p.2.1) ((gam Pg n).F p.2.1)))
theorem Ve(t:Tab K mg CL fns bl rzs exs gls Pg fuel){n:Ag}(hlv:∀ q∈fns,Lvl P w K mg base CL Pg n q){st:Bx}{f:Am}{ps N:Ac Al}{m id:Ag}(h2:FunX K x qual st f fd)(h4:ps.length=m)(h5:Ig fuel Af fns bl rzs exs gls ps N st (Pg.defs id)=Aa):FnOk P w K mg base (CXR P w) (n+1) f fd ps (spD K CL m ((gam Pg (n+1)).fr id) ((gam Pg (n+1)).F id)):=by
  unfold Ig at h5;simp only[Aq,BD,Cr,Gc,C3,KC,ne_eq]at h5;obtain⟨⟨⟨⟨⟨⟨⟨⟨c1,c2⟩,c3⟩,c4⟩,c5⟩,c6⟩,c7⟩,c8⟩,c9⟩:=h5;obtain⟨oc,od,dV,kV,doc,pm,an,cdv,ct,osl,rfl,lk,hcd⟩:=h2.ex;refine VW (N:=N) lk hcd ⟨c1,c2,c3,MV c4,c5,c6,c7⟩ (λvs H Q E ⟨ds,A,z,_⟩=>z.trans h4.symm) λA outer s H vs Q E hr ⟨ds,B,hl,hA,hreps,hpost⟩=>?_
  have xt:XT (gam Pg n).up (gam Pg n).xn CL rzs exs K mg:=by rw[uA,tZ];exact t.xt
  have gl:∀ p∈gls,Rl K mg CL p.1 ((gam Pg n).G p.2):=by rw[zJ];exact t.gl
  have key:∀ W:XW,(∀ x cls dx H',W x H'->HY K CL H' cls dx x->E cls dx H')->CQ K CL (λb o=>H b=Ab o) B W (evSs (gam Pg n) (BJ (Pg.defs id).n ds) (Pg.defs id).body) {nx:=λ_ H'=>Q .non H',rt:=Q} ->
      ∃ t,PSs (G4 (CXR P w) P w K mg base N qual (GM st) f cdv A outer s H E) (HU st) t/\t {nx:=λ_ H'=>Q .non H',rt:=Q} (start N vs) H:=λW hW hp=>by
    have v:VX (gam Pg n) CL n W ⟨GM st,N,fns,bl,rzs,exs,gls⟩ (G4 (CXR P w) P w K mg base N qual (GM st) f cdv A outer s H E):=⟨rfl,c1,rfl,MV c4,rfl,hr,t.bln,hlv,ownR,aj hW,rzR hW,xt,gl⟩;exact⟨_,(Q4 fuel).ss W _ _ _ (Pg.defs id).body v ⟨λ_=>rfl,rfl,rfl,rfl⟩ c9 (λb o=>H b=Ab o) B,_,bK c8 hA hreps,hp⟩
  have no:∀ x cls dx H',W0 x H'->HY K CL H' cls dx x->E cls dx H':=λ_ _ _ _ z=>z.elim
  have e:(gam Pg (n+1)).F id ds=Hr Pg.xs ((evSs (gam Pg n) (BJ (Pg.defs id).n ds) (Pg.defs id).body).ans (Pg.defs id).fr):=rfl;rw[e,uB]at hpost;have cutO:∀ r:R D,(∀ x,r≠.exn x)->Hr Pg.xs r=r:=λr hr=>by
    cases Pg.xs<;>cases r<;>first|rfl|exact absurd rfl (hr _)
  cases eo:evSs (gam Pg n) (BJ (Pg.defs id).n ds) (Pg.defs id).body with
  |next U'=>
    refine key W0 no ?_;rw[eo]at hpost ⊢;cases ef:(Pg.defs id).fr with
    |true=>rw[ef]at hpost;rw[cutO _ (by intro x z;cases z)]at hpost;exact hpost.elim
    |false=>
      rw[ef]at hpost;rw[cutO _ (by intro x z;cases z)]at hpost
      exact λZ' H' x'=>hpost .non H' (λb o z=>x'.same b o z) ⟨rfl,λz=>nomatch z⟩
  |ret d b=>
    refine key W0 no ?_;rw[eo]at hpost ⊢;intro v H' sm rp fr;have hp2:(match Hr Pg.xs (if ((Pg.defs id).fr&&(!b&&isL d))=Aa then R.bad else R.ok d) with
      |.ok d=>∀ v H',AM H H'->E6 K CL (Pg.defs id).fr H B H' v d->Q v H'
      |.exn x=>∀ cls dx H',AM H H'->HY K CL H' cls dx x->E cls dx H'
      | .bad=>Bz):=hpost
    cases ec:((Pg.defs id).fr&&(!b&&isL d)) with
    |true=>rw[ec,AI rfl,cutO _ (by intro x z;cases z)]at hp2;exact hp2.elim
    |false=>
      rw[ec,AV (by decide),cutO _ (by intro x z;cases z)]at hp2
      refine hp2 v H' sm ⟨rp,λefr es hd=>?_⟩
      subst hd;have eb:b=Aa:=by
        cases b with
        |true=>rfl
        |false=>rw[efr]at ec;cases ec
      obtain⟨a,xs,h1,h2,h3,h4⟩:=fr eb es rfl;refine⟨a,xs,h1,?_,h3,h4⟩;cases ha:H a with
      |none=>rfl
      |some o=>exact absurd ha (h2 o)
  |brk U'=>rw[eo]at hpost;have hp2:(match Hr Pg.xs (R.bad:R D) with | .ok _=>_ | .exn _=>_ | .bad=>Bz):=hpost;rw[cutO _ (by intro x z;cases z)]at hp2;exact hp2.elim
  |cont U'=>rw[eo]at hpost;have hp2:(match Hr Pg.xs (R.bad:R D) with | .ok _=>_ | .exn _=>_ | .bad=>Bz):=hpost;rw[cutO _ (by intro x z;cases z)]at hp2;exact hp2.elim
  |bad=>rw[eo]at hpost;have hp2:(match Hr Pg.xs (R.bad:R D) with | .ok _=>_ | .exn _=>_ | .bad=>Bz):=hpost;rw[cutO _ (by intro x z;cases z)]at hp2;exact hp2.elim
  |exn x U'=>
    rw[eo]at hpost;have hp2:(match Hr Pg.xs (R.exn x:R D) with
      |.ok d=>∀ v H',AM H H'->E6 K CL (Pg.defs id).fr H B H' v d->Q v H'
      |.exn x=>∀ cls dx H',AM H H'->HY K CL H' cls dx x->E cls dx H'
      | .bad=>Bz):=hpost
    cases ex:Pg.xs with
    |false=>rw[ex]at hp2;exact hp2.elim
    |true=>
      rw[ex]at hp2;have hp3:∀ cls dx H',AM H H'->HY K CL H' cls dx x->E cls dx H':=hp2;refine key (λy H'=>y=x/\AM H H') (λy cls dx H' ⟨e1,sm⟩ xr=>?_) ?_
      · subst e1;exact hp3 cls dx H' sm xr
      · rw[eo];exact λH' sm=>⟨rfl,sm⟩
theorem tW(t:Tab K mg CL fns bl rzs exs gls Pg fuel){n:Ag}(hlv:∀ q∈fns,Lvl P w K mg base CL Pg n q){st:Bx}{f:Am}{ps N:Ac Al}{m id:Ag}(h2:FunX K x qual st f fd)(h4:ps.length=m)(h5:Ig fuel Aa fns bl rzs exs gls ps N st (Pg.defs id)=Aa):HotOk P w K mg base (n+1) f fd ps (spH K CL m ((gam Pg (n+1)).fr id) ((gam Pg (n+1)).F id)):=by
 exfalso
 unfold Ig at h5;simp[Wm]at h5
theorem Qj(t:Tab K mg CL fns bl rzs exs gls Pg fuel):∀ n,∀ p∈fns,Lvl P w K mg base CL Pg n p
 |0,p,hp=>by
  obtain⟨f,fd,ps,qual,st,N,h1,h2,h3,h4,h5⟩:=t.fn p hp;exact⟨f,fd,ps,h1,h2.kp,h3,h4,λ_=>⟨λvs H Q E ⟨ds,A,_,_,_,z⟩=>z.elim,λA outer s H args us vs Q E _ _ _ _ ⟨ds,A,_,_,_,z⟩=>z.elim⟩,λ_=>⟨λvs H Q E ⟨ds,A,_,_,_,z⟩=>z.elim,λA ev outer s H args us vs Q E _ _ _ _ ⟨ds,A,_,_,_,z⟩=>z.elim⟩⟩
 |n+1,p,hp=>by
  obtain⟨f,fd,ps,qual,st,N,h1,h2,h3,h4,h5⟩:=t.fn p hp;refine⟨f,fd,ps,h1,h2.kp,h3,h4,λhlt=>?_,λhge=>?_⟩
  .have eb:En 1000 p.2.2=Af:=by
    cases e:En 1000 p.2.2 with
    |false=>rfl
    |true=>exact absurd (EV e) (by omega)
   rw[eb]at h5;exact Ve t (λq hq=>Qj t n q hq) h2 h4 h5
  .rw[EU hge]at h5;exact tW t (λq hq=>Qj t n q hq) h2 h4 h5
theorem vP{s s':As}{e:Ai}(h:CXR P w [] H s (λ_ _ _=>Bz) e s'):Bz:=by
 obtain⟨_,_,_,_,_,_,_,_,_,_,_,_,_,_,_,z⟩:=h;exact z
theorem b8{c:Ag}(h:∀ ds,xn c ds=.bad\/xn c ds=.ok ⟨c,[]⟩)(e:Ls K C Ae=Aa)(ds:Ac D):xn c ds=.bad\/(xn c ds=.ok ⟨c,[]⟩/\Ls K C Ae=Aa)\/Bz:=(h ds).imp id λz=>.inl ⟨z,e⟩
theorem ax(dc:Mp K C=Aa)(h1:CV K (.ref C) "triple" = Ab Ae)(h2:CV K (.ref C) "points" = Ab Ae)(f:Al)(h:(f==("triple" : Al)||f==("points" : Al))=Aa):Mp K C=Aa/\CV K (.ref C) f=Ab Ae:=by
 rw[C3]at h;rcases h with h|h
 .rw[eq_of_beq h];exact⟨dc,h1⟩
 .rw[eq_of_beq h];exact⟨dc,h2⟩
theorem iB{up:Ag->Ac Ag}(h:∀ c ds,xn c ds=.bad):XT up xn (λ_=>Ae) [] [] K mg:=⟨λ_ _ z=>(nomatch z),λ_ z=>(nomatch z),λ_ z=>(nomatch z),λc _ ds z=>.inl (h c ds),λ_ _ z=>(nomatch z),λc _ ds=>h c ds⟩
structure XA (K:Fg) (c:Al) (x:Am) (i:Ap Ai):Prop where
 n:BY K Bf c=Ab (Ab (.ref x))
 y:Ls K x i=Aa
 dc:Mp K x=Aa
 ft:CV K (.ref x) "triple" = Ab Ae
 fp:CV K (.ref x) "points" = Ab Ae
 ok:XcOk K x
structure XR (K:Fg) (mg:Al->Ap Ai) (xn:Ag->Ac D->R Ex) (p:Ag×Am):Prop where
 ok:XcOk K p.2
 nf:∀ f:Al,(f==("triple" : Al)||f==("points" : Al))=Aa->Mp K p.2=Aa/\CV K (.ref p.2) f=Ab Ae
 md:∀ ds,xn p.1 ds=.bad\/(xn p.1 ds=.ok ⟨p.1,[]⟩/\Ls K p.2 Ae=Aa)\/Bz
theorem XA.row{c:Al}{x:Am}(a:XA K c x Ae)(h:∀ ds,xn k ds=.bad\/xn k ds=.ok ⟨k,[]⟩):XR K mg xn (k,x):=⟨a.ok,ax a.dc a.ft a.fp,b8 h a.y⟩
def Mm(K:Fg):Sp:=λvs H Q _=>∃(a:Am)(ns:Ac Ad),vs=[.ref a]/\ns.length<=63/\SqL K H a (ns.map V.int)/\∀ v H',v=V.bl Aa->Q v H'
theorem law_fn{f:Am}{F:Ac D->R D}(G:FnOk P w K mg base CX k f fd ps (spD K CL 1 Af F))(h:∀ ns:Ac Ad,F [.lst (ns.map .int)]=.ok (.bl Aa)):FnOk P w K mg base CX k f fd ps (Mm K):=G.imp λvs H Q E ⟨a,ns,e,hl,hS,q⟩=>by
 subst e;have rs:∀ l:Ac Ad,Reps K CL H A0 (l.map V.int) (l.map D.int):=λl=>by
  induction l with
  |nil=>trivial
  |cons x l ih=>exact⟨rfl,ih⟩
 refine⟨[.lst (ns.map .int)],A0,rfl,λ_ z=>z.elim,⟨⟨a,_,rfl,.inl (λz=>z),hS,rs ns⟩,trivial⟩,?_⟩
 rw[h ns];exact λv H' _ r=>q v H' r.1
theorem mR{f:Am}{F:Ac D->R D}(G:FnOk P w K mg base CX k f fd ps (spD K CL 1 Af F))(h:∀ ns:Ac Ad,ns.length<=63->F [.lst (ns.map .int)]=.ok (.bl Aa)):FnOk P w K mg base CX k f fd ps (Mm K):=G.imp λvs H Q E ⟨a,ns,e,hl,hS,q⟩=>by
 subst e;have rs:∀ l:Ac Ad,Reps K CL H A0 (l.map V.int) (l.map D.int):=λl=>by
  induction l with
  |nil=>trivial
  |cons x l ih=>exact⟨rfl,ih⟩
 refine⟨[.lst (ns.map .int)],A0,rfl,λ_ z=>z.elim,⟨⟨a,_,rfl,.inl (λz=>z),hS,rs ns⟩,trivial⟩,?_⟩
 rw[h ns hl];exact λv H' _ r=>q v H' r.1
theorem PY{Q:α->Prop}:∀ x∈([]:Ac α),Q x:=λ_ h=>nomatch h
theorem all_cons{Q:α->Prop}{a:α}{l:Ac α}(h1:Q a)(h2:∀ x∈l,Q x):∀ x∈a::l,Q x:=List.forall_mem_cons.2 ⟨h1,h2⟩
def FnI(K:Fg)(f:Am)(n:Al)(st:Bx):Prop:=∃ fd,Fun K n n st f fd/\BY K Bf n=Ab (Ab (.ref f))
theorem fni{n:Al}{st:Bx}{f:Am}{oc:Ai}{od an:Ap Am}{osl:AY (Ap Ai)}{kV doc pm cdv ct:Ai}(a:BY K Bf n=Ab (Ab (.ref f)))(l:K.lookup f=Ab ⟨oc,od,.func (DV n n (Ke st) (HU st) (GM st) .none kV doc pm an cdv ct),osl⟩)(c:FO K cdv n=Aa)(k:Dx K (.ref f)=Aa):FnI K f n st:=⟨_,uC l c k,a⟩
def Bd(n:Al)(st:Bx)(ps:Ac Al)(us:Ac Ai):Prop:=∀(kV doc pm:Ai)(an:Ap Am)(cdv ct:Ai),LG (DV n n (Ke st) (HU st) (GM st) .none kV doc pm an cdv ct) ⟨us,[]⟩=pure (ps.zip us)
theorem Nk{n:Al}{f:Am}{st:Bx}{ps N:Ac Al}(m id:Ag)(X:K.In h)(G:h.Ns Bf mg)(A:FnI K f n st)(hl:ps.length=m%1000)(hc:Ig fuel (En 1000 m) fns bl rzs exs gls ps N st (Pg.defs id)=Aa)(hb:∀ us:Ac Ai,us.length=ps.length->Bd n st ps us):Lx K mg fns bl rzs exs gls Pg fuel (n,id,m):=by
 obtain⟨fd,F,a⟩:=A;exact⟨_,_,_,_,_,_,Jp X G a,V7 F,F.binds λkV doc pm an cdv ct us hu=>hb us hu kV doc pm an cdv ct,hl,hc⟩
theorem Oa{l:Ac α}(h:l.length=0):l=[]:=List.eq_nil_of_length_eq_zero h
theorem IH{l:Ac α}{n:Ag}(h:l.length=n+1):∃ a r,l=a::r/\r.length=n:=by
 cases l with
 |nil=>cases h
 |cons a r=>exact⟨a,r,rfl,HK h⟩
theorem Ks{n:Al}{f:Am}{st:Bx}{N:Ac Al}(m id:Ag)(X:K.In h)(G:h.Ns Bf mg)(A:FnI K f n st)(hl:1=m%1000)(hc:Ig fuel (En 1000 m) fns bl rzs exs gls [x0] N st (Pg.defs id)=Aa)(hb:∀ u0,Bd n st [x0] [u0]):Lx K mg fns bl rzs exs gls Pg fuel (n,id,m):=
 Nk (ps:=[x0]) m id X G A hl hc λus hu=>by obtain⟨u0,v0,rfl,h0⟩:=IH hu;obtain rfl:=Oa h0;exact hb u0
theorem Ea{n:Al}{f:Am}{st:Bx}{N:Ac Al}(m id:Ag)(X:K.In h)(G:h.Ns Bf mg)(A:FnI K f n st)(hl:2=m%1000)(hc:Ig fuel (En 1000 m) fns bl rzs exs gls [x0,x1] N st (Pg.defs id)=Aa)(hb:∀ u0 u1,Bd n st [x0,x1] [u0,u1]):Lx K mg fns bl rzs exs gls Pg fuel (n,id,m):=
 Nk (ps:=[x0,x1]) m id X G A hl hc λus hu=>by obtain⟨u0,v0,rfl,h0⟩:=IH hu;obtain⟨u1,v1,rfl,h1⟩:=IH h0;obtain rfl:=Oa h1;exact hb u0 u1
theorem Gm{n:Al}{f:Am}{st:Bx}{N:Ac Al}{x2:Al}(m id:Ag)(X:K.In h)(G:h.Ns Bf mg)(A:FnI K f n st)(hl:3=m%1000)(hc:Ig fuel (En 1000 m) fns bl rzs exs gls [x0,x1,x2] N st (Pg.defs id)=Aa)(hb:∀ u0 u1 u2,Bd n st [x0,x1,x2] [u0,u1,u2]):Lx K mg fns bl rzs exs gls Pg fuel (n,id,m):=
 Nk (ps:=[x0,x1,x2]) m id X G A hl hc λus hu=>by obtain⟨u0,v0,rfl,h0⟩:=IH hu;obtain⟨u1,v1,rfl,h1⟩:=IH h0;obtain⟨u2,v2,rfl,h2⟩:=IH h1;obtain rfl:=Oa h2;exact hb u0 u1 u2
theorem RJ{n:Al}{f:Am}{st:Bx}{N:Ac Al}{x2 x3:Al}(m id:Ag)(X:K.In h)(G:h.Ns Bf mg)(A:FnI K f n st)(hl:4=m%1000)(hc:Ig fuel (En 1000 m) fns bl rzs exs gls [x0,x1,x2,x3] N st (Pg.defs id)=Aa)(hb:∀ u0 u1 u2 u3,Bd n st [x0,x1,x2,x3] [u0,u1,u2,u3]):Lx K mg fns bl rzs exs gls Pg fuel (n,id,m):=
 Nk (ps:=[x0,x1,x2,x3]) m id X G A hl hc λus hu=>by obtain⟨u0,v0,rfl,h0⟩:=IH hu;obtain⟨u1,v1,rfl,h1⟩:=IH h0;obtain⟨u2,v2,rfl,h2⟩:=IH h1;obtain⟨u3,v3,rfl,h3⟩:=IH h2;obtain rfl:=Oa h3;exact hb u0 u1 u2 u3
end
end Ov
namespace OvC
open PySem Ov
variable{p t k y v m at_ N w:Ad}{xs ns:Ac Ad}{n i j:Ag}{Y:Gam}{s3 s4 s5:Sl}{U:Rho}{T d PP:D}{α:Type}{M:Ac D}
noncomputable def O6:Df:=⟨4,Af,(.cons (.ret (.call 1 (.cons (.var 0) (.cons (.bin .Add (.bin .Sub (.bin .Mult (.idx (.var 1) (.int 0)) (.bin .Sub (.bin .Mult (.idx (.var 2) (.int 1)) (.idx (.var 3) (.int 2))) (.bin .Mult (.idx (.var 2) (.int 2)) (.idx (.var 3) (.int 1))))) (.bin .Mult (.idx (.var 1) (.int 1)) (.bin .Sub (.bin .Mult (.idx (.var 2) (.int 0)) (.idx (.var 3) (.int 2))) (.bin .Mult (.idx (.var 2) (.int 2)) (.idx (.var 3) (.int 0)))))) (.bin .Mult (.idx (.var 1) (.int 2)) (.bin .Sub (.bin .Mult (.idx (.var 2) (.int 0)) (.idx (.var 3) (.int 1))) (.bin .Mult (.idx (.var 2) (.int 1)) (.idx (.var 3) (.int 0)))))) .nil)))) .nil)⟩
noncomputable abbrev tr(a b c:Ad):D:=.tup [.int a,.int b,.int c]
noncomputable def det(a0 a1 a2 b0 b1 b2 c0 c1 c2:Ad):Ad:=a0*(b1*c2-b2*c1)-a1*(b0*c2-b2*c0)+a2*(b0*c1-b1*c0)
def Sm(x:Ad):Prop:=0<=x/\x<11
theorem Sm.of(h:P4 p)(x:Ad):Sm (x%p):=⟨AK _ (by have:=h.pos;omega),by have:=AG x h.pos;have:=h.hi;omega⟩
theorem Sq{body:D->Rho->O}(I:Rho->Prop)(g:Ad->Aj):∀(L:Ac Ad),(∀ t∈L,∀ U,I U->(g t=Aa/\body (.int t) U=.ret (.int t) Af)\/(g t=Af/\∃ U',body (.int t) U=.next U'/\I U'))->∀ U,I U->(∃ t∈L,g t=Aa/\C8 body (L.map D.int) U=.ret (.int t) Af)\/((∀ t∈L,g t=Af)/\∃ U',C8 body (L.map D.int) U=.next U'/\I U')
 |[],_,U,i=>.inr ⟨(λ_ h=>nomatch h),U,rfl,i⟩
 |m::L,h,U,i=>by
  rcases h m (Az ..) U i with ⟨e1,e2⟩|⟨e1,U',e2,i'⟩
  .refine .inl ⟨m,Az ..,e1,?_⟩;show (body (.int m) U).turn _=_;rw[e2];rfl
  .rcases Sq I g L (λm' h'=>h m' (Au _ h')) U' i' with ⟨t,ht,a,b⟩|⟨a,r,b,c⟩
   .refine .inl ⟨t,Au _ ht,a,?_⟩;show (body (.int m) U).turn _=_;rw[e2];exact b
   .refine .inr ⟨λt ht=>?_,r,?_,c⟩
    .rcases At.mp ht with rfl|ht
     .exact e1
     .exact a t ht
    .show (body (.int m) U).turn _=_;rw[e2];exact b
noncomputable def KG:Ss:=(.cons (.ife (.cmp .Eq (.call 1 (.cons (.var 0) (.cons (.bin .Mult (.var 1) (.var 2)) .nil))) (.int 1)) (.cons (.ret (.var 2)) .nil) .nil) .nil)
noncomputable def Mw:Df:=⟨3,Af,(.cons (.fors 2 (.rng2 (.int 1) (.var 0)) KG) (.cons (.rais 2 (.cons (.str (AN "a number with the rest 0 is not turned over")) .nil)) .nil))⟩
noncomputable def GO(p:Ad):Ac Ad:=(A4 (p-1).toNat).map fun(k:Ag)=>1+(k:Ad)
theorem KR:t∈GO p↔1<=t/\t<p:=by
 unfold GO;rw[List.mem_map];constructor
 .rintro⟨k,hk,rfl⟩;have:=A3.mp hk;omega
 .rintro⟨h1,h2⟩;exact⟨(t-1).toNat,A3.mpr (by omega),by omega⟩
theorem Tw(h:P4 p):CP 1 p=.ok ((GO p).map D.int):=by
 rcases h with rfl|rfl|rfl|rfl<;>rfl
theorem mU:∀ p:Fin 12,(p.val=3\/p.val=5\/p.val=7\/p.val=11)->∀ r:Fin 12,r.val<p.val->r.val≠0->∃ t:Fin 12,1<=t.val/\t.val<p.val/\r.val*t.val%p.val=1:=by decide+kernel
theorem GN{n:Ad}(h:P4 p)(hn:n%p≠0):∃ t,1<=t/\t<p/\n*t%p=1:=by
 have p0:0<p/\p<12:=by rcases h with rfl|rfl|rfl|rfl<;>decide
 obtain⟨q,rfl⟩:∃ q:Ag,p=q:=⟨p.toNat,by omega⟩
 have h0:=AK n (b:=(q:Ad)) (by omega)
 have h1:=AG n p0.1;obtain⟨r,hr⟩:∃ r:Ag,n%(q:Ad)=r:=⟨(n%(q:Ad)).toNat,by omega⟩
 obtain⟨t,t1,t2,t3⟩:=mU ⟨q,by omega⟩ (by rcases h with e|e|e|e<;>simp<;>omega) ⟨r,by omega⟩ (by show r<q;omega) (by show r≠0;omega)
 refine⟨(t.val:Ad),by omega,by show (t.val:Ad)<q;exact Int.ofNat_lt.mpr t2,?_⟩
 have e:((r*t.val%q:Ag):Ad)=1:=by rw[show r*t.val%q=1 from t3];rfl
 rw[<-e,Int.natCast_emod,Int.natCast_mul,<-hr];exact(Bg n _ _).trans (by rw[Bg (n%(q:Ad)) (t.val:Ad) (q:Ad),AQ n (Bs _)])
def DX(p n t:Ad):Prop:=1<=t/\t<p/\n*t%p=1
theorem Tf{n u:Ad}(h1:DX p n t)(h2:DX p n u):t=u:=by
 have hp:1<p:=by have:=h1.1;have:=h1.2.1;omega
 have e:t%p=u%p:=by
  have a:t%p=t*(n*u)%p:=by rw[Bg,h2.2.2,DB,AQ _ (Bs p)]
  have b:u%p=(n*t)*u%p:=by rw[Bg (n*t) u p,h1.2.2,CK,AQ _ (Bs p)]
  rw[a,b]
  congr 1
  rw[<-F7,BK t n]
 rw[AD (by have:=h1.1;omega) h1.2.1,AD (by have:=h2.1;omega) h2.2.1]at e
 exact e
theorem By{c x:Ad}(hp:P4 p)(hc:c%p≠0)(hx:x%p≠0):c*x%p≠0:=λz=>by
 obtain⟨t,_,_,e⟩:=GN hp hc;refine hx ?_;have e1:x%p=(c*t)*x%p:=by rw[Bg (c*t) x p,e,CK,AQ _ (Bs p)]
 rw[e1,show c*t*x=t*(c*x) by rw[BK c t,F7],Bg,z,Cw,Bt]
noncomputable def AS(p:Ad):Ac Ad->Ap Ad
 |[]=>Ae
 |x::xs=>if x%p=0 then AS p xs else Ab (x%p)
theorem Jb{p:Ad}:∀{xs:Ac Ad},AS p xs=Ae↔∀ x∈xs,x%p=0
 |[]=>by simp[AS]
 |x::xs=>by
  unfold AS;by_cases h:x%p=0
  .rw[AI h,Jb (xs:=xs)];simp[h]
  .rw[AV h];simp[h]
theorem Ir{p l:Ad}(hp:0<p):∀{xs:Ac Ad},AS p xs=Ab l->l%p≠0/\0<l/\l<p
 |[],h=>by cases h
 |x::xs,h=>by
  unfold AS at h;by_cases hx:x%p=0
  .rw[AI hx]at h;exact Ir hp h
  .rw[AV hx]at h;cases h;have h0:=AK x (b:=p) (by omega)
   have h1:=AG x hp;exact⟨by rw[AQ _ (Bs p)];exact hx,by omega,h1⟩
theorem JG{p c:Ad}(hp:P4 p)(hc:c%p≠0){f:Ad->Ad}(hf:∀ x,f x%p=c*x%p):∀ xs:Ac Ad,AS p (xs.map f)=(AS p xs).map λl=>c*l%p
 |[]=>rfl
 |x::xs=>by
  rw[BP];unfold AS;rw[hf x];by_cases hx:x%p=0
  .rw[AI hx,AI (by rw[Bg,hx,Cw,Bt]),JG hp hc hf xs]
  .rw[AV hx,AV (By hp hc hx),D5]
   congr 1
   rw[Bg c (x%p),AQ _ (Bs p),<-Bg]
noncomputable def ds(xs:Ac Ad):Ac D:=xs.map D.int
noncomputable def Dm(b:Aj)(xs:Ac Ad):D:=if b=Aa then .tup (ds xs) else .lst (ds xs)
theorem OY(b xs):CC (Dm b xs)=.ok (ds xs):=by unfold Dm;cases b<;>rfl
theorem J4{g:D->R Aj}{f:D->R D}{φ:Ad->Ad}:∀(xs:Ac Ad),(∀ x∈xs,g (.int x)=.ok Aa/\f (.int x)=.ok (.int (φ x)))->BQ g f (ds xs)=.ok (ds (xs.map φ))
 |[],_=>rfl
 |x::xs,h=>by
  obtain⟨h1,h2⟩:=h x (Az ..);show (g (.int x)).bind _=_;rw[h1,R.bind_ok,AI rfl,h2,R.bind_ok];show (BQ g f (ds xs)).bind _=_;rw[J4 xs λy hy=>h y (Au _ hy)]
  rfl
noncomputable def Cu:E:=(.bl Aa)
noncomputable def OK:E:=(.call 1 (.cons (.var 0) (.cons (.var 5) .nil)))
noncomputable def OJ:E:=(.call 1 (.cons (.var 0) (.cons (.bin .Mult (.var 4) (.var 6)) .nil)))
noncomputable def HR:Ss:=(.cons (.ife (.cmp .NotEq (.var 3) (.int 0)) (.cons (.asg 4 Af (.call 9 (.cons (.var 0) (.cons (.var 3) .nil)))) (.cons (.ret (.bi .tuple (.cons (.comp OJ 6 (.e (.var 2)) Cu) .nil))) .nil)) .nil) .nil)
noncomputable def MG:Df:=⟨7,Af,(.cons (.asg 2 Af (.comp OK 5 (.e (.var 1)) Cu)) (.cons (.fors 3 (.e (.var 2)) HR) (.cons (.rais 3 (.cons (.str (AN "all the numbers have the rest 0")) .nil)) .nil)))⟩
noncomputable def fmI(p t:Ad)(xs:Ac Ad):Ac Ad:=xs.map λx=>t*(x%p)%p
section
variable{Y:Gam}{p:Ad}{xs:Ac Ad}{b:Aj}
end
theorem ML{g:D->R Aj}{f:D->R D}{q:Ad->Aj}:∀(xs:Ac Ad),(∀ x∈xs,g (.int x)=.ok (q x)/\f (.int x)=.ok (.int x))->BQ g f (ds xs)=.ok (ds (xs.filter q))
 |[],_=>rfl
 |x::xs,h=>by
  obtain⟨h1,h2⟩:=h x (Az ..);have ih:=ML xs λy hy=>h y (Au _ hy)
  show (g (.int x)).bind _=_;rw[h1,R.bind_ok];cases hq:q x with
  |true=>
   rw[AI rfl,h2,R.bind_ok,Eo,hq,AI rfl];show (BQ g f (ds xs)).bind _=_;rw[ih];rfl
  |false=>
   rw[AV (by decide),Eo,hq,AV (by decide)]
   exact ih
theorem Sd{p:Ad}(hp:0<p):∀(xs:Ac Ad),((xs.map λx=>x%p).filter λr=>decide (0<r)).head?=AS p xs
 |[]=>rfl
 |x::xs=>by
  have h0:=AK x (b:=p) (by omega)
  unfold AS;rw[BP,Eo];by_cases h:x%p=0
  .rw[AI h,AV (by simp[h]),Sd hp xs]
  .rw[AV h,AI (by simp;omega)]
   rfl
theorem ZW{p l t:Ad}(it:DX p l t):((GO p).filter λk=>decide (k*l%p=1)).head?=Ab t:=by
 have hm:t∈(GO p).filter λk=>decide (k*l%p=1):=EJ.mpr ⟨KR.mpr ⟨it.1,it.2.1⟩,by simp[BK t l,it.2.2]⟩
 cases e:(GO p).filter λk=>decide (k*l%p=1) with
 |nil=>rw[e]at hm;cases hm
 |cons u us=>
  have hu:u∈(GO p).filter λk=>decide (k*l%p=1):=by rw[e];exact Az ..
  obtain⟨h1,h2⟩:=EJ.mp hu;obtain⟨a,b⟩:=KR.mp h1;have h3:u*l%p=1:=by simpa using h2
  rw[Tf it ⟨a,b,by rw[BK];exact h3⟩]
  rfl
theorem Pe{l:Ad}(h:xs.head?=Ab l):Ds (ds xs) 0=.ok (.int l):=by
 cases xs with
 |nil=>cases h
 |cons x xs=>cases h;exact Pq (by omega) rfl
theorem Vc:∀ xs:Ac Ad,eqDs (ds xs) (ds xs)=Aa
 |[]=>rfl
 |x::xs=>by
  show (eqD (.int x) (.int x)&&eqDs (ds xs) (ds xs))=Aa;rw[Vc xs];simp
theorem Ul:∀ xs:Ac Ad,Gj (xs.map λ_=>D.bl Aa)=.ok Aa
 |[]=>rfl
 |x::xs=>by
  rw[BP,OZ,Ul xs];rfl
theorem U_3{g:D->R Aj}{f:D->R D}:∀(xs:Ac Ad),(∀ x∈xs,g (.int x)=.ok Aa/\f (.int x)=.ok (.bl Aa))->BQ g f (ds xs)=.ok (xs.map λ_=>D.bl Aa)
 |[],_=>rfl
 |x::xs,h=>by
  obtain⟨h1,h2⟩:=h x (Az ..);show (g (.int x)).bind _=_;rw[h1,R.bind_ok,AI rfl,h2,R.bind_ok];show (BQ g f (ds xs)).bind _=_;rw[U_3 xs λy hy=>h y (Au _ hy)]
  rfl
noncomputable abbrev own(xs:Ac Ad):Sl:=Ab (.lst (ds xs),Aa)
section
variable{Y:Gam}{ns:Ac Ad}{a1 a2 a4 a6 a7 a8 a9 b0 b1 b2 b3 b4:Sl}{p:Ad}
end
theorem cK{p c l t:Ad}(hp:P4 p)(hc:c%p≠0)(hl:l%p≠0)(it:DX p l t){f:Ad->Ad}(hf:∀ x,f x%p=c*x%p)(xs:Ac Ad):∃ u,DX p (c*l%p) u/\fmI p u (xs.map f)=fmI p t xs:=by
 have h1:(c*l%p)%p≠0:=by rw[AQ _ (Bs p)];exact By hp hc hl
 obtain⟨u,u1,u2,u3⟩:=GN hp h1;refine⟨u,⟨u1,u2,u3⟩,?_⟩;unfold fmI;rw[DC];refine DP λx _=>?_
 show u*(f x%p)%p=t*(x%p)%p;have u4:c*l*u%p=1:=by rw[<-u3,Bg (c*l%p) u p,AQ _ (Bs p),<-Bg]
 have e1:u*(f x%p)%p=u*(c*x)%p:=by rw[hf,Bg u (c*x%p) p,AQ _ (Bs p),<-Bg]
 have e2:t*(x%p)%p=t*x%p:=by rw[Bg t (x%p) p,AQ _ (Bs p),<-Bg]
 have e3:u*(c*x)%p=(l*t)*(u*(c*x))%p:=by rw[Bg (l*t) _ p,it.2.2,CK,AQ _ (Bs p)]
 have e4:t*x%p=(c*l*u)*(t*x)%p:=by rw[Bg (c*l*u) _ p,u4,CK,AQ _ (Bs p)]
 rw[e1,e2,e3,e4]
 congr 1
 grind
section
variable{Y:Gam}{ns:Ac Ad}{a1 a4 a6 a7 a8 a9 b2 b3 b4:Sl}{p m:Ad}{xs:Ac Ad}
end
def Cg(p x y:Ad):Prop:=x%p=y%p
section
variable{p a b c d:Ad}
theorem Cg.rfl:Cg p a a:=Eq.refl _
theorem Cg.of(h:a=b):Cg p a b:=by unfold Cg;rw[h]
theorem Cg.trans{a b c:Ad}(h:Cg p a b)(g:Cg p b c):Cg p a c:=Eq.trans h g
theorem Cg.symm(h:Cg p a b):Cg p b a:=Ms h
theorem Cg.add(h:Cg p a b)(g:Cg p c d):Cg p (a+c) (b+d):=by unfold Cg at *;rw[Ws,h,g,<-Ws]
theorem Cg.sub(h:Cg p a b)(g:Cg p c d):Cg p (a-c) (b-d):=by unfold Cg at *;rw[Ww,h,g,<-Ww]
theorem Cg.mul(h:Cg p a b)(g:Cg p c d):Cg p (a*c) (b*d):=by unfold Cg at *;rw[Bg,h,g,<-Bg]
theorem Cg.md(h:a=b%p):Cg p a b:=by unfold Cg;rw[h,AQ _ (Bs p)]
end
theorem Jf{p a0 a1 a2 b0 b1 b2 c0 c1 c2 x0 x1 x2 y0 y1 y2 z0 z1 z2:Ad}(h0:Cg p a0 x0)(h1:Cg p a1 x1)(h2:Cg p a2 x2)(h3:Cg p b0 y0)(h4:Cg p b1 y1)(h5:Cg p b2 y2)(h6:Cg p c0 z0)(h7:Cg p c1 z1)(h8:Cg p c2 z2):Cg p (a0*(b1*c2-b2*c1)-a1*(b0*c2-b2*c0)+a2*(b0*c1-b1*c0)) (x0*(y1*z2-y2*z1)-x1*(y0*z2-y2*z0)+x2*(y0*z1-y1*z0)):=
 ((h0.mul ((h4.mul h8).sub (h5.mul h7))).sub (h1.mul ((h3.mul h8).sub (h5.mul h6)))).add (h2.mul ((h3.mul h7).sub (h4.mul h6)))
theorem P4.m1(h:P4 p):(-1:Ad)%p≠0:=by rcases h with rfl|rfl|rfl|rfl<;>decide
theorem P4.o1(h:P4 p):(1:Ad)%p≠0:=by rcases h with rfl|rfl|rfl|rfl<;>decide
abbrev R3:=Ad×Ad×Ad
variable{a x r g f0 f1 f2 f3:R3}{L pts:Ac R3}
noncomputable def DY(a:R3):D:=.lst [.int a.1,.int a.2.1,.int a.2.2]
noncomputable def Ak(a b c:R3):Ad:=det a.1 a.2.1 a.2.2 b.1 b.2.1 b.2.2 c.1 c.2.1 c.2.2
def In3(p:Ad)(a:R3):Prop:=(0<=a.1/\a.1<p)/\(0<=a.2.1/\a.2.1<p)/\(0<=a.2.2/\a.2.2<p)
structure GoodR (p:Ad) (a b c:R3):Prop where
 p4:P4 p
 ia:In3 p a
 ib:In3 p b
 ic:In3 p c
 nz:Ak a b c%p≠0
theorem GoodR.of{a b c a' b' c':R3}(h:GoodR p a b c)(hk:k%p≠0)(e:Cg p (Ak a' b' c') (k*Ak a b c))(hin:In3 p a'/\In3 p b'/\In3 p c'):GoodR p a' b' c':=⟨h.p4,hin.1,hin.2.1,hin.2.2,by rw[show Ak a' b' c'%p=_ from e];exact By h.p4 hk h.nz⟩
noncomputable def Rg(t:Ad)(a:R3):R3:=(a.1*t,a.2.1*t,a.2.2*t)
noncomputable def G5(t:Ad)(a b:R3):R3:=(a.1+t*b.1,a.2.1+t*b.2.1,a.2.2+t*b.2.2)
noncomputable def mdR(p:Ad)(a:R3):R3:=(a.1%p,a.2.1%p,a.2.2%p)
noncomputable def scR(p t:Ad)(a:R3):R3:=mdR p (Rg t a)
noncomputable def adR(p t:Ad)(a b:R3):R3:=mdR p (G5 t a b)
theorem NC(h:0<p)(a:R3):In3 p (mdR p a):=⟨⟨AK _ (by omega),AG _ h⟩,⟨AK _ (by omega),AG _ h⟩,⟨AK _ (by omega),AG _ h⟩⟩
theorem yR(h:0<p)(t:Ad)(a:R3):In3 p (scR p t a):=NC h _
theorem Lj(h:0<p)(t:Ad)(a b:R3):In3 p (adR p t a b):=NC h _
theorem YN(p t:Ad)(a b c:R3):Cg p (Ak (scR p t a) b c) (t*Ak a b c):=by
 refine Cg.trans (b:=Ak (Rg t a) b c) ?_ (Cg.of (by unfold Ak det Rg;grind))
 unfold Ak det;exact Jf (Cg.md (by rfl)) (Cg.md (by rfl)) (Cg.md (by rfl)) Cg.rfl Cg.rfl Cg.rfl Cg.rfl Cg.rfl Cg.rfl
theorem br(p t:Ad)(a b c:R3):Cg p (Ak (adR p t a b) b c) (1*Ak a b c):=by
 refine Cg.trans (b:=Ak (G5 t a b) b c) ?_ (Cg.of (by unfold Ak det G5;grind))
 unfold Ak det;exact Jf (Cg.md (by rfl)) (Cg.md (by rfl)) (Cg.md (by rfl)) Cg.rfl Cg.rfl Cg.rfl Cg.rfl Cg.rfl Cg.rfl
theorem bq(p t:Ad)(a b c:R3):Cg p (Ak (adR p t a c) b c) (1*Ak a b c):=by
 refine Cg.trans (b:=Ak (G5 t a c) b c) ?_ (Cg.of (by unfold Ak det G5;grind))
 unfold Ak det;exact Jf (Cg.md (by rfl)) (Cg.md (by rfl)) (Cg.md (by rfl)) Cg.rfl Cg.rfl Cg.rfl Cg.rfl Cg.rfl Cg.rfl
theorem bp(p t:Ad)(a b c:R3):Cg p (Ak a (adR p t b a) c) (1*Ak a b c):=by
 refine Cg.trans (b:=Ak a (G5 t b a) c) ?_ (Cg.of (by unfold Ak det G5;grind))
 unfold Ak det;exact Jf Cg.rfl Cg.rfl Cg.rfl (Cg.md (by rfl)) (Cg.md (by rfl)) (Cg.md (by rfl)) Cg.rfl Cg.rfl Cg.rfl
theorem bo(p t:Ad)(a b c:R3):Cg p (Ak a (adR p t b c) c) (1*Ak a b c):=by
 refine Cg.trans (b:=Ak a (G5 t b c) c) ?_ (Cg.of (by unfold Ak det G5;grind))
 unfold Ak det;exact Jf Cg.rfl Cg.rfl Cg.rfl (Cg.md (by rfl)) (Cg.md (by rfl)) (Cg.md (by rfl)) Cg.rfl Cg.rfl Cg.rfl
theorem bn(p t:Ad)(a b c:R3):Cg p (Ak a b (adR p t c a)) (1*Ak a b c):=by
 refine Cg.trans (b:=Ak a b (G5 t c a)) ?_ (Cg.of (by unfold Ak det G5;grind))
 unfold Ak det;exact Jf Cg.rfl Cg.rfl Cg.rfl Cg.rfl Cg.rfl Cg.rfl (Cg.md (by rfl)) (Cg.md (by rfl)) (Cg.md (by rfl))
theorem bj(p t:Ad)(a b c:R3):Cg p (Ak a b (adR p t c b)) (1*Ak a b c):=by
 refine Cg.trans (b:=Ak a b (G5 t c b)) ?_ (Cg.of (by unfold Ak det G5;grind))
 unfold Ak det;exact Jf Cg.rfl Cg.rfl Cg.rfl Cg.rfl Cg.rfl Cg.rfl (Cg.md (by rfl)) (Cg.md (by rfl)) (Cg.md (by rfl))/-! ### draws -/
theorem lF(h0:0<=k)(h1:k<ns.length):Ds (ns.map D.int) k=.ok (.int (ns.getD k.toNat 0)):=Pq h0 (by
 have:k.toNat<ns.length:=by omega
 simp[this])
noncomputable abbrev ownR(a b c:R3):Sl:=Ab (.lst [DY a,DY b,DY c],Aa)
section
variable{Y:Gam}{ns:Ac Ad}{at_ many s5 s0 s1 s2:Sl}{p t m:Ad}{a b c:R3}
end
section
variable{Y:Gam}{ns:Ac Ad}{many s5 s6 s7 s8 s9 s0 s1 s2:Sl}{p:Ad}{a b c:R3}
end
noncomputable def Fd(a b c:R3):D:=.lst [DY a,DY b,DY c]
noncomputable def Ol:E:=(.bin .Mod (.var 5) (.var 0))
noncomputable def Ox:E:=(.cmp .Gt (.var 6) (.int 0))
noncomputable def OA:E:=(.var 6)
noncomputable def Ow:E:=(.cmp .Eq (.bin .Mod (.bin .Mult (.var 7) (.var 3)) (.var 0)) (.int 1))
noncomputable def Oz:E:=(.var 7)
noncomputable def Oy:E:=(.bin .Mod (.bin .Mult (.var 8) (.var 4)) (.var 0))
noncomputable def OM:Df:=⟨9,Af,(.cons (.asg 2 Af (.comp Ol 5 (.e (.var 1)) Cu)) (.cons (.asg 3 Af (.idx (.comp OA 6 (.e (.var 2)) Ox) (.int 0))) (.cons (.asg 4 Af (.idx (.comp Oz 7 (.rng2 (.int 1) (.var 0)) Ow) (.int 0))) (.cons (.ret (.bi .tuple (.cons (.comp Oy 8 (.e (.var 2)) Cu) .nil))) .nil))))⟩
theorem kG(Y:Gam){b:Aj}{l t:Ad}(hp:P4 p)(e:AS p xs=Ab l)(it:DX p l t):OM.run Y [.int p,Dm b xs]=.ok (.tup (ds (fmI p t xs))):=by
 have p0:=hp.pos;have ph:=hp.hi;have c1:BQ (cG Y [si p,sh (Dm b xs),Ae,Ae,Ae,Ae,Ae,Ae,Ae] 5 Cu) (cF Y [si p,sh (Dm b xs),Ae,Ae,Ae,Ae,Ae,Ae,Ae] 5 Ol) (ds xs)=.ok (ds (xs.map λx=>x%p)):=by
  refine J4 xs λx _=>⟨rfl,?_⟩
  simp[cF,Ol,p0]
 generalize hR:(xs.map λx=>x%p)=rs at c1
 have c2:BQ (cG Y [si p,sh (Dm b xs),sh (.lst (ds rs)),Ae,Ae,Ae,Ae,Ae,Ae] 6 Ox) (cF Y [si p,sh (Dm b xs),sh (.lst (ds rs)),Ae,Ae,Ae,Ae,Ae,Ae] 6 OA) (ds rs)=.ok (ds (rs.filter λr=>decide (0<r))):=by
  refine ML rs λx _=>⟨?_,?_⟩
  .simp[cG,Ox]
  .simp[cF,OA]
 have hl:=Sd p0 xs;rw[hR,e]at hl;generalize hL:(rs.filter λr=>decide (0<r))=ls at c2 hl
 have g0:=Pe hl;obtain⟨_,l0,l1⟩:=Ir p0 e;have c3:BQ (cG Y [si p,sh (Dm b xs),sh (.lst (ds rs)),si l,Ae,Ae,Ae,Ae,Ae] 7 Ow) (cF Y [si p,sh (Dm b xs),sh (.lst (ds rs)),si l,Ae,Ae,Ae,Ae,Ae] 7 Oz) (ds (GO p))=.ok (ds ((GO p).filter λk=>decide (k*l%p=1))):=by
  refine ML (GO p) λx hx=>⟨?_,?_⟩
  .obtain⟨x1,x2⟩:=KR.mp hx;have m:DW x l=Aa:=HS (by omega) (by omega)
   simp[cG,Ow,m,p0];rw[DZ];simp
  .simp[cF,Oz]
 have g1:=Pe (ZW it);have c4:BQ (cG Y [si p,sh (Dm b xs),sh (.lst (ds rs)),si l,si t,Ae,Ae,Ae,Ae] 8 Cu) (cF Y [si p,sh (Dm b xs),sh (.lst (ds rs)),si l,si t,Ae,Ae,Ae,Ae] 8 Oy) (ds rs)=.ok (ds (rs.map λr=>t*r%p)):=by
  refine J4 rs λx _=>⟨rfl,?_⟩
  have m:DW x t=Aa:=M8 (by have:=it.1;omega) (by have:=it.2.1;omega)
  simp[cF,Oy,m,p0,BK]
 have ru:CP 1 p=.ok (ds (GO p)):=Tw hp;have fe:fmI p t xs=rs.map λr=>t*r%p:=by rw[<-hR];simp[fmI,DC,Ht]
 simp[OM,Df.run,BJ,OY,c1,c2,g0,ru,c3,g1,c4,fe]
noncomputable def nine(a b c:R3):Ac Ad:=[a.1,a.2.1,a.2.2,b.1,b.2.1,b.2.2,c.1,c.2.1,c.2.2]
noncomputable def trR(a:R3):D:=.tup [.int a.1,.int a.2.1,.int a.2.2]
noncomputable def Ce(a b c:R3):D:=.tup [trR a,trR b,trR c]
noncomputable def fmR(p t:Ad)(a:R3):R3:=(t*(a.1%p)%p,t*(a.2.1%p)%p,t*(a.2.2%p)%p)
theorem UV(p t:Ad)(a b c:R3):fmI p t (nine a b c)=nine (fmR p t a) (fmR p t b) (fmR p t c):=rfl
theorem LW{a b c:R3}(h:Ak a b c%p≠0):∃ l,AS p (nine a b c)=Ab l:=by
 cases e:AS p (nine a b c) with
 |some l=>exact⟨l,rfl⟩
 |none=>
  refine absurd ?_ h;have z:=Jb.mp e;have q:∀ x∈nine a b c,Cg p x 0:=λx hx=>by
   have:=z x hx;show x%p=0%p;rw[this];simp
  have:=Jf (p:=p) (q a.1 (by simp[nine])) (q a.2.1 (by simp[nine])) (q a.2.2 (by simp[nine])) (q b.1 (by simp[nine])) (q b.2.1 (by simp[nine])) (q b.2.2 (by simp[nine])) (q c.1 (by simp[nine])) (q c.2.1 (by simp[nine])) (q c.2.2 (by simp[nine]))
  have e2:Ak a b c%p=(0*(0*0-0*0)-0*(0*0-0*0)+0*(0*0-0*0))%p:=this;rw[e2];simp
theorem YO(a b c:R3):slD (.tup (ds (nine a b c))) Ae (Ab 3)=.ok (trR a)/\slD (.tup (ds (nine a b c))) (Ab 3) (Ab 6)=.ok (trR b)/\slD (.tup (ds (nine a b c))) (Ab 6) Ae=.ok (trR c):=⟨rfl,rfl,rfl⟩
theorem fJ(a b c:R3):C1 .Add (DY a) (DY b)=.ok (.lst [.int a.1,.int a.2.1,.int a.2.2,.int b.1,.int b.2.1,.int b.2.2])/\C1 .Add (.lst [.int a.1,.int a.2.1,.int a.2.2,.int b.1,.int b.2.1,.int b.2.2]) (DY c)=.ok (.lst (ds (nine a b c))):=⟨rfl,rfl⟩
def Bd(n:Ag)(x:Ad):Prop:=x.natAbs<2 ^ n
theorem Bd.mul{m:Ag}{x:Ad}(h:Bd m x)(g:Bd n y):Bd (m+n) (x*y):=by
 unfold Bd at *;rw[Int.natAbs_mul,Nat.pow_add];exact Nat.mul_lt_mul'' h g
theorem Bd.sub{x:Ad}(h:Bd n x)(g:Bd n y):Bd (n+1) (x-y):=by
 unfold Bd at *;rw[Nat.pow_succ];omega
theorem Gg{m:Ag}{x:Ad}(h:Bd m x)(g:Bd n y)(hm:m<=2000)(hn:n<=2000):EO x y=Aa:=by
 unfold EO Bd at *;rw[Aq,Bl,Bl];exact⟨AH h (Fa (by decide) hm),AH g (Fa (by decide) hn)⟩
def B3(a:R3):Prop:=Bd 300 a.1/\Bd 300 a.2.1/\Bd 300 a.2.2
noncomputable def Ao(q:Aj)(a:R3):D:=Dm q [a.1,a.2.1,a.2.2]
theorem FG(q:Aj)(a:R3):CF (Ao q a) (.int 0)=.ok (.int a.1)/\CF (Ao q a) (.int 1)=.ok (.int a.2.1)/\CF (Ao q a) (.int 2)=.ok (.int a.2.2):=by cases q<;>exact⟨rfl,rfl,rfl⟩
def Jc(Y:Gam):Prop:=∀(p:Ad)(q:Aj)(a b c:R3),0<p->B3 a->B3 b->B3 c->Y.F 61 [.int p,Ao q a,Ao q b,Ao q c]=.ok (.int (Ak a b c%p))
theorem kD(h:Iz Y)(p:Ad)(q:Aj)(a b c:R3)(hp:0<p)(ha:B3 a)(hb:B3 b)(hc:B3 c):O6.run Y [.int p,Ao q a,Ao q b,Ao q c]=.ok (.int (Ak a b c%p)):=by
 obtain⟨a0,a1,a2⟩:=FG q a;obtain⟨b0,b1,b2⟩:=FG q b;obtain⟨c0,c1,c2⟩:=FG q c;have k:∀ {x y},Bd 300 x->Bd 300 y->EO x y=Aa:=λhx hy=>Gg hx hy (by decide) (by decide)
 have k2:∀ {x y z u v},Bd 300 x->Bd 300 y->Bd 300 z->Bd 300 u->Bd 300 v->EO x (y*z-u*v)=Aa:=λhx hy hz hu hv=>Gg hx ((hy.mul hz).sub (hu.mul hv)) (by decide) (by decide)
 simp[O6,Df.run,BJ,a0,a1,a2,b0,b1,b2,c0,c1,c2,k hb.2.1 hc.2.2,k hb.2.2 hc.2.1,k hb.1 hc.2.2,k hb.2.2 hc.1,k hb.1 hc.2.1,k hb.2.1 hc.1,k2 ha.1 hb.2.1 hc.2.2 hb.2.2 hc.2.1,k2 ha.2.1 hb.1 hc.2.2 hb.2.2 hc.1,k2 ha.2.2 hb.1 hc.2.1 hb.2.1 hc.1,h p _ hp];rfl
noncomputable def OW:Df:=⟨3,Af,(.cons (.ife (.cmp .Eq (.call 61 (.cons (.var 0) (.cons (.idx (.var 1) (.int 0)) (.cons (.idx (.var 1) (.int 1)) (.cons (.idx (.var 1) (.int 2)) .nil))))) (.int 0)) (.cons (.rais 4 (.cons (.str (AN "the measure of the rows is 0")) .nil)) .nil) .nil) (.cons (.asg 2 Af (.call 17 (.cons (.var 0) (.cons (.bin .Add (.bin .Add (.bi .list (.cons (.idx (.var 1) (.int 0)) .nil)) (.bi .list (.cons (.idx (.var 1) (.int 1)) .nil))) (.bi .list (.cons (.idx (.var 1) (.int 2)) .nil))) .nil)))) (.cons (.ret (.tup (.cons (.sl (.var 2) .non (.int 3)) (.cons (.sl (.var 2) (.int 3) (.int 6)) (.cons (.sl (.var 2) (.int 6) .non) .nil))))) .nil)))⟩
theorem uS(q:Aj)(a:R3):biD .list [Ao q a]=.ok (DY a):=by cases q<;>rfl
section
variable{Y:Gam}{ns:Ac Ad}{p t:Ad}{a b c r:R3}{made s6 s7:Sl}
end
theorem KI{p:Ad}:∀{xs ys:Ac Ad},xs.map (λx=>x%p)=ys.map (λx=>x%p)->AS p xs=AS p ys
 |[],[],_=>rfl
 |x::xs,y::ys,h=>by
  rw[BP,BP,Ih]at h;unfold AS;rw[h.1,KI h.2]
 |[],_::_,h=>by simp at h
 |_::_,[],h=>by simp at h
theorem Pt{ys:Ac Ad}(h:xs.map (λx=>x%p)=ys.map (λx=>x%p)):fmI p t xs=fmI p t ys:=by
 have e:∀ zs:Ac Ad,fmI p t zs=(zs.map λx=>x%p).map λr=>t*r%p:=λzs=>by simp[fmI,DC,Ht]
 rw[e,e,h]
theorem dJ{a b c a' b' c':R3}(h:nine a b c=nine a' b' c'):a=a'/\b=b'/\c=c':=by
 unfold nine at h;simp only[Ih,Jl]at h;obtain⟨h1,h2,h3,h4,h5,h6,h7,h8,h9⟩:=h;exact⟨Bo h1 (Bo h2 h3),Bo h4 (Bo h5 h6),Bo h7 (Bo h8 h9)⟩
theorem FZ(hp:0<p)(t:Ad)(a:R3):In3 p (fmR p t a):=⟨⟨AK _ (by omega),AG _ hp⟩,⟨AK _ (by omega),AG _ hp⟩,⟨AK _ (by omega),AG _ hp⟩⟩
section
variable{Y:Gam}{ns:Ac Ad}{p m:Ad}{a b c:R3}{fa fb fc:R3}{q:Aj}{s9 s0 s1 s2:Sl}
end
def O9(Y:Gam):Prop:=∀ p n:Ad,P4 p->n%p≠0->∃ t,1<=t/\t<p/\n*t%p=1/\Y.F 9 [.int p,.int n]=.ok (.int t)
def Nf(Y:Gam):Prop:=∀(p:Ad)(b:Aj)(xs:Ac Ad)(l t:Ad),P4 p->AS p xs=Ab l->DX p l t->Y.F 17 [.int p,Dm b xs]=.ok (.tup (ds (fmI p t xs)))
theorem aY(hr:Iz Y)(p n:Ad)(hp:P4 p)(z:n%p≠0):∃ t,1<=t/\t<p/\n*t%p=1/\Mw.run Y [.int p,.int n]=.ok (.int t):=by
 have p0:=hp.pos;have ph:=hp.hi;have body:∀ t∈GO p,∀ U,(∃ s,U=[si p,si n,s])->(decide (n*t%p=1)=Aa/\BH Y 2 KG (.int t) U=.ret (.int t) Af)\/(decide (n*t%p=1)=Af/\∃ U',BH Y 2 KG (.int t) U=.next U'/\∃ s,U'=[si p,si n,s]):=by
  rintro t ht U ⟨s,rfl⟩;obtain⟨t1,t2⟩:=KR.mp ht;have m:DW n t=Aa:=M8 (by omega) (by omega)
  by_cases e:n*t%p=1
  .exact .inl ⟨by simp[e],by simp[BH,KG,hr p (n*t) p0,m,e,DL]⟩
  .exact .inr ⟨by simp[e],_,by simp[BH,KG,hr p (n*t) p0,m,e];rfl,_,rfl⟩
 have run:∀ o,C8 (BH Y 2 KG) ((GO p).map D.int) [si p,si n,Ae]=o->Mw.run Y [.int p,.int n]=(F2 Y (.cons (.rais 2 (.cons (.str (AN "a number with the rest 0 is not turned over")) .nil)) .nil) o).ans Af:=by
  rintro o rfl;simp[Mw,Df.run,BJ,Tw hp]
 rcases Sq (λU=>∃ s,U=[si p,si n,s]) (λt=>decide (n*t%p=1)) (GO p) body [si p,si n,Ae] ⟨_,rfl⟩ with ⟨t,ht,a,b⟩|⟨a,r,b,s,rfl⟩
 .obtain⟨t1,t2⟩:=KR.mp ht;have a':n*t%p=1:=by simpa using a
  exact⟨t,t1,t2,a',by rw[run _ b];rfl⟩
 .obtain⟨t,t1,t2,e⟩:=GN hp z;have:=a t (KR.mpr ⟨t1,t2⟩);simp[e]at this
section
variable{Y:Gam}{p:Ad}{xs:Ac Ad}{b:Aj}
theorem TR(hr:Iz Y)(ht:O9 Y)(hp:P4 p)(rs:Ac Ad):∀(ys:Ac Ad),(∀ y∈ys,0<=y/\y<p)->∀ s3,(AS p ys=Ae->∃ s3',C8 (BH Y 3 HR) (ds ys) [si p,sh (Dm b xs),sh (.lst (ds rs)),s3,Ae,Ae,Ae]=.next [si p,sh (Dm b xs),sh (.lst (ds rs)),s3',Ae,Ae,Ae])/\(∀ l t,AS p ys=Ab l->DX p l t->C8 (BH Y 3 HR) (ds ys) [si p,sh (Dm b xs),sh (.lst (ds rs)),s3,Ae,Ae,Ae]=.ret (.tup (ds (rs.map λr=>t*r%p))) Af)
 |[],_,s3=>⟨λ_=>⟨s3,rfl⟩,(λl t h=>nomatch h)⟩
 |y::ys,hy,s3=>by
  obtain⟨y0,y1⟩:=hy y (Az ..);have ym:y%p=y:=AD y0 y1;have ih:=TR hr ht hp rs ys (λz hz=>hy z (Au _ hz)) (si y)
  have step:∀ o,BH Y 3 HR (.int y) [si p,sh (Dm b xs),sh (.lst (ds rs)),s3,Ae,Ae,Ae]=o->C8 (BH Y 3 HR) (ds (y::ys)) [si p,sh (Dm b xs),sh (.lst (ds rs)),s3,Ae,Ae,Ae]=o.turn (C8 (BH Y 3 HR) (ds ys)):=by
   rintro o rfl;rfl
  unfold AS;rw[ym];by_cases hz:y=0
  .have e:BH Y 3 HR (.int y) [si p,sh (Dm b xs),sh (.lst (ds rs)),s3,Ae,Ae,Ae]=.next [si p,sh (Dm b xs),sh (.lst (ds rs)),si y,Ae,Ae,Ae]:=by
    simp[BH,HR,hz]
   rw[AI hz,step _ e];exact ih
  .rw[AV hz];refine⟨(λz=>nomatch z),λl t e it=>?_⟩
   cases e;obtain⟨u,u1,u2,u3,u4⟩:=ht p y hp (by rw[ym];exact hz)
   have:t=u:=Tf it ⟨u1,u2,u3⟩;subst this;have p0:=hp.pos;have ph:=hp.hi;have cp:BQ (cG Y [si p,sh (Dm b xs),sh (.lst (ds rs)),si y,si t,Ae,Ae] 6 Cu) (cF Y [si p,sh (Dm b xs),sh (.lst (ds rs)),si y,si t,Ae,Ae] 6 OJ) (ds rs)=.ok (ds (rs.map λr=>t*r%p)):=by
    refine J4 rs λr _=>⟨rfl,?_⟩
    have m:DW t r=Aa:=HS (by omega) (by omega)
    simp[cF,OJ,m,hr p (t*r) p0]
   have e:BH Y 3 HR (.int y) [si p,sh (Dm b xs),sh (.lst (ds rs)),s3,Ae,Ae,Ae]=.ret (.tup (ds (rs.map λr=>t*r%p))) Af:=by
    simp[BH,HR,hz,u4,cp,DL]
   rw[step _ e];rfl
theorem kF(hr:Iz Y)(ht:O9 Y)(hp:P4 p){l t:Ad}(e:AS p xs=Ab l)(it:DX p l t):MG.run Y [.int p,Dm b xs]=.ok (.tup (ds (fmI p t xs))):=by
 have p0:=hp.pos;have cp:BQ (cG Y [si p,sh (Dm b xs),Ae,Ae,Ae,Ae,Ae] 5 Cu) (cF Y [si p,sh (Dm b xs),Ae,Ae,Ae,Ae,Ae] 5 OK) (ds xs)=.ok (ds (xs.map λx=>x%p)):=by
  refine J4 xs λx _=>⟨rfl,?_⟩
  simp[cF,OK,hr p x p0]
 have run:∀ o,C8 (BH Y 3 HR) (ds (xs.map λx=>x%p)) [si p,sh (Dm b xs),sh (.lst (ds (xs.map λx=>x%p))),Ae,Ae,Ae,Ae]=o->MG.run Y [.int p,Dm b xs]=(F2 Y (.cons (.rais 3 (.cons (.str (AN "all the numbers have the rest 0")) .nil)) .nil) o).ans Af:=by
  rintro o rfl;simp[MG,Df.run,BJ,OY,cp]
 have le:AS p (xs.map λx=>x%p)=AS p xs:=by
  have:=JG (c:=1) hp (by rcases hp with rfl|rfl|rfl|rfl<;>decide) (f:=λx=>x%p) (λx=>by rw[CK,AQ _ (Bs p)]) xs
  rw[this];cases e:AS p xs with
  |none=>rfl
  |some l=>
   obtain⟨_,l0,l1⟩:=Ir p0 e;simp[AD (Int.le_of_lt l0) l1]
 obtain⟨a,c⟩:=TR (b:=b) (xs:=xs) hr ht hp (xs.map λx=>x%p) (xs.map λx=>x%p) (λy hy=>by
  obtain⟨x,_,rfl⟩:=BL.mp hy;exact⟨AK _ (by omega),AG _ p0⟩) Ae
 rw[le]at a c;rw[run _ (c l t e it)];simp[fmI,DC,Ht]
end
noncomputable def C5(t q:Aj)(a b c:R3):D:=if t=Aa then .tup [Ao q a,Ao q b,Ao q c] else .lst [Ao q a,Ao q b,Ao q c]
theorem Q9(t q:Aj)(a b c:R3):CF (C5 t q a b c) (.int 0)=.ok (Ao q a)/\CF (C5 t q a b c) (.int 1)=.ok (Ao q b)/\CF (C5 t q a b c) (.int 2)=.ok (Ao q c):=by cases t<;>exact⟨rfl,rfl,rfl⟩
theorem Nt(q:Aj)(a:R3):CC (Ao q a)=.ok [.int a.1,.int a.2.1,.int a.2.2]:=by cases q<;>rfl
theorem RH(t q:Aj)(a b c:R3):CC (C5 t q a b c)=.ok [Ao q a,Ao q b,Ao q c]:=by cases t<;>rfl
noncomputable def Bv(a b c:R3):R3:=(a.1,b.1,c.1)
noncomputable def Bq(a b c:R3):R3:=(a.2.1,b.2.1,c.2.1)
noncomputable def Bp(a b c:R3):R3:=(a.2.2,b.2.2,c.2.2)
noncomputable def O8:Df:=⟨1,Af,(.cons (.ret (.tupI (.zip3 (.idx (.var 0) (.int 0)) (.idx (.var 0) (.int 1)) (.idx (.var 0) (.int 2))))) .nil)⟩
def Mg(Y:Gam):Prop:=∀(t q:Aj)(a b c:R3),Y.F 104 [C5 t q a b c]=.ok (C5 Aa Aa (Bv a b c) (Bq a b c) (Bp a b c))
theorem rS(Y:Gam)(t q:Aj)(a b c:R3):O8.run Y [C5 t q a b c]=.ok (C5 Aa Aa (Bv a b c) (Bq a b c) (Bp a b c)):=by
 obtain⟨r0,r1,r2⟩:=Q9 t q a b c;have z:Lk (Ao q a) (Ao q b) (Ao q c)=.ok [Ao Aa (Bv a b c),Ao Aa (Bq a b c),Ao Aa (Bp a b c)]:=by
  unfold Lk;rw[Nt,Nt,Nt];rfl
 simp[O8,Df.run,BJ,r0,r1,r2,z];rfl
noncomputable def Ay(a x:R3):Ad:=a.1*x.1+a.2.1*x.2.1+a.2.2*x.2.2
noncomputable def Mv:E:=(.call 1 (.cons (.var 0) (.cons (.bin .Add (.bin .Add (.bin .Mult (.idx (.var 3) (.int 0)) (.idx (.var 2) (.int 0))) (.bin .Mult (.idx (.var 3) (.int 1)) (.idx (.var 2) (.int 1)))) (.bin .Mult (.idx (.var 3) (.int 2)) (.idx (.var 2) (.int 2)))) .nil)))
noncomputable def O5:Df:=⟨4,Af,(.cons (.ret (.bi .tuple (.cons (.comp Mv 3 (.e (.var 1)) Cu) .nil))) .nil)⟩
def Qr(Y:Gam):Prop:=∀(p:Ad)(t q q':Aj)(a b c x:R3),0<p->B3 a->B3 b->B3 c->B3 x->Y.F 91 [.int p,C5 t q a b c,Ao q' x]=.ok (Ao Aa (Ay a x%p,Ay b x%p,Ay c x%p))
theorem rG(h:Iz Y)(p:Ad)(t q q':Aj)(a b c x:R3)(hp:0<p)(ha:B3 a)(hb:B3 b)(hc:B3 c)(hx:B3 x):O5.run Y [.int p,C5 t q a b c,Ao q' x]=.ok (Ao Aa (Ay a x%p,Ay b x%p,Ay c x%p)):=by
 obtain⟨x0,x1,x2⟩:=FG q' x;have k:∀ {u v},Bd 300 u->Bd 300 v->EO u v=Aa:=λhu hv=>Gg hu hv (by decide) (by decide)
 have key:∀ r:R3,B3 r->cF Y [si p,sh (C5 t q a b c),sh (Ao q' x),Ae] 3 Mv (Ao q r)=.ok (.int (Ay r x%p)):=λr hr=>by
  obtain⟨y0,y1,y2⟩:=FG q r;simp[cF,Mv,x0,x1,x2,y0,y1,y2,k hr.1 hx.1,k hr.2.1 hx.2.1,k hr.2.2 hx.2.2,h p _ hp];rfl
 have g:∀ r,cG Y [si p,sh (C5 t q a b c),sh (Ao q' x),Ae] 3 Cu r=.ok Aa:=λ_=>rfl
 have cp:BQ (cG Y [si p,sh (C5 t q a b c),sh (Ao q' x),Ae] 3 Cu) (cF Y [si p,sh (C5 t q a b c),sh (Ao q' x),Ae] 3 Mv) [Ao q a,Ao q b,Ao q c]=.ok [.int (Ay a x%p),.int (Ay b x%p),.int (Ay c x%p)]:=by
  simp[BQ,g,key a ha,key b hb,key c hc]
 simp[O5,Df.run,BJ,RH,cp];rfl
noncomputable def crs(a b:R3):R3:=(a.2.1*b.2.2-a.2.2*b.2.1,a.2.2*b.1-a.1*b.2.2,a.1*b.2.1-a.2.1*b.1)
theorem UZ:∀ xs ys:Ac Ad,eqDs (ds xs) (ds ys)=decide (xs=ys)
 |[],[]=>rfl
 |[],_::_=>rfl
 |_::_,[]=>rfl
 |x::xs,y::ys=>by
  show ((x==y)&&eqDs (ds xs) (ds ys))=_;rw[UZ xs ys,DZ];simp
theorem Ni(a b:R3):eqD (Ao Aa a) (Ao Aa b)=decide (a=b):=by
 show eqDs (ds [a.1,a.2.1,a.2.2]) (ds [b.1,b.2.1,b.2.2])=_;rw[UZ,DZ];simp only[Ih,Jl,Bl];exact⟨λ⟨h1,h2,h3⟩=>by obtain⟨a1,a2,a3⟩:=a;obtain⟨b1,b2,b3⟩:=b;simp at h1 h2 h3;rw[h1,h2,h3],λh=>by rw[h];exact⟨rfl,rfl,rfl⟩⟩
def UU(Y:Gam):Prop:=∀ a b:R3,B3 a->B3 b->a≠b->Y.F 23 [Ao Aa a,Ao Aa b]=.ok (Ao Aa (crs a b))
noncomputable def OH:Df:=⟨1,Af,(.cons (.ret (.tup (.cons (.call 23 (.cons (.idx (.var 0) (.int 1)) (.cons (.idx (.var 0) (.int 2)) .nil))) (.cons (.call 23 (.cons (.idx (.var 0) (.int 2)) (.cons (.idx (.var 0) (.int 0)) .nil))) (.cons (.call 23 (.cons (.idx (.var 0) (.int 0)) (.cons (.idx (.var 0) (.int 1)) .nil))) .nil))))) .nil)⟩
def UT(Y:Gam):Prop:=∀ a b c:R3,B3 a->B3 b->B3 c->a≠b->b≠c->c≠a->Y.F 98 [C5 Aa Aa a b c]=.ok (C5 Aa Aa (crs b c) (crs c a) (crs a b))
theorem kK(h:UU Y)(a b c:R3)(ha:B3 a)(hb:B3 b)(hc:B3 c)(n1:a≠b)(n2:b≠c)(n3:c≠a):OH.run Y [C5 Aa Aa a b c]=.ok (C5 Aa Aa (crs b c) (crs c a) (crs a b)):=by
 obtain⟨r0,r1,r2⟩:=Q9 Aa Aa a b c;simp[OH,Df.run,BJ,r0,r1,r2,h b c hb hc n2,h c a hc ha n3,h a b ha hb n1];rfl
def Nx(Y:Gam):Prop:=∀(p:Ad)(t q:Aj)(a b c:R3),P4 p->B3 a->B3 b->B3 c->Ak a b c%p≠0->∀ l u,AS p (nine a b c)=Ab l->DX p l u->Y.F 78 [.int p,C5 t q a b c]=.ok (Ce (fmR p u a) (fmR p u b) (fmR p u c))
theorem tI(hm:Jc Y)(hf:Nf Y)(p:Ad)(t q:Aj)(a b c:R3)(hp:P4 p)(ha:B3 a)(hb:B3 b)(hc:B3 c)(z:Ak a b c%p≠0)(l u:Ad)(e:AS p (nine a b c)=Ab l)(it:DX p l u):OW.run Y [.int p,C5 t q a b c]=.ok (Ce (fmR p u a) (fmR p u b) (fmR p u c)):=by
 obtain⟨r0,r1,r2⟩:=Q9 t q a b c;have m:=hm p q a b c hp.pos ha hb hc;have f:=hf p Af (nine a b c) l u hp e it;rw[UV]at f;have f':Y.F 17 [.int p,.lst (ds (nine a b c))]=.ok (.tup (ds (nine (fmR p u a) (fmR p u b) (fmR p u c)))):=f;obtain⟨x1,x2⟩:=fJ a b c;obtain⟨y1,y2,y3⟩:=YO (fmR p u a) (fmR p u b) (fmR p u c);simp[OW,Df.run,BJ,r0,r1,r2,m,z,uS,x1,x2,f',y1,y2,y3,slE];rfl
noncomputable def OD:Df:=⟨2,Af,(.cons (.ret (.call 78 (.cons (.var 0) (.cons (.call 104 (.cons (.call 98 (.cons (.var 1) .nil)) .nil)) .nil)))) .nil)⟩
noncomputable def bk0(a b c:R3):R3:=Bv (crs b c) (crs c a) (crs a b)
noncomputable def bk1(a b c:R3):R3:=Bq (crs b c) (crs c a) (crs a b)
noncomputable def bk2(a b c:R3):R3:=Bp (crs b c) (crs c a) (crs a b)
def Nz(Y:Gam):Prop:=∀(p:Ad)(a b c:R3),P4 p->In3 p a->In3 p b->In3 p c->Ak a b c%p≠0->∀ l u,AS p (nine (bk0 a b c) (bk1 a b c) (bk2 a b c))=Ab l->DX p l u->Y.F 106 [.int p,Ce a b c]=.ok (Ce (fmR p u (bk0 a b c)) (fmR p u (bk1 a b c)) (fmR p u (bk2 a b c)))
theorem JM{x:Ad}(hp:P4 p)(h0:0<=x)(h1:x<p):Bd 10 x:=by
 unfold Bd;have:=hp.hi;omega
theorem Bd.mono{m:Ag}{x:Ad}(h:Bd m x)(hm:m<=n):Bd n x:=AH h (Fa (by decide) hm)
def Bn(n:Ag)(a:R3):Prop:=Bd n a.1/\Bd n a.2.1/\Bd n a.2.2
theorem Bn.b3(h:Bn n a)(hn:n<=300):B3 a:=⟨h.1.mono hn,h.2.1.mono hn,h.2.2.mono hn⟩
theorem Cv(hp:P4 p)(h:In3 p a):Bn 10 a:=⟨JM hp h.1.1 h.1.2,JM hp h.2.1.1 h.2.1.2,JM hp h.2.2.1 h.2.2.2⟩
theorem QM{a b:R3}(ha:Bn n a)(hb:Bn n b):Bn (n+n+1) (crs a b):=
 ⟨(ha.2.1.mul hb.2.2).sub (ha.2.2.mul hb.2.1),(ha.2.2.mul hb.1).sub (ha.1.mul hb.2.2),(ha.1.mul hb.2.1).sub (ha.2.1.mul hb.1)⟩
theorem QN{a b c:R3}(ha:Bn n a)(hb:Bn n b)(hc:Bn n c):Bn n (Bv a b c)/\Bn n (Bq a b c)/\Bn n (Bp a b c):=⟨⟨ha.1,hb.1,hc.1⟩,⟨ha.2.1,hb.2.1,hc.2.1⟩,⟨ha.2.2,hb.2.2,hc.2.2⟩⟩
theorem vO{a b c:R3}(z:Ak a b c%p≠0):a≠b/\b≠c/\c≠a:=by
 refine⟨λe=>z ?_,λe=>z ?_,λe=>z ?_⟩
 .subst e;rw[show Ak a a c=0 by unfold Ak det;grind,Bt]
 .subst e;rw[show Ak a b b=0 by unfold Ak det;grind,Bt]
 .subst e;rw[show Ak c b c=0 by unfold Ak det;grind,Bt]
theorem K6(a b c:R3):Ak (bk0 a b c) (bk1 a b c) (bk2 a b c)=Ak a b c*Ak a b c:=by
 unfold Ak det bk0 bk1 bk2 Bv Bq Bp crs;grind
theorem rW(h1:UT Y)(h2:Mg Y)(h3:Nx Y)(p:Ad)(a b c:R3)(hp:P4 p)(ha:In3 p a)(hb:In3 p b)(hc:In3 p c)(z:Ak a b c%p≠0)(l u:Ad)(e:AS p (nine (bk0 a b c) (bk1 a b c) (bk2 a b c))=Ab l)(it:DX p l u):OD.run Y [.int p,Ce a b c]=.ok (Ce (fmR p u (bk0 a b c)) (fmR p u (bk1 a b c)) (fmR p u (bk2 a b c))):=by
 have ba:=Cv hp ha;have bb:=Cv hp hb;have bc:=Cv hp hc;obtain⟨n1,n2,n3⟩:=vO z;have e1:Y.F 98 [Ce a b c]=.ok (C5 Aa Aa (crs b c) (crs c a) (crs a b)):=h1 a b c (ba.b3 (by decide)) (bb.b3 (by decide)) (bc.b3 (by decide)) n1 n2 n3
 have e2:=h2 Aa Aa (crs b c) (crs c a) (crs a b);obtain⟨c0,c1,c2⟩:=QN (QM bb bc) (QM bc ba) (QM ba bb);have z2:Ak (bk0 a b c) (bk1 a b c) (bk2 a b c)%p≠0:=by rw[K6];exact By hp z z
 have e3:Y.F 78 [.int p,C5 Aa Aa (Bv (crs b c) (crs c a) (crs a b)) (Bq (crs b c) (crs c a) (crs a b)) (Bp (crs b c) (crs c a) (crs a b))]=.ok (Ce (fmR p u (bk0 a b c)) (fmR p u (bk1 a b c)) (fmR p u (bk2 a b c))):=h3 p Aa Aa _ _ _ hp (c0.b3 (by decide)) (c1.b3 (by decide)) (c2.b3 (by decide)) z2 l u e it
 simp[OD,Df.run,BJ,e1,e2,e3]
noncomputable def mlR(p:Ad)(x a b c:R3):R3:=(Ay (Bv a b c) x%p,Ay (Bq a b c) x%p,Ay (Bp a b c) x%p)
noncomputable def MI:E:=(.call 91 (.cons (.var 0) (.cons (.var 3) (.cons (.var 4) .nil))))
noncomputable def PX:Df:=⟨5,Af,(.cons (.asg 3 Af (.call 104 (.cons (.var 2) .nil))) (.cons (.ret (.call 78 (.cons (.var 0) (.cons (.comp MI 4 (.e (.var 1)) Cu) .nil)))) .nil))⟩
def P6(Y:Gam):Prop:=∀(p:Ad)(x y z a b c:R3),P4 p->In3 p x->In3 p y->In3 p z->In3 p a->In3 p b->In3 p c->Ak (mlR p x a b c) (mlR p y a b c) (mlR p z a b c)%p≠0->∀ l u,AS p (nine (mlR p x a b c) (mlR p y a b c) (mlR p z a b c))=Ab l->DX p l u ->
 Y.F 105 [.int p,Ce x y z,Ce a b c]=.ok (Ce (fmR p u (mlR p x a b c)) (fmR p u (mlR p y a b c)) (fmR p u (mlR p z a b c)))
theorem QV(hp:0<p)(x a b c:R3):In3 p (mlR p x a b c):=⟨⟨AK _ (by omega),AG _ hp⟩,⟨AK _ (by omega),AG _ hp⟩,⟨AK _ (by omega),AG _ hp⟩⟩
theorem kM(h2:Mg Y)(hs:Qr Y)(h3:Nx Y)(p:Ad)(x y z a b c:R3)(hp:P4 p)(hx:In3 p x)(hy:In3 p y)(hz:In3 p z)(ha:In3 p a)(hb:In3 p b)(hc:In3 p c)(nz:Ak (mlR p x a b c) (mlR p y a b c) (mlR p z a b c)%p≠0)(l u:Ad)(e:AS p (nine (mlR p x a b c) (mlR p y a b c) (mlR p z a b c))=Ab l)(it:DX p l u):PX.run Y [.int p,Ce x y z,Ce a b c]=.ok (Ce (fmR p u (mlR p x a b c)) (fmR p u (mlR p y a b c)) (fmR p u (mlR p z a b c))):=by
 have p0:=hp.pos;have e1:Y.F 104 [Ce a b c]=.ok (C5 Aa Aa (Bv a b c) (Bq a b c) (Bp a b c)):=h2 Aa Aa a b c;obtain⟨c0,c1,c2⟩:=QN (Cv hp ha) (Cv hp hb) (Cv hp hc);have es:∀ r:R3,In3 p r->Y.F 91 [.int p,C5 Aa Aa (Bv a b c) (Bq a b c) (Bp a b c),Ao Aa r]=.ok (Ao Aa (mlR p r a b c)):=λr hr=>hs p Aa Aa Aa _ _ _ r p0 (c0.b3 (by decide)) (c1.b3 (by decide)) (c2.b3 (by decide)) ((Cv hp hr).b3 (by decide))
 have key:∀ r:R3,In3 p r->cF Y [si p,sh (Ce x y z),sh (Ce a b c),sh (C5 Aa Aa (Bv a b c) (Bq a b c) (Bp a b c)),Ae] 4 MI (Ao Aa r)=.ok (Ao Aa (mlR p r a b c)):=λr hr=>by
  simp[cF,MI,es r hr]
 have g:∀ r,cG Y [si p,sh (Ce x y z),sh (Ce a b c),sh (C5 Aa Aa (Bv a b c) (Bq a b c) (Bp a b c)),Ae] 4 Cu r=.ok Aa:=λ_=>rfl
 have sq:CC (Ce x y z)=.ok [Ao Aa x,Ao Aa y,Ao Aa z]:=rfl;have cp:BQ (cG Y [si p,sh (Ce x y z),sh (Ce a b c),sh (C5 Aa Aa (Bv a b c) (Bq a b c) (Bp a b c)),Ae] 4 Cu) (cF Y [si p,sh (Ce x y z),sh (Ce a b c),sh (C5 Aa Aa (Bv a b c) (Bq a b c) (Bp a b c)),Ae] 4 MI) [Ao Aa x,Ao Aa y,Ao Aa z]=.ok [Ao Aa (mlR p x a b c),Ao Aa (mlR p y a b c),Ao Aa (mlR p z a b c)]:=by
  simp[BQ,g,key x hx,key y hy,key z hz]
 have e3:Y.F 78 [.int p,.lst [Ao Aa (mlR p x a b c),Ao Aa (mlR p y a b c),Ao Aa (mlR p z a b c)]]=.ok (Ce (fmR p u (mlR p x a b c)) (fmR p u (mlR p y a b c)) (fmR p u (mlR p z a b c))):=
  h3 p Af Aa _ _ _ hp ((Cv hp (QV p0 x a b c)).b3 (by decide)) ((Cv hp (QV p0 y a b c)).b3 (by decide)) ((Cv hp (QV p0 z a b c)).b3 (by decide)) nz l u e it
 simp[PX,Df.run,BJ,e1,sq,cp,e3]
noncomputable def O0:E:=(.bin .Mult (.var 0) (.var 2))
noncomputable def Pw:Df:=⟨3,Af,(.cons (.ret (.comp O0 2 (.e (.var 1)) Cu)) .nil)⟩
def fK(Y:Gam):Prop:=∀(k:Ad)(a:R3),0<=k->k<100->Y.F 110 [.int k,Ao Aa a]=.ok (Ao Af (k*a.1,k*a.2.1,k*a.2.2))
theorem dW(Y:Gam)(k:Ad)(a:R3)(h0:0<=k)(h1:k<100):Pw.run Y [.int k,Ao Aa a]=.ok (Ao Af (k*a.1,k*a.2.1,k*a.2.2)):=by
 have m:∀ x,DW k x=Aa:=λx=>HS (by omega) (by omega)
 have key:∀ x:Ad,cF Y [si k,sh (Ao Aa a),Ae] 2 O0 (.int x)=.ok (.int (k*x)):=λx=>by
  simp[cF,O0,m]
 have g:∀ x,cG Y [si k,sh (Ao Aa a),Ae] 2 Cu x=.ok Aa:=λ_=>rfl
 simp[Pw,Df.run,BJ,Nt,BQ,g,key];rfl
noncomputable def Ev(a b c d:R3):D:=.lst [Ao Aa a,Ao Aa b,Ao Aa c,Ao Aa d]
noncomputable def AO(k:Ad)(a:R3):R3:=(k*a.1,k*a.2.1,k*a.2.2)
theorem mT(a b c d:R3):CF (Ev a b c d) (.int 0)=.ok (Ao Aa a)/\CF (Ev a b c d) (.int 1)=.ok (Ao Aa b)/\CF (Ev a b c d) (.int 2)=.ok (Ao Aa c)/\CF (Ev a b c d) (.int 3)=.ok (Ao Aa d):=⟨rfl,rfl,rfl,rfl⟩
noncomputable def ON:Df:=⟨3,Af,(.cons (.asg 2 Af (.tup (.cons (.call 110 (.cons (.call 61 (.cons (.var 0) (.cons (.idx (.var 1) (.int 3)) (.cons (.idx (.var 1) (.int 1)) (.cons (.idx (.var 1) (.int 2)) .nil))))) (.cons (.idx (.var 1) (.int 0)) .nil))) (.cons (.call 110 (.cons (.call 61 (.cons (.var 0) (.cons (.idx (.var 1) (.int 0)) (.cons (.idx (.var 1) (.int 3)) (.cons (.idx (.var 1) (.int 2)) .nil))))) (.cons (.idx (.var 1) (.int 1)) .nil))) (.cons (.call 110 (.cons (.call 61 (.cons (.var 0) (.cons (.idx (.var 1) (.int 0)) (.cons (.idx (.var 1) (.int 1)) (.cons (.idx (.var 1) (.int 3)) .nil))))) (.cons (.idx (.var 1) (.int 2)) .nil))) .nil))))) (.cons (.ret (.call 78 (.cons (.var 0) (.cons (.call 104 (.cons (.var 2) .nil)) .nil)))) .nil))⟩
noncomputable def fk0(p:Ad)(a b c d:R3):Ad:=Ak d b c%p
noncomputable def fk1(p:Ad)(a b c d:R3):Ad:=Ak a d c%p
noncomputable def fk2(p:Ad)(a b c d:R3):Ad:=Ak a b d%p
noncomputable def fs0(p:Ad)(a b c d:R3):R3:=AO (fk0 p a b c d) a
noncomputable def fs1(p:Ad)(a b c d:R3):R3:=AO (fk1 p a b c d) b
noncomputable def fs2(p:Ad)(a b c d:R3):R3:=AO (fk2 p a b c d) c
noncomputable def fr0(p:Ad)(a b c d:R3):R3:=Bv (fs0 p a b c d) (fs1 p a b c d) (fs2 p a b c d)
noncomputable def fr1(p:Ad)(a b c d:R3):R3:=Bq (fs0 p a b c d) (fs1 p a b c d) (fs2 p a b c d)
noncomputable def fr2(p:Ad)(a b c d:R3):R3:=Bp (fs0 p a b c d) (fs1 p a b c d) (fs2 p a b c d)
def Ri(Y:Gam):Prop:=∀(p:Ad)(a b c d:R3),P4 p->In3 p a->In3 p b->In3 p c->In3 p d->Ak (fr0 p a b c d) (fr1 p a b c d) (fr2 p a b c d)%p≠0->∀ l u,AS p (nine (fr0 p a b c d) (fr1 p a b c d) (fr2 p a b c d))=Ab l->DX p l u ->
 Y.F 111 [.int p,Ev a b c d]=.ok (Ce (fmR p u (fr0 p a b c d)) (fmR p u (fr1 p a b c d)) (fmR p u (fr2 p a b c d)))
theorem Q7{m:Ag}(hk:Bd n k)(ha:Bn m a):Bn (n+m) (AO k a):=⟨hk.mul ha.1,hk.mul ha.2.1,hk.mul ha.2.2⟩
theorem YW(hm:Jc Y)(hs:fK Y)(h2:Mg Y)(h3:Nx Y)(p:Ad)(a b c d:R3)(hp:P4 p)(ha:In3 p a)(hb:In3 p b)(hc:In3 p c)(hd:In3 p d)(z:Ak (fr0 p a b c d) (fr1 p a b c d) (fr2 p a b c d)%p≠0)(l u:Ad)(e:AS p (nine (fr0 p a b c d) (fr1 p a b c d) (fr2 p a b c d))=Ab l)(it:DX p l u):ON.run Y [.int p,Ev a b c d]=.ok (Ce (fmR p u (fr0 p a b c d)) (fmR p u (fr1 p a b c d)) (fmR p u (fr2 p a b c d))):=by
 have p0:=hp.pos;have ph:=hp.hi;have ba:=(Cv hp ha).b3 (by decide)
 have bb:=(Cv hp hb).b3 (by decide)
 have bc:=(Cv hp hc).b3 (by decide)
 have bd:=(Cv hp hd).b3 (by decide)
 obtain⟨x0,x1,x2,x3⟩:=mT a b c d;have m0:=hm p Aa d b c p0 bd bb bc;have m1:=hm p Aa a d c p0 ba bd bc;have m2:=hm p Aa a b d p0 ba bb bd;have k0:0<=Ak d b c%p/\Ak d b c%p<p:=⟨AK _ (by omega),AG _ p0⟩
 have k1:0<=Ak a d c%p/\Ak a d c%p<p:=⟨AK _ (by omega),AG _ p0⟩
 have k2:0<=Ak a b d%p/\Ak a b d%p<p:=⟨AK _ (by omega),AG _ p0⟩
 have s0:Y.F 110 [.int (Ak d b c%p),Ao Aa a]=.ok (Ao Af (AO (Ak d b c%p) a)):=hs (Ak d b c%p) a k0.1 (by omega)
 have s1:Y.F 110 [.int (Ak a d c%p),Ao Aa b]=.ok (Ao Af (AO (Ak a d c%p) b)):=hs (Ak a d c%p) b k1.1 (by omega)
 have s2:Y.F 110 [.int (Ak a b d%p),Ao Aa c]=.ok (Ao Af (AO (Ak a b d%p) c)):=hs (Ak a b d%p) c k2.1 (by omega)
 have e2:Y.F 104 [.tup [Ao Af (AO (Ak d b c%p) a),Ao Af (AO (Ak a d c%p) b),Ao Af (AO (Ak a b d%p) c)]]=.ok (C5 Aa Aa (fr0 p a b c d) (fr1 p a b c d) (fr2 p a b c d)):=h2 Aa Af _ _ _;obtain⟨c0,c1,c2⟩:=QN (Q7 (JM hp k0.1 k0.2) (Cv hp ha)) (Q7 (JM hp k1.1 k1.2) (Cv hp hb)) (Q7 (JM hp k2.1 k2.2) (Cv hp hc));have e3:=h3 p Aa Aa (fr0 p a b c d) (fr1 p a b c d) (fr2 p a b c d) hp (c0.b3 (by decide)) (c1.b3 (by decide)) (c2.b3 (by decide)) z l u e it
 simp[ON,Df.run,BJ,x0,x1,x2,x3,m0,m1,m2,s0,s1,s2,e2,e3]
noncomputable def JE:Ss:=(.cons (.ife (.cmp .Eq (.call 61 (.cons (.var 0) (.cons (.var 3) (.cons (.idx (.var 1) (.var 4)) (.cons (.idx (.var 1) (.var 5)) .nil))))) (.int 0)) (.cons (.ret (.tup (.cons (.var 3) (.cons (.idx (.var 1) (.var 4)) (.cons (.idx (.var 1) (.var 5)) .nil))))) .nil) .nil) .nil)
noncomputable def J3:Ss:=(.cons (.fors 5 (.rng2 (.bin .Add (.var 4) (.int 1)) (.bi .len (.cons (.var 1) .nil))) JE) .nil)
noncomputable def HQ:Ss:=(.cons (.fors 4 (.rng2 (.bin .Add (.var 2) (.int 1)) (.bi .len (.cons (.var 1) .nil))) J3) .nil)
noncomputable def KH:Df:=⟨6,Af,(.cons (.forT [2,3] (.enm (.var 1)) HQ) (.cons (.ret .non) .nil))⟩
theorem eE(p:Ad)(a b c d:D){m0 m1 m2 m3:Ad}(h0:Y.F 61 [.int p,a,b,c]=.ok (.int m0))(h1:Y.F 61 [.int p,a,b,d]=.ok (.int m1))(h2:Y.F 61 [.int p,a,c,d]=.ok (.int m2))(h3:Y.F 61 [.int p,b,c,d]=.ok (.int m3))(n0:m0≠0)(n1:m1≠0)(n2:m2≠0)(n3:m3≠0):KH.run Y [.int p,.lst [a,b,c,d]]=.ok .non:=by
 have x0:Ds [a,b,c,d] 0=.ok a:=rfl;have x1:Ds [a,b,c,d] 1=.ok b:=rfl;have x2:Ds [a,b,c,d] 2=.ok c:=rfl;have x3:Ds [a,b,c,d] 3=.ok d:=rfl;have r14:CP 1 4=.ok [.int 1,.int 2,.int 3]:=rfl;have r24:CP 2 4=.ok [.int 2,.int 3]:=rfl;have r34:CP 3 4=.ok [.int 3]:=rfl;have r44:CP 4 4=.ok []:=rfl;simp[KH,Df.run,BJ,Fp,C8,BH,G1,JE,J3,HQ,Gh,x0,x1,x2,x3,r14,r24,r34,r44,h0,h1,h2,h3,n0,n1,n2,n3]
def Hs(p:Ad)(a b c d:R3):Prop:=Ak a b c%p≠0/\Ak a b d%p≠0/\Ak a c d%p≠0/\Ak b c d%p≠0
def Q2(Y:Gam):Prop:=∀(p:Ad)(a b c d:R3),P4 p->In3 p a->In3 p b->In3 p c->In3 p d->Hs p a b c d->Y.F 109 [.int p,Ev a b c d]=.ok .non
def fL(Y:Gam):Prop:=∀(p:Ad)(a b c d:R3),P4 p->In3 p a->In3 p b->In3 p c->In3 p d->Hs p a b c d->Y.F 65 [.int p,Ev a b c d]=.ok .non
theorem kH(hm:Jc Y)(p:Ad)(a b c d:R3)(hp:P4 p)(ha:In3 p a)(hb:In3 p b)(hc:In3 p c)(hd:In3 p d)(h:Hs p a b c d):KH.run Y [.int p,Ev a b c d]=.ok .non:=by
 have p0:=hp.pos;have ba:=(Cv hp ha).b3 (by decide)
 have bb:=(Cv hp hb).b3 (by decide)
 have bc:=(Cv hp hc).b3 (by decide)
 have bd:=(Cv hp hd).b3 (by decide)
 exact eE p _ _ _ _ (hm p Aa a b c p0 ba bb bc) (hm p Aa a b d p0 ba bb bd) (hm p Aa a c d p0 ba bc bd) (hm p Aa b c d p0 bb bc bd) h.1 h.2.1 h.2.2.1 h.2.2.2
noncomputable def KD:Df:=⟨3,Af,(.cons (.ife (.or (.cons (.cmp .NotEq (.bi .len (.cons (.var 1) .nil)) (.int 4)) (.cons (.cmp .NotEq (.bi .len (.cons (.var 2) .nil)) (.int 4)) .nil))) (.cons (.rais 13 (.cons (.str (AN "a frame has four points")) .nil)) .nil) .nil) (.cons (.expr (.call 109 (.cons (.var 0) (.cons (.var 1) .nil)))) (.cons (.expr (.call 109 (.cons (.var 0) (.cons (.var 2) .nil)))) (.cons (.ret (.call 105 (.cons (.var 0) (.cons (.call 111 (.cons (.var 0) (.cons (.var 2) .nil))) (.cons (.call 106 (.cons (.var 0) (.cons (.call 111 (.cons (.var 0) (.cons (.var 1) .nil))) .nil))) .nil))))) .nil))))⟩
theorem rM{a b c d a' b' c' d':R3}{M N B R:D}(e1:Y.F 109 [.int p,Ev a b c d]=.ok .non)(e2:Y.F 109 [.int p,Ev a' b' c' d']=.ok .non)(e3:Y.F 111 [.int p,Ev a' b' c' d']=.ok N)(e4:Y.F 111 [.int p,Ev a b c d]=.ok M)(e5:Y.F 106 [.int p,M]=.ok B)(e6:Y.F 105 [.int p,N,B]=.ok R):KD.run Y [.int p,Ev a b c d,Ev a' b' c' d']=.ok R:=by
 have l1:biD .len [Ev a b c d]=.ok (.int 4):=rfl;have l2:biD .len [Ev a' b' c' d']=.ok (.int 4):=rfl;simp[KD,Df.run,BJ,l1,l2,e1,e2,e3,e4,e5,e6]
def CgR(p:Ad)(x y:R3):Prop:=Cg p x.1 y.1/\Cg p x.2.1 y.2.1/\Cg p x.2.2 y.2.2
section
variable{p:Ad}{a b c a' b' c' x y z x':R3}{k l m k':Ad}
theorem CgR.rfl:CgR p a a:=⟨Cg.rfl,Cg.rfl,Cg.rfl⟩
theorem CgR.of(h:a=b):CgR p a b:=by rw[h];exact CgR.rfl
theorem CgR.trans(h:CgR p a b)(g:CgR p b c):CgR p a c:=⟨h.1.trans g.1,h.2.1.trans g.2.1,h.2.2.trans g.2.2⟩
theorem CgR.symm(h:CgR p a b):CgR p b a:=⟨h.1.symm,h.2.1.symm,h.2.2.symm⟩
theorem CgR.sc(hk:Cg p k k')(h:CgR p a b):CgR p (AO k a) (AO k' b):=⟨hk.mul h.1,hk.mul h.2.1,hk.mul h.2.2⟩
theorem CgR.md(h:a=mdR p b):CgR p a b:=by rw[h];exact⟨Cg.md _root_.rfl,Cg.md _root_.rfl,Cg.md _root_.rfl⟩
theorem Kd(ha:CgR p a a')(hb:CgR p b b')(hc:CgR p c c'):Cg p (Ak a b c) (Ak a' b' c'):=by
 unfold Ak det;exact Jf ha.1 ha.2.1 ha.2.2 hb.1 hb.2.1 hb.2.2 hc.1 hc.2.1 hc.2.2
theorem FX(ha:CgR p a a')(hb:CgR p b b'):Cg p (Ay a b) (Ay a' b'):=((ha.1.mul hb.1).add (ha.2.1.mul hb.2.1)).add (ha.2.2.mul hb.2.2)
theorem Nv(ha:CgR p a a')(hb:CgR p b b')(hc:CgR p c c'):CgR p (Bv a b c) (Bv a' b' c')/\CgR p (Bq a b c) (Bq a' b' c')/\CgR p (Bp a b c) (Bp a' b' c'):=⟨⟨ha.1,hb.1,hc.1⟩,⟨ha.2.1,hb.2.1,hc.2.1⟩,⟨ha.2.2,hb.2.2,hc.2.2⟩⟩
theorem Nj(ha:CgR p a a')(hb:CgR p b b'):CgR p (crs a b) (crs a' b'):=
 ⟨(ha.2.1.mul hb.2.2).sub (ha.2.2.mul hb.2.1),(ha.2.2.mul hb.1).sub (ha.1.mul hb.2.2),(ha.1.mul hb.2.1).sub (ha.2.1.mul hb.1)⟩
theorem bz(ha:CgR p a a')(hb:CgR p b b')(hc:CgR p c c'):CgR p (bk0 a b c) (bk0 a' b' c')/\CgR p (bk1 a b c) (bk1 a' b' c')/\CgR p (bk2 a b c) (bk2 a' b' c'):=Nv (Nj hb hc) (Nj hc ha) (Nj ha hb)
theorem E3(p t:Ad)(a:R3):CgR p (fmR p t a) (AO t a):=by
 have key:∀ x:Ad,Cg p (t*(x%p)%p) (t*x):=λx=>(Cg.md _root_.rfl).trans (Cg.rfl.mul (Cg.md _root_.rfl))
 exact⟨key _,key _,key _⟩
noncomputable def rm(a x y z:R3):R3:=(Ay (Bv x y z) a,Ay (Bq x y z) a,Ay (Bp x y z) a)
theorem b7(p:Ad)(a x y z:R3):CgR p (mlR p a x y z) (rm a x y z):=⟨Cg.md _root_.rfl,Cg.md _root_.rfl,Cg.md _root_.rfl⟩
theorem yJ{y' z':R3}(ha:CgR p a a')(hx:CgR p x x')(hy:CgR p y y')(hz:CgR p z z'):CgR p (rm a x y z) (rm a' x' y' z'):=by
 obtain⟨c0,c1,c2⟩:=Nv hx hy hz;exact⟨FX c0 ha,FX c1 ha,FX c2 ha⟩
noncomputable def ap(a b c x:R3):R3:=(Ay a x,Ay b x,Ay c x)
theorem Qt(a b c x y z:R3):Ak (ap a b c x) (ap a b c y) (ap a b c z)=Ak a b c*Ak x y z:=by
 unfold Ak det ap Ay;grind
theorem Kl(k l m:Ad)(x y z:R3):Ak (AO k x) (AO l y) (AO m z)=k*l*m*Ak x y z:=by
 unfold Ak det AO;grind
theorem Ia(k l:Ad)(x:R3):AO k (AO l x)=AO (k*l) x:=by
 unfold AO;simp only[F7]
theorem Wi(a b c x:R3)(k:Ad):ap a b c (AO k x)=AO k (ap a b c x):=by
 unfold ap AO Ay;refine Bo ?_ (Bo ?_ ?_)<;>(simp only;grind)
theorem yI(k:Ad)(a x y z:R3):rm (AO k a) x y z=AO k (rm a x y z):=by
 unfold rm AO Ay Bv Bq Bp;refine Bo ?_ (Bo ?_ ?_)<;>(simp only;grind)
theorem tF(k:Ad)(a x y z:R3):rm a (AO k x) (AO k y) (AO k z)=AO k (rm a x y z):=by
 unfold rm AO Ay Bv Bq Bp;refine Bo ?_ (Bo ?_ ?_)<;>(simp only;grind)
theorem bv(k:Ad)(x y z:R3):bk0 (AO k x) (AO k y) (AO k z)=AO (k*k) (bk0 x y z)/\bk1 (AO k x) (AO k y) (AO k z)=AO (k*k) (bk1 x y z)/\bk2 (AO k x) (AO k y) (AO k z)=AO (k*k) (bk2 x y z):=by
 unfold bk0 bk1 bk2 AO Bv Bq Bp crs;refine⟨?_,?_,?_⟩<;>refine Bo ?_ (Bo ?_ ?_)<;>(simp only;grind)
theorem yK(a x y z:R3):rm (rm a x y z) (bk0 x y z) (bk1 x y z) (bk2 x y z)=AO (Ak x y z) a:=by
 unfold rm AO Ay bk0 bk1 bk2 Bv Bq Bp crs Ak det;refine Bo ?_ (Bo ?_ ?_)<;>(simp only;grind)
theorem U_0(x y z:R3):Ak (Bv x y z) (Bq x y z) (Bp x y z)=Ak x y z:=by
 unfold Ak det Bv Bq Bp;grind
end
theorem JH(a b:R3):Ay a b=Ay b a:=by unfold Ay;grind
theorem G2{x:Ad}(h:Cg p x y)(hy:y%p≠0):x%p≠0:=λz=>hy ((show x%p=y%p from h).symm.trans z)
theorem nz3{x z:Ad}(hp:P4 p)(hx:x%p≠0)(hy:y%p≠0)(hz:z%p≠0):x*y*z%p≠0:=By hp (By hp hx hy) hz
section
variable{p:Ad}{a b c f0 f1 f2 f3 g0 g1 g2 g3:R3}{d0 d1 d2 d3:Ad}
theorem Ma(hx:CgR p g0 (AO d0 (ap a b c f0)))(hy:CgR p g1 (AO d1 (ap a b c f1)))(hz:CgR p g2 (AO d2 (ap a b c f2))):Cg p (Ak g0 g1 g2) (d0*d1*d2*(Ak a b c*Ak f0 f1 f2)):=
 (Kd hx hy hz).trans (Cg.of (by rw[Kl,Qt]))
theorem Qe{y z w x' y' z' w':R3}{k0 k1 k2 k3 K:Ad}(hx:CgR p x' (AO k0 (ap a b c x)))(hy:CgR p y' (AO k1 (ap a b c y)))(hz:CgR p z' (AO k2 (ap a b c z)))(hw:CgR p w' (AO k3 (ap a b c w)))(hK:K=k0*k1*k2*k3*Ak a b c):CgR p (AO (Ak x' y' z'%p) w') (AO K (ap a b c (AO (Ak x y z%p) w))):=by
 have e1:Cg p (Ak x' y' z'%p) (k0*k1*k2*(Ak a b c*(Ak x y z%p))):=((Cg.md rfl).trans (Ma hx hy hz)).trans (Cg.rfl.mul (Cg.rfl.mul (Cg.md rfl).symm));refine(CgR.sc e1 hw).trans (CgR.of ?_);rw[Ia,Wi,Ia,hK]
 congr 1
 grind
theorem uD(h0:CgR p g0 (AO d0 (ap a b c f0)))(h1:CgR p g1 (AO d1 (ap a b c f1)))(h2:CgR p g2 (AO d2 (ap a b c f2)))(h3:CgR p g3 (AO d3 (ap a b c f3))):CgR p (fr0 p g0 g1 g2 g3) (AO (d0*d1*d2*d3*Ak a b c) (rm a (fr0 p f0 f1 f2 f3) (fr1 p f0 f1 f2 f3) (fr2 p f0 f1 f2 f3)))/\CgR p (fr1 p g0 g1 g2 g3) (AO (d0*d1*d2*d3*Ak a b c) (rm b (fr0 p f0 f1 f2 f3) (fr1 p f0 f1 f2 f3) (fr2 p f0 f1 f2 f3)))/\CgR p (fr2 p g0 g1 g2 g3) (AO (d0*d1*d2*d3*Ak a b c) (rm c (fr0 p f0 f1 f2 f3) (fr1 p f0 f1 f2 f3) (fr2 p f0 f1 f2 f3))):=by
 have s0:CgR p (fs0 p g0 g1 g2 g3) (AO (d0*d1*d2*d3*Ak a b c) (ap a b c (fs0 p f0 f1 f2 f3))):=Qe h3 h1 h2 h0 (by grind)
 have s1:CgR p (fs1 p g0 g1 g2 g3) (AO (d0*d1*d2*d3*Ak a b c) (ap a b c (fs1 p f0 f1 f2 f3))):=Qe h0 h3 h2 h1 (by grind)
 have s2:CgR p (fs2 p g0 g1 g2 g3) (AO (d0*d1*d2*d3*Ak a b c) (ap a b c (fs2 p f0 f1 f2 f3))):=Qe h0 h1 h3 h2 (by grind)
 obtain⟨c0,c1,c2⟩:=Nv s0 s1 s2;have key:∀ r:R3,rm r (fr0 p f0 f1 f2 f3) (fr1 p f0 f1 f2 f3) (fr2 p f0 f1 f2 f3)=(Ay r (fs0 p f0 f1 f2 f3),Ay r (fs1 p f0 f1 f2 f3),Ay r (fs2 p f0 f1 f2 f3)):=λr=>by
  rw[JH r,JH r,JH r];rfl
 rw[key a,key b,key c];exact⟨c0,c1,c2⟩
theorem uF(p:Ad)(f0 f1 f2 f3:R3):Ak (fr0 p f0 f1 f2 f3) (fr1 p f0 f1 f2 f3) (fr2 p f0 f1 f2 f3)=fk0 p f0 f1 f2 f3*fk1 p f0 f1 f2 f3*fk2 p f0 f1 f2 f3*Ak f0 f1 f2:=by
 unfold fr0 fr1 fr2;rw[U_0];unfold fs0 fs1 fs2;rw[Kl]
theorem Lh{x:Ad}(h:x%p≠0):x%p%p≠0:=by rw[AQ _ (Bs p)];exact h
theorem QQ(hp:P4 p)(h:Hs p f0 f1 f2 f3):Ak (fr0 p f0 f1 f2 f3) (fr1 p f0 f1 f2 f3) (fr2 p f0 f1 f2 f3)%p≠0:=by
 rw[uF];obtain⟨h1,h2,h3,h4⟩:=h;have k0:Ak f3 f1 f2%p≠0:=by rw[show Ak f3 f1 f2=Ak f1 f2 f3 by unfold Ak det;grind];exact h4
 have k1:Ak f0 f3 f2%p≠0:=by rw[show Ak f0 f3 f2=-1*Ak f0 f2 f3 by unfold Ak det;grind];exact By hp hp.m1 h3
 exact By hp (nz3 hp (Lh k0) (Lh k1) (Lh h2)) h1
theorem lJ(hp:P4 p)(hD:Ak a b c%p≠0)(n0:d0%p≠0)(n1:d1%p≠0)(n2:d2%p≠0)(n3:d3%p≠0)(h0:CgR p g0 (AO d0 (ap a b c f0)))(h1:CgR p g1 (AO d1 (ap a b c f1)))(h2:CgR p g2 (AO d2 (ap a b c f2)))(h3:CgR p g3 (AO d3 (ap a b c f3)))(h:Hs p f0 f1 f2 f3):Hs p g0 g1 g2 g3:=
 ⟨G2 (Ma h0 h1 h2) (By hp (nz3 hp n0 n1 n2) (By hp hD h.1)),G2 (Ma h0 h1 h3) (By hp (nz3 hp n0 n1 n3) (By hp hD h.2.1)),G2 (Ma h0 h2 h3) (By hp (nz3 hp n0 n2 n3) (By hp hD h.2.2.1)),G2 (Ma h1 h2 h3) (By hp (nz3 hp n1 n2 n3) (By hp hD h.2.2.2))⟩
end
theorem lK{a b c x y z:R3}(hp:P4 p)(hk:k%p≠0)(ha:In3 p a)(hb:In3 p b)(hc:In3 p c)(l1:AS p (nine a b c)=Ab 1)(hx:CgR p x (AO k a))(hy:CgR p y (AO k b))(hz:CgR p z (AO k c)):∃ l u,AS p (nine x y z)=Ab l/\DX p l u/\fmR p u x=a/\fmR p u y=b/\fmR p u z=c:=by
 have p1:1<p:=by have:=hp.lo;omega
 have rs:(nine x y z).map (λx=>x%p)=((nine a b c).map λx=>k*x).map (λx=>x%p):=by
  simp only[nine,BP,Gy];rw[show x.1%p=k*a.1%p from hx.1,show x.2.1%p=k*a.2.1%p from hx.2.1,show x.2.2%p=k*a.2.2%p from hx.2.2,show y.1%p=k*b.1%p from hy.1,show y.2.1%p=k*b.2.1%p from hy.2.1,show y.2.2%p=k*b.2.2%p from hy.2.2,show z.1%p=k*c.1%p from hz.1,show z.2.1%p=k*c.2.1%p from hz.2.1,show z.2.2%p=k*c.2.2%p from hz.2.2]
 have it:DX p 1 1:=⟨by decide,p1,by rw[CK,AD (by decide) p1]⟩
 have l0:(1:Ad)%p≠0:=hp.o1;obtain⟨u,iu,eu⟩:=cK hp hk l0 it (f:=λx=>k*x) (λ_=>rfl) (nine a b c)
 have el:=JG hp hk (f:=λx=>k*x) (λ_=>rfl) (nine a b c)
 rw[l1,<-KI rs]at el;rw[<-Pt rs]at eu;have one:∀ v:Ad,0<=v->v<p->1*(v%p)%p=v:=λv h0 h1=>by rw[CK,AQ _ (Bs p),AD h0 h1]
 have same:fmI p 1 (nine a b c)=nine a b c:=by
  unfold fmI nine;simp only[BP,Gy];rw[one _ ha.1.1 ha.1.2,one _ ha.2.1.1 ha.2.1.2,one _ ha.2.2.1 ha.2.2.2,one _ hb.1.1 hb.1.2,one _ hb.2.1.1 hb.2.1.2,one _ hb.2.2.1 hb.2.2.2,one _ hc.1.1 hc.1.2,one _ hc.2.1.1 hc.2.1.2,one _ hc.2.2.1 hc.2.2.2]
 rw[same,UV]at eu;obtain⟨e1,e2,e3⟩:=dJ eu;exact⟨_,u,el,iu,e1,e2,e3⟩
theorem kC(hk:Q2 Y)(hf:Ri Y)(hb:Nz Y)(ha:P6 Y){a b c f0 f1 f2 f3 g0 g1 g2 g3:R3}{d0 d1 d2 d3:Ad}(hp:P4 p)(ia:In3 p a)(ib:In3 p b)(ic:In3 p c)(hD:Ak a b c%p≠0)(l1:AS p (nine a b c)=Ab 1)(i0:In3 p f0)(i1:In3 p f1)(i2:In3 p f2)(i3:In3 p f3)(hg:Hs p f0 f1 f2 f3)(j0:In3 p g0)(j1:In3 p g1)(j2:In3 p g2)(j3:In3 p g3)(n0:d0%p≠0)(n1:d1%p≠0)(n2:d2%p≠0)(n3:d3%p≠0)(h0:CgR p g0 (AO d0 (ap a b c f0)))(h1:CgR p g1 (AO d1 (ap a b c f1)))(h2:CgR p g2 (AO d2 (ap a b c f2)))(h3:CgR p g3 (AO d3 (ap a b c f3))):KD.run Y [.int p,Ev f0 f1 f2 f3,Ev g0 g1 g2 g3]=.ok (Ce a b c):=by
 have p0:=hp.pos;have hg':=lJ hp hD n0 n1 n2 n3 h0 h1 h2 h3 hg;have e1:=hk p f0 f1 f2 f3 hp i0 i1 i2 i3 hg;have e2:=hk p g0 g1 g2 g3 hp j0 j1 j2 j3 hg';have zM:=QQ hp hg;have zN:=QQ hp hg';obtain⟨r0,r1,r2⟩:=uD h0 h1 h2 h3
 -- the frames' tables
 obtain⟨lM,eM⟩:=LW zM;obtain⟨v,v1,v2,v3⟩:=GN hp (Ir p0 eM).1;have e4:=hf p f0 f1 f2 f3 hp i0 i1 i2 i3 zM lM v eM ⟨v1,v2,v3⟩;obtain⟨lN,eN⟩:=LW zN;obtain⟨u,u1,u2,u3⟩:=GN hp (Ir p0 eN).1;have e3:=hf p g0 g1 g2 g3 hp j0 j1 j2 j3 zN lN u eN ⟨u1,u2,u3⟩;have vz:v%p≠0:=by rw[AD (by omega) v2];omega
 have uz:u%p≠0:=by rw[AD (by omega) u2];omega
 generalize fr0 p f0 f1 f2 f3=x at *;generalize fr1 p f0 f1 f2 f3=y at *;generalize fr2 p f0 f1 f2 f3=z at *;generalize fr0 p g0 g1 g2 g3=x' at *;generalize fr1 p g0 g1 g2 g3=y' at *;generalize fr2 p g0 g1 g2 g3=z' at *;have mx:=E3 p v x;have my:=E3 p v y;have mz:=E3 p v z;have kx:In3 p (fmR p v x):=FZ p0 v x;have ky:In3 p (fmR p v y):=FZ p0 v y;have kz:In3 p (fmR p v z):=FZ p0 v z;have zM':Ak (fmR p v x) (fmR p v y) (fmR p v z)%p≠0:=G2 ((Kd mx my mz).trans (Cg.of (Kl v v v x y z))) (By hp (nz3 hp vz vz vz) zM);obtain⟨b0,b1,b2⟩:=bz mx my mz;obtain⟨s0,s1,s2⟩:=bv v x y z;rw[s0]at b0;rw[s1]at b1;rw[s2]at b2;have zB:Ak (bk0 (fmR p v x) (fmR p v y) (fmR p v z)) (bk1 (fmR p v x) (fmR p v y) (fmR p v z)) (bk2 (fmR p v x) (fmR p v y) (fmR p v z))%p≠0:=by rw[K6];exact By hp zM' zM'
 obtain⟨lB,eB⟩:=LW zB;obtain⟨w,w1,w2,w3⟩:=GN hp (Ir p0 eB).1;have wz:w%p≠0:=by rw[AD (by omega) w2];omega
 have e5:=hb p _ _ _ hp kx ky kz zM' lB w eB ⟨w1,w2,w3⟩;generalize bk0 (fmR p v x) (fmR p v y) (fmR p v z)=B0 at *;generalize bk1 (fmR p v x) (fmR p v y) (fmR p v z)=B1 at *;generalize bk2 (fmR p v x) (fmR p v y) (fmR p v z)=B2 at *;have c0:CgR p (fmR p w B0) (AO (w*(v*v)) (bk0 x y z)):=(E3 p w B0).trans ((CgR.sc Cg.rfl b0).trans (CgR.of (Ia _ _ _)));have c1:CgR p (fmR p w B1) (AO (w*(v*v)) (bk1 x y z)):=(E3 p w B1).trans ((CgR.sc Cg.rfl b1).trans (CgR.of (Ia _ _ _)));have c2:CgR p (fmR p w B2) (AO (w*(v*v)) (bk2 x y z)):=(E3 p w B2).trans ((CgR.sc Cg.rfl b2).trans (CgR.of (Ia _ _ _)))
 -- the product
 have row:∀{r t:R3},CgR p t (AO (d0*d1*d2*d3*Ak a b c) (rm r x y z))->CgR p (mlR p (fmR p u t) (fmR p w B0) (fmR p w B1) (fmR p w B2)) (AO (w*(v*v)*(u*(d0*d1*d2*d3*Ak a b c))*Ak x y z) r):=λ{r t} ht=>by
  have q:CgR p (fmR p u t) (AO (u*(d0*d1*d2*d3*Ak a b c)) (rm r x y z)):=(E3 p u t).trans ((CgR.sc Cg.rfl ht).trans (CgR.of (Ia _ _ _)));refine(b7 p _ _ _ _).trans ((yJ q c0 c1 c2).trans (CgR.of ?_));rw[tF,yI,yK,Ia,Ia]
 have q0:=row r0;have q1:=row r1;have q2:=row r2;have kz':w*(v*v)*(u*(d0*d1*d2*d3*Ak a b c))*Ak x y z%p≠0:=By hp (By hp (By hp wz (By hp vz vz)) (By hp uz (By hp (By hp (nz3 hp n0 n1 n2) n3) hD))) zM;obtain⟨l,t,el,it,f0',f1',f2'⟩:=lK hp kz' ia ib ic l1 q0 q1 q2;have zR:Ak (mlR p (fmR p u x') (fmR p w B0) (fmR p w B1) (fmR p w B2)) (mlR p (fmR p u y') (fmR p w B0) (fmR p w B1) (fmR p w B2)) (mlR p (fmR p u z') (fmR p w B0) (fmR p w B1) (fmR p w B2))%p≠0:=G2 ((Kd q0 q1 q2).trans (Cg.of (Kl _ _ _ a b c))) (By hp (nz3 hp kz' kz' kz') hD);have e6:=ha p _ _ _ _ _ _ hp (FZ p0 u x') (FZ p0 u y') (FZ p0 u z') (FZ p0 w B0) (FZ p0 w B1) (FZ p0 w B2) zR l t el it;rw[f0',f1',f2']at e6;exact rM e1 e2 e3 e4 e5 e6
section
variable{Y:Gam}{ns:Ac Ad}
end
section
variable{Y:Gam}{ns:Ac Ad}{many s5 s6 s7 s8 s9 s0 s1 s2:Sl}{p:Ad}{a b c:R3}
end
noncomputable def OO:E:=(.call 1 (.cons (.var 0) (.cons (.var 3) .nil)))
noncomputable def OX:Df:=⟨4,Af,(.cons (.asg 2 Af (.comp OO 3 (.e (.var 1)) Cu)) (.cons (.ife (.no (.bi .any (.cons (.var 2) .nil))) (.cons (.rais 5 (.cons (.str (AN "all six numbers have the rest 0")) .nil)) .nil) .nil) (.cons (.ret (.call 17 (.cons (.var 0) (.cons (.var 2) .nil)))) .nil)))⟩
noncomputable def Mx:Df:=⟨1,Af,(.cons (.ret (.call 122 (.cons (.var 0) (.cons (.tup (.cons (.int 0) (.cons (.int 1) (.cons (.int 0) (.cons (.int 0) (.cons (.un .USub (.int 1)) (.cons (.int 0) .nil))))))) .nil)))) .nil)⟩
theorem Uk:∀ xs:Ac Ad,F0 (ds xs)=.ok (xs.any λx=>x != 0)
 |[]=>rfl
 |x::xs=>by
  show (EF (.int x)).bind (λb=>(F0 (ds xs)).bind λc=>.ok (b||c))=_
  rw[Uk xs];rfl
theorem TZ{p:Ad}(hp:0<p):∀ xs:Ac Ad,((xs.map λx=>x%p).any λx=>x != 0)=(AS p xs).isSome
 |[]=>rfl
 |x::xs=>by
  unfold AS;rw[BP,Jm];by_cases h:x%p=0
  .rw[AI h,h,TZ hp xs];rfl
  .rw[AV h];simp[h]
theorem We(xs:Ac Ad):(xs.map λx=>x%p).map (λx=>x%p)=xs.map λx=>x%p:=by
 rw[DC];refine DP λx _=>?_
 show x%p%p=x%p;rw[AQ _ (Bs p)]
def InL(p:Ad)(xs:Ac Ad):Prop:=∀ x∈xs,0<=x/\x<p
theorem InL.set(h:InL p xs)(k:Ag)(h0:0<=v)(h1:v<p):InL p (xs.set k v):=λx hx=>by
 rcases WQ hx with z|rfl
 .exact h x z
 .exact⟨h0,h1⟩
section
variable{Y:Gam}{ns:Ac Ad}{p at_:Ad}
end
section
variable{Y:Gam}{ns:Ac Ad}{p t:Ad}
end
structure C6 where
 c0:Ad
 c1:Ad
 c2:Ad
 c3:Ad
 c4:Ad
 c5:Ad
variable{C Q:C6}
noncomputable def C6.l(C:C6):Ac Ad:=[C.c0,C.c1,C.c2,C.c3,C.c4,C.c5]
noncomputable def BM(C:C6):D:=.tup (ds C.l)
noncomputable def vI(C:C6)(x:R3):Ad:=C.c0*x.1*x.1+C.c1*x.2.1*x.2.1+C.c2*x.2.2*x.2.2+(C.c3*x.1*x.2.1+C.c4*x.1*x.2.2+C.c5*x.2.1*x.2.2)
noncomputable def tw0(C:C6):R3:=(2*C.c0,C.c3,C.c4)
noncomputable def tw1(C:C6):R3:=(C.c3,2*C.c1,C.c5)
noncomputable def tw2(C:C6):R3:=(C.c4,C.c5,2*C.c2)
noncomputable def bI(C:C6)(x y:R3):Ad:=Ay (ap (tw0 C) (tw1 C) (tw2 C) x) y
noncomputable def scC(k:Ad)(C:C6):C6:=⟨k*C.c0,k*C.c1,k*C.c2,k*C.c3,k*C.c4,k*C.c5⟩
def CgC(p:Ad)(C D:C6):Prop:=Cg p C.c0 D.c0/\Cg p C.c1 D.c1/\Cg p C.c2 D.c2/\Cg p C.c3 D.c3/\Cg p C.c4 D.c4/\Cg p C.c5 D.c5
noncomputable def pb(C:C6)(a b c:R3):C6:=⟨vI C (Bv a b c),vI C (Bq a b c),vI C (Bp a b c),bI C (Bv a b c) (Bq a b c),bI C (Bv a b c) (Bp a b c),bI C (Bq a b c) (Bp a b c)⟩
section
variable{p:Ad}{C D E:C6}{a b c a' b' c' x y x' y':R3}{k k':Ad}
theorem C6.ext'(h0:C.c0=D.c0)(h1:C.c1=D.c1)(h2:C.c2=D.c2)(h3:C.c3=D.c3)(h4:C.c4=D.c4)(h5:C.c5=D.c5):C=D:=by
 cases C;cases D;simp_all
theorem CgC.rfl:CgC p C C:=⟨Cg.rfl,Cg.rfl,Cg.rfl,Cg.rfl,Cg.rfl,Cg.rfl⟩
theorem CgC.of(h:C=D):CgC p C D:=by rw[h];exact CgC.rfl
theorem CgC.symm(h:CgC p C D):CgC p D C:=⟨h.1.symm,h.2.1.symm,h.2.2.1.symm,h.2.2.2.1.symm,h.2.2.2.2.1.symm,h.2.2.2.2.2.symm⟩
theorem CgC.trans(h:CgC p C D)(g:CgC p D E):CgC p C E:=⟨h.1.trans g.1,h.2.1.trans g.2.1,h.2.2.1.trans g.2.2.1,h.2.2.2.1.trans g.2.2.2.1,h.2.2.2.2.1.trans g.2.2.2.2.1,h.2.2.2.2.2.trans g.2.2.2.2.2⟩
theorem CgC.sc(hk:Cg p k k')(h:CgC p C D):CgC p (scC k C) (scC k' D):=⟨hk.mul h.1,hk.mul h.2.1,hk.mul h.2.2.1,hk.mul h.2.2.2.1,hk.mul h.2.2.2.2.1,hk.mul h.2.2.2.2.2⟩
theorem ID(h:CgC p C D)(hx:CgR p x x'):Cg p (vI C x) (vI D x'):=
 (((((h.1.mul hx.1).mul hx.1).add ((h.2.1.mul hx.2.1).mul hx.2.1)).add ((h.2.2.1.mul hx.2.2).mul hx.2.2))).add ((((h.2.2.2.1.mul hx.1).mul hx.2.1).add ((h.2.2.2.2.1.mul hx.1).mul hx.2.2)).add ((h.2.2.2.2.2.mul hx.2.1).mul hx.2.2))
theorem VP(h:CgC p C D):CgR p (tw0 C) (tw0 D)/\CgR p (tw1 C) (tw1 D)/\CgR p (tw2 C) (tw2 D):=
 ⟨⟨Cg.rfl.mul h.1,h.2.2.2.1,h.2.2.2.2.1⟩,⟨h.2.2.2.1,Cg.rfl.mul h.2.1,h.2.2.2.2.2⟩,⟨h.2.2.2.2.1,h.2.2.2.2.2,Cg.rfl.mul h.2.2.1⟩⟩
theorem vE(ha:CgR p a a')(hb:CgR p b b')(hc:CgR p c c')(hx:CgR p x x'):CgR p (ap a b c x) (ap a' b' c' x'):=⟨FX ha hx,FX hb hx,FX hc hx⟩
theorem QW(h:CgC p C D)(hx:CgR p x x')(hy:CgR p y y'):Cg p (bI C x y) (bI D x' y'):=
 let ⟨t0,t1,t2⟩:=VP h
 FX (vE t0 t1 t2 hx) hy
theorem Ln(h:CgC p C D)(ha:CgR p a a')(hb:CgR p b b')(hc:CgR p c c'):CgC p (pb C a b c) (pb D a' b' c'):=
 let ⟨s0,s1,s2⟩:=Nv ha hb hc
 ⟨ID h s0,ID h s1,ID h s2,QW h s0 s1,QW h s0 s2,QW h s1 s2⟩
theorem Nu(k l:Ad)(C:C6):scC k (scC l C)=scC (k*l) C:=by
 unfold scC;simp only[F7]
theorem L7(C:C6):scC 1 C=C:=by unfold scC;simp only[CK]
theorem QI(k:Ad)(C:C6)(a b c:R3):pb (scC k C) a b c=scC k (pb C a b c):=by
 unfold pb scC vI bI ap tw0 tw1 tw2 Ay;refine C6.ext' ?_ ?_ ?_ ?_ ?_ ?_<;>(simp only;grind)
theorem uI(k:Ad)(C:C6)(a b c:R3):pb C (AO k a) (AO k b) (AO k c)=scC (k*k) (pb C a b c):=by
 unfold pb scC vI bI ap tw0 tw1 tw2 Ay Bv Bq Bp AO;refine C6.ext' ?_ ?_ ?_ ?_ ?_ ?_<;>(simp only;grind)
theorem Vh(C:C6)(x y z:R3)(k l m:Ad):vI C (k*x.1+l*y.1+m*z.1,k*x.2.1+l*y.2.1+m*z.2.1,k*x.2.2+l*y.2.2+m*z.2.2)=k*k*vI C x+l*l*vI C y+m*m*vI C z+(k*l*bI C x y+k*m*bI C x z+l*m*bI C y z):=by
 unfold vI bI ap tw0 tw1 tw2 Ay;simp only;grind
theorem Vf(C:C6)(x y z w:R3)(k l m:Ad):bI C (k*x.1+l*y.1+m*z.1,k*x.2.1+l*y.2.1+m*z.2.1,k*x.2.2+l*y.2.2+m*z.2.2) w=k*bI C x w+l*bI C y w+m*bI C z w:=by
 unfold bI ap tw0 tw1 tw2 Ay;simp only;grind
theorem Kf(C:C6)(x y:R3):bI C x y=bI C y x:=by
 unfold bI ap tw0 tw1 tw2 Ay;simp only;grind
theorem K0(C:C6)(x:R3):bI C x x=2*vI C x:=by
 unfold vI bI ap tw0 tw1 tw2 Ay;simp only;grind
theorem zO(v0 v1 v2 b0 b1 b2:Ad)(u:R3):vI ⟨v0,v1,v2,b0,b1,b2⟩ u=u.1*u.1*v0+u.2.1*u.2.1*v1+u.2.2*u.2.2*v2+(u.1*u.2.1*b0+u.1*u.2.2*b1+u.2.1*u.2.2*b2):=by
 unfold vI;simp only;grind
theorem zP(v0 v1 v2 b0 b1 b2:Ad)(u w:R3):bI ⟨v0,v1,v2,b0,b1,b2⟩ u w=u.1*(w.1*(2*v0)+w.2.1*b0+w.2.2*b1)+u.2.1*(w.1*b0+w.2.1*(2*v1)+w.2.2*b2)+u.2.2*(w.1*b1+w.2.1*b2+w.2.2*(2*v2)):=by
 unfold bI ap tw0 tw1 tw2 Ay;simp only;grind
theorem Zm(C:C6)(s0 s1 s2 u:R3):vI C (u.1*s0.1+u.2.1*s1.1+u.2.2*s2.1,u.1*s0.2.1+u.2.1*s1.2.1+u.2.2*s2.2.1,u.1*s0.2.2+u.2.1*s1.2.2+u.2.2*s2.2.2)=vI ⟨vI C s0,vI C s1,vI C s2,bI C s0 s1,bI C s0 s2,bI C s1 s2⟩ u:=by
 exact(Vh C s0 s1 s2 u.1 u.2.1 u.2.2).trans (zO _ _ _ _ _ _ u).symm
theorem Zn(C:C6)(s0 s1 s2 u w:R3):bI C (u.1*s0.1+u.2.1*s1.1+u.2.2*s2.1,u.1*s0.2.1+u.2.1*s1.2.1+u.2.2*s2.2.1,u.1*s0.2.2+u.2.1*s1.2.2+u.2.2*s2.2.2) (w.1*s0.1+w.2.1*s1.1+w.2.2*s2.1,w.1*s0.2.1+w.2.1*s1.2.1+w.2.2*s2.2.1,w.1*s0.2.2+w.2.1*s1.2.2+w.2.2*s2.2.2)=bI ⟨vI C s0,vI C s1,vI C s2,bI C s0 s1,bI C s0 s2,bI C s1 s2⟩ u w:=by
 have e:∀ s:R3,bI C s (w.1*s0.1+w.2.1*s1.1+w.2.2*s2.1,w.1*s0.2.1+w.2.1*s1.2.1+w.2.2*s2.2.1,w.1*s0.2.2+w.2.1*s1.2.2+w.2.2*s2.2.2)=w.1*bI C s0 s+w.2.1*bI C s1 s+w.2.2*bI C s2 s:=λs=>(Kf C _ _).trans (Vf C s0 s1 s2 s w.1 w.2.1 w.2.2)
 refine Eq.trans ?_ (zP _ _ _ _ _ _ u w).symm;rw[Vf,e,e,e,K0 C s0,K0 C s1,K0 C s2,Kf C s1 s0,Kf C s2 s0,Kf C s2 s1]
theorem V9(C:C6)(a b c x y z:R3):pb (pb C a b c) x y z=pb C (rm a x y z) (rm b x y z) (rm c x y z):=by
 have v:=λu=>(Zm C (Bv a b c) (Bq a b c) (Bp a b c) u).symm
 have w:=λu u'=>(Zn C (Bv a b c) (Bq a b c) (Bp a b c) u u').symm
 exact C6.ext' (v (Bv x y z)) (v (Bq x y z)) (v (Bp x y z)) (w (Bv x y z) (Bq x y z)) (w (Bv x y z) (Bp x y z)) (w (Bq x y z) (Bp x y z))
theorem Wa(C:C6)(k:Ad):pb C (k,0,0) (0,k,0) (0,0,k)=scC (k*k) C:=by
 unfold pb scC vI bI ap tw0 tw1 tw2 Ay Bv Bq Bp;refine C6.ext' ?_ ?_ ?_ ?_ ?_ ?_<;>(simp only;grind)
theorem Vr(a b c:R3):rm a (bk0 a b c) (bk1 a b c) (bk2 a b c)=(Ak a b c,0,0)/\rm b (bk0 a b c) (bk1 a b c) (bk2 a b c)=(0,Ak a b c,0)/\rm c (bk0 a b c) (bk1 a b c) (bk2 a b c)=(0,0,Ak a b c):=by
 unfold rm Ay bk0 bk1 bk2 Bv Bq Bp crs Ak det;refine⟨?_,?_,?_⟩<;>refine Bo ?_ (Bo ?_ ?_)<;>(simp only;grind)
theorem Qs(C:C6)(a b c:R3):Ak (tw0 (pb C a b c)) (tw1 (pb C a b c)) (tw2 (pb C a b c))=Ak a b c*Ak a b c*Ak (tw0 C) (tw1 C) (tw2 C):=by
 have row:∀ s:R3,(bI C s (Bv a b c),bI C s (Bq a b c),bI C s (Bp a b c))=ap (Bv a b c) (Bq a b c) (Bp a b c) (ap (tw0 C) (tw1 C) (tw2 C) s):=λs=>by
  unfold bI;rw[JH,JH _ (Bq a b c),JH _ (Bp a b c)];rfl
 have e0:tw0 (pb C a b c)=(bI C (Bv a b c) (Bv a b c),bI C (Bv a b c) (Bq a b c),bI C (Bv a b c) (Bp a b c)):=by rw[K0];rfl
 have e1:tw1 (pb C a b c)=(bI C (Bq a b c) (Bv a b c),bI C (Bq a b c) (Bq a b c),bI C (Bq a b c) (Bp a b c)):=by rw[K0,Kf C (Bq a b c) (Bv a b c)];rfl
 have e2:tw2 (pb C a b c)=(bI C (Bp a b c) (Bv a b c),bI C (Bp a b c) (Bq a b c),bI C (Bp a b c) (Bp a b c)):=by rw[K0,Kf C (Bp a b c) (Bv a b c),Kf C (Bp a b c) (Bq a b c)];rfl
 rw[e0,e1,e2,row,row,row,Qt,Qt,U_0];grind
theorem mC(k:Ad)(C:C6):Ak (tw0 (scC k C)) (tw1 (scC k C)) (tw2 (scC k C))=k*k*k*Ak (tw0 C) (tw1 C) (tw2 C):=by
 rw[<-Kl];unfold tw0 tw1 tw2 scC AO;simp only[<-F7,BK 2 k]
def PrC(p:Ad)(C D:C6):Prop:=∃ d,d%p≠0/\CgC p C (scC d D)
theorem PrC.rfl(hp:P4 p):PrC p C C:=⟨1,hp.o1,CgC.of (L7 C).symm⟩
theorem PrC.trans(hp:P4 p)(i:PrC p C D)(j:PrC p D E):PrC p C E:=by
 obtain⟨d,dz,e⟩:=i;obtain⟨d',dz',e'⟩:=j;exact⟨d*d',By hp dz dz',e.trans ((CgC.sc Cg.rfl e').trans (CgC.of (Nu _ _ _)))⟩
theorem Qc(hp:P4 p)(dz:k%p≠0):∃ u,u%p≠0/\Cg p (u*k) 1:=by
 obtain⟨u,u1,u2,u3⟩:=GN hp dz;refine⟨u,by rw[AD (by omega) u2];omega,?_⟩
 show u*k%p=1%p;rw[BK,u3,AD (by decide) (by have:=hp.lo;omega)]
theorem PrC.symm(hp:P4 p)(i:PrC p C D):PrC p D C:=by
 obtain⟨d,dz,e⟩:=i;obtain⟨u,uz,o⟩:=Qc hp dz;refine⟨u,uz,?_⟩;have q:=CgC.sc (k:=u) (k':=u) Cg.rfl e;rw[Nu]at q;exact(q.trans ((CgC.sc o CgC.rfl).trans (CgC.of (L7 D)))).symm
theorem PrC.pb(i:PrC p C D):PrC p (OvC.pb C a b c) (OvC.pb D a b c):=by
 obtain⟨d,dz,e⟩:=i;exact⟨d,dz,(Ln e CgR.rfl CgR.rfl CgR.rfl).trans (CgC.of (QI d D a b c))⟩
theorem PrC.tab(hp:P4 p)(kz:k%p≠0)(ha:CgR p a (AO k a'))(hb:CgR p b (AO k b'))(hc:CgR p c (AO k c')):PrC p (OvC.pb C a b c) (OvC.pb C a' b' c'):=
 ⟨k*k,By hp kz kz,(Ln CgC.rfl ha hb hc).trans (CgC.of (uI k C a' b' c'))⟩
def InC(p:Ad)(C:C6):Prop:=∀ x∈C.l,0<=x/\x<p
theorem Pb(hp:P4 p)(iC:InC p C)(iD:InC p D)(lC:AS p C.l=Ab 1)(lD:AS p D.l=Ab 1)(h:PrC p C D):C=D:=by
 obtain⟨d,dz,e⟩:=h;have p1:1<p:=by have:=hp.lo;omega
 have rs:C.l.map (λx=>x%p)=(D.l.map λx=>d*x).map (λx=>x%p):=by
  obtain⟨h0,h1,h2,h3,h4,h5⟩:=e;simp only[C6.l,BP,Gy];rw[show C.c0%p=d*D.c0%p from h0,show C.c1%p=d*D.c1%p from h1,show C.c2%p=d*D.c2%p from h2,show C.c3%p=d*D.c3%p from h3,show C.c4%p=d*D.c4%p from h4,show C.c5%p=d*D.c5%p from h5]
 have el:=JG hp dz (f:=λx=>d*x) (λ_=>rfl) D.l
 rw[lD,<-KI rs,lC,D5,Cc,DB]at el;have o:Cg p d 1:=by
  show d%p=1%p;rw[<-el,AD (by decide) p1]
 obtain⟨h0,h1,h2,h3,h4,h5⟩:=e.trans ((CgC.sc o CgC.rfl).trans (CgC.of (L7 D)));have same:∀{u v:Ad},u∈C.l->v∈D.l->Cg p u v->u=v:=λhu hv huv=>by
  have:=show _%p=_%p from huv
  rwa [AD (iC _ hu).1 (iC _ hu).2,AD (iD _ hv).1 (iD _ hv).2]at this
 exact C6.ext' (same (by simp[C6.l]) (by simp[C6.l]) h0) (same (by simp[C6.l]) (by simp[C6.l]) h1) (same (by simp[C6.l]) (by simp[C6.l]) h2) (same (by simp[C6.l]) (by simp[C6.l]) h3) (same (by simp[C6.l]) (by simp[C6.l]) h4) (same (by simp[C6.l]) (by simp[C6.l]) h5)
theorem jE(hp:P4 p){l:Ad}(lC:AS p C.l=Ab l)(z:Ak a b c%p≠0)(h:CgC p E (OvC.pb C a b c)):∃ l,AS p E.l=Ab l:=by
 cases el:AS p E.l with
 |some l=>exact⟨l,_root_.rfl⟩
 |none=>
  have hz:=Jb.mp el;have e0:CgC p E (scC 0 E):=by
   have k:∀ x∈E.l,Cg p x (0*x):=λx hx=>by show x%p=0*x%p;rw[hz x hx,FB,Bt]
   exact⟨k _ (by simp[C6.l]),k _ (by simp[C6.l]),k _ (by simp[C6.l]),k _ (by simp[C6.l]),k _ (by simp[C6.l]),k _ (by simp[C6.l])⟩
  have q:CgC p (OvC.pb E (bk0 a b c) (bk1 a b c) (bk2 a b c)) (scC (Ak a b c*Ak a b c) C):=by
   refine(Ln h CgR.rfl CgR.rfl CgR.rfl).trans (CgC.of ?_);obtain⟨r0,r1,r2⟩:=Vr a b c;rw[V9,r0,r1,r2,Wa]
  have q0:CgC p (OvC.pb E (bk0 a b c) (bk1 a b c) (bk2 a b c)) (scC 0 (OvC.pb E (bk0 a b c) (bk1 a b c) (bk2 a b c))):=by
   have:=Ln e0 (CgR.rfl (a:=bk0 a b c)) (CgR.rfl (a:=bk1 a b c)) (CgR.rfl (a:=bk2 a b c))
   rwa [QI]at this
  obtain⟨u,uz,o⟩:=Qc hp (By hp z z);have t:CgC p C (scC 0 (OvC.pb E (bk0 a b c) (bk1 a b c) (bk2 a b c))):=by
   have w:=CgC.sc (k:=u) (k':=u) Cg.rfl (q.symm.trans q0);rw[Nu,Nu,Cw]at w;exact((CgC.of (L7 C).symm).trans (CgC.sc o.symm CgC.rfl)).trans w
  have z0:AS p C.l=Ae:=by
   refine Jb.mpr λx hx=>?_
   obtain⟨h0,h1,h2,h3,h4,h5⟩:=t;have k:∀{x y:Ad},Cg p x (0*y)->x%p=0:=λ{x y} h=>by rw[show x%p=_ from h,FB,Bt]
   simp only[C6.l,At,AR,BO]at hx;rcases hx with rfl|rfl|rfl|rfl|rfl|rfl
   .exact k h0
   .exact k h1
   .exact k h2
   .exact k h3
   .exact k h4
   .exact k h5
  rw[z0]at lC;cases lC
end
noncomputable def L4:Df:=⟨5,Af,(.cons (.asg 3 Af (.bin .Add (.bin .Add (.bin .Mult (.bin .Mult (.idx (.var 1) (.int 0)) (.idx (.var 2) (.int 0))) (.idx (.var 2) (.int 0))) (.bin .Mult (.bin .Mult (.idx (.var 1) (.int 1)) (.idx (.var 2) (.int 1))) (.idx (.var 2) (.int 1)))) (.bin .Mult (.bin .Mult (.idx (.var 1) (.int 2)) (.idx (.var 2) (.int 2))) (.idx (.var 2) (.int 2))))) (.cons (.asg 4 Af (.bin .Add (.bin .Add (.bin .Mult (.bin .Mult (.idx (.var 1) (.int 3)) (.idx (.var 2) (.int 0))) (.idx (.var 2) (.int 1))) (.bin .Mult (.bin .Mult (.idx (.var 1) (.int 4)) (.idx (.var 2) (.int 0))) (.idx (.var 2) (.int 2)))) (.bin .Mult (.bin .Mult (.idx (.var 1) (.int 5)) (.idx (.var 2) (.int 1))) (.idx (.var 2) (.int 2))))) (.cons (.ret (.call 1 (.cons (.var 0) (.cons (.bin .Add (.var 3) (.var 4)) .nil)))) .nil)))⟩
noncomputable def OI:Df:=⟨2,Af,(.cons (.ret (.tup (.cons (.tup (.cons (.call 1 (.cons (.var 0) (.cons (.bin .Mult (.int 2) (.idx (.var 1) (.int 0))) .nil))) (.cons (.idx (.var 1) (.int 3)) (.cons (.idx (.var 1) (.int 4)) .nil)))) (.cons (.tup (.cons (.idx (.var 1) (.int 3)) (.cons (.call 1 (.cons (.var 0) (.cons (.bin .Mult (.int 2) (.idx (.var 1) (.int 1))) .nil))) (.cons (.idx (.var 1) (.int 5)) .nil)))) (.cons (.tup (.cons (.idx (.var 1) (.int 4)) (.cons (.idx (.var 1) (.int 5)) (.cons (.call 1 (.cons (.var 0) (.cons (.bin .Mult (.int 2) (.idx (.var 1) (.int 2))) .nil))) .nil)))) .nil))))) .nil)⟩
noncomputable def PN:Df:=⟨5,Af,(.cons (.asg 4 Af (.call 91 (.cons (.var 0) (.cons (.call 131 (.cons (.var 0) (.cons (.var 1) .nil))) (.cons (.var 2) .nil))))) (.cons (.ret (.bin .Add (.bin .Add (.bin .Mult (.idx (.var 4) (.int 0)) (.idx (.var 3) (.int 0))) (.bin .Mult (.idx (.var 4) (.int 1)) (.idx (.var 3) (.int 1)))) (.bin .Mult (.idx (.var 4) (.int 2)) (.idx (.var 3) (.int 2))))) .nil))⟩
noncomputable def MH:E:=(.call 126 (.cons (.var 0) (.cons (.var 1) (.cons (.var 6) .nil))))
noncomputable def Nc:Df:=⟨7,Af,(.cons (.asg 3 Af (.call 104 (.cons (.call 106 (.cons (.var 0) (.cons (.var 2) .nil))) .nil))) (.cons (.asg 4 Af (.comp MH 6 (.e (.var 3)) Cu)) (.cons (.asg 5 Af (.lst (.cons (.call 132 (.cons (.var 0) (.cons (.var 1) (.cons (.idx (.var 3) (.int 0)) (.cons (.idx (.var 3) (.int 1)) .nil))))) (.cons (.call 132 (.cons (.var 0) (.cons (.var 1) (.cons (.idx (.var 3) (.int 0)) (.cons (.idx (.var 3) (.int 2)) .nil))))) (.cons (.call 132 (.cons (.var 0) (.cons (.var 1) (.cons (.idx (.var 3) (.int 1)) (.cons (.idx (.var 3) (.int 2)) .nil))))) .nil))))) (.cons (.ret (.call 122 (.cons (.var 0) (.cons (.bin .Add (.var 4) (.var 5)) .nil)))) .nil))))⟩
theorem ix6(C:C6):CF (BM C) (.int 0)=.ok (.int C.c0)/\CF (BM C) (.int 1)=.ok (.int C.c1)/\CF (BM C) (.int 2)=.ok (.int C.c2)/\CF (BM C) (.int 3)=.ok (.int C.c3)/\CF (BM C) (.int 4)=.ok (.int C.c4)/\CF (BM C) (.int 5)=.ok (.int C.c5):=⟨rfl,rfl,rfl,rfl,rfl,rfl⟩
structure BC (C:C6):Prop where
 b0:Bd 10 C.c0
 b1:Bd 10 C.c1
 b2:Bd 10 C.c2
 b3:Bd 10 C.c3
 b4:Bd 10 C.c4
 b5:Bd 10 C.c5
theorem InC.b(hp:P4 p)(h:InC p C):BC C:=by
 have k:∀ x∈C.l,Bd 10 x:=λx hx=>JM hp (h x hx).1 (h x hx).2
 exact⟨k _ (by simp[C6.l]),k _ (by simp[C6.l]),k _ (by simp[C6.l]),k _ (by simp[C6.l]),k _ (by simp[C6.l]),k _ (by simp[C6.l])⟩
def P5(Y:Gam):Prop:=∀(p:Ad)(C:C6)(x:R3),P4 p->InC p C->In3 p x->Y.F 126 [.int p,BM C,Ao Aa x]=.ok (.int (vI C x%p))
theorem jV(hr:Iz Y)(p:Ad)(C:C6)(x:R3)(hp:P4 p)(iC:InC p C)(ix:In3 p x):L4.run Y [.int p,BM C,Ao Aa x]=.ok (.int (vI C x%p)):=by
 obtain⟨i0,i1,i2,i3,i4,i5⟩:=ix6 C;obtain⟨x0,x1,x2⟩:=FG Aa x;have bC:=iC.b hp;have bx:=Cv hp ix;have k:∀ {u v},Bd 10 u->Bd 10 v->EO u v=Aa:=λhu hv=>Gg hu hv (by decide) (by decide)
 have k2:∀ {u v w},Bd 10 u->Bd 10 v->Bd 10 w->EO (u*v) w=Aa:=λhu hv hw=>Gg (hu.mul hv) hw (by decide) (by decide)
 simp[L4,Df.run,BJ,i0,i1,i2,i3,i4,i5,x0,x1,x2,k bC.b0 bx.1,k bC.b1 bx.2.1,k bC.b2 bx.2.2,k bC.b3 bx.1,k bC.b4 bx.1,k bC.b5 bx.2.1,k2 bC.b0 bx.1 bx.1,k2 bC.b1 bx.2.1 bx.2.1,k2 bC.b2 bx.2.2 bx.2.2,k2 bC.b3 bx.1 bx.2.1,k2 bC.b4 bx.1 bx.2.2,k2 bC.b5 bx.2.1 bx.2.2,hr p _ hp.pos];rfl
noncomputable def t0(p:Ad)(C:C6):R3:=(2*C.c0%p,C.c3,C.c4)
noncomputable def t1(p:Ad)(C:C6):R3:=(C.c3,2*C.c1%p,C.c5)
noncomputable def t2(p:Ad)(C:C6):R3:=(C.c4,C.c5,2*C.c2%p)
theorem Za(hp:P4 p)(h:InC p C):In3 p (t0 p C)/\In3 p (t1 p C)/\In3 p (t2 p C):=by
 have p0:=hp.pos;have k:∀ x∈C.l,0<=x/\x<p:=h;have m:∀ x:Ad,0<=x%p/\x%p<p:=λx=>⟨AK _ (by omega),AG _ p0⟩
 exact⟨⟨m _,k _ (by simp[C6.l,t0]),k _ (by simp[C6.l,t0])⟩,⟨k _ (by simp[C6.l,t1]),m _,k _ (by simp[C6.l,t1])⟩,⟨k _ (by simp[C6.l,t2]),k _ (by simp[C6.l,t2]),m _⟩⟩
theorem Zb(p:Ad)(C:C6):CgR p (t0 p C) (tw0 C)/\CgR p (t1 p C) (tw1 C)/\CgR p (t2 p C) (tw2 C):=⟨⟨Cg.md rfl,Cg.rfl,Cg.rfl⟩,⟨Cg.rfl,Cg.md rfl,Cg.rfl⟩,⟨Cg.rfl,Cg.rfl,Cg.md rfl⟩⟩
def UP(Y:Gam):Prop:=∀(p:Ad)(C:C6),P4 p->Y.F 131 [.int p,BM C]=.ok (Ce (t0 p C) (t1 p C) (t2 p C))
theorem jW(hr:Iz Y)(p:Ad)(C:C6)(hp:P4 p):OI.run Y [.int p,BM C]=.ok (Ce (t0 p C) (t1 p C) (t2 p C)):=by
 obtain⟨i0,i1,i2,i3,i4,i5⟩:=ix6 C;have m22:∀ y,DW 2 y=Aa:=λy=>HS (by decide) (by decide)
 simp[OI,Df.run,BJ,i0,i1,i2,i3,i4,i5,m22,hr p _ hp.pos];rfl
noncomputable def mxI(p:Ad)(C:C6)(x y:R3):Ad:=Ay (Ay (t0 p C) x%p,Ay (t1 p C) x%p,Ay (t2 p C) x%p) y
theorem QU(p:Ad)(C:C6)(x y:R3):Cg p (mxI p C x y) (bI C x y):=by
 obtain⟨h0,h1,h2⟩:=Zb p C;exact FX ⟨(Cg.md rfl).trans (FX h0 CgR.rfl),(Cg.md rfl).trans (FX h1 CgR.rfl),(Cg.md rfl).trans (FX h2 CgR.rfl)⟩ CgR.rfl
def VI(Y:Gam):Prop:=∀(p:Ad)(C:C6)(x y:R3),P4 p->InC p C->In3 p x->In3 p y->Y.F 132 [.int p,BM C,Ao Aa x,Ao Aa y]=.ok (.int (mxI p C x y))
theorem rN(ht:UP Y)(hs:Qr Y)(p:Ad)(C:C6)(x y:R3)(hp:P4 p)(iC:InC p C)(ix:In3 p x)(iy:In3 p y):PN.run Y [.int p,BM C,Ao Aa x,Ao Aa y]=.ok (.int (mxI p C x y)):=by
 have p0:=hp.pos;obtain⟨h0,h1,h2⟩:=Za hp iC;have e1:=ht p C hp;have e2:Y.F 91 [.int p,Ce (t0 p C) (t1 p C) (t2 p C),Ao Aa x]=_:=hs p Aa Aa Aa (t0 p C) (t1 p C) (t2 p C) x p0 ((Cv hp h0).b3 (by decide)) ((Cv hp h1).b3 (by decide)) ((Cv hp h2).b3 (by decide)) ((Cv hp ix).b3 (by decide))
 have iw:In3 p (Ay (t0 p C) x%p,Ay (t1 p C) x%p,Ay (t2 p C) x%p):=⟨⟨AK _ (by omega),AG _ p0⟩,⟨AK _ (by omega),AG _ p0⟩,⟨AK _ (by omega),AG _ p0⟩⟩
 unfold mxI;generalize (Ay (t0 p C) x%p,Ay (t1 p C) x%p,Ay (t2 p C) x%p)=w at *;obtain⟨x0,x1,x2⟩:=FG Aa w;obtain⟨y0,y1,y2⟩:=FG Aa y;have bw:=Cv hp iw;have by_:=Cv hp iy;have k:∀ {u v},Bd 10 u->Bd 10 v->EO u v=Aa:=λhu hv=>Gg hu hv (by decide) (by decide)
 simp[PN,Df.run,BJ,e1,e2,x0,x1,x2,y0,y1,y2,k bw.1 by_.1,k bw.2.1 by_.2.1,k bw.2.2 by_.2.2];rfl
def Ny(Y:Gam):Prop:=∀(p:Ad)(b:Aj)(xs:Ac Ad)(l t:Ad),P4 p->AS p xs=Ab l->DX p l t->Y.F 122 [.int p,Dm b xs]=.ok (.tup (ds (fmI p t xs)))
theorem rT(hr:Iz Y)(hf:Nf Y){b:Aj}{l t:Ad}(hp:P4 p)(e:AS p xs=Ab l)(it:DX p l t):OX.run Y [.int p,Dm b xs]=.ok (.tup (ds (fmI p t xs))):=by
 have p0:=hp.pos;have cp:BQ (cG Y [si p,sh (Dm b xs),Ae,Ae] 3 Cu) (cF Y [si p,sh (Dm b xs),Ae,Ae] 3 OO) (ds xs)=.ok (ds (xs.map λx=>x%p)):=by
  refine J4 xs λx _=>⟨rfl,?_⟩
  simp[cF,OO,hr p x p0]
 have an:=Uk (xs.map λx=>x%p)
 rw[TZ p0,e]at an;have le:AS p (xs.map λx=>x%p)=Ab l:=by rw[KI (We xs)];exact e
 have f:=hf p Af (xs.map λx=>x%p) l t hp le it
 rw[Pt (We xs)]at f;have f':Y.F 17 [.int p,.lst (ds (xs.map λx=>x%p))]=.ok (.tup (ds (fmI p t xs))):=f
 simp[OX,Df.run,BJ,OY,cp,an,f']
theorem QR{E:C6}{l:Ad}(hp:P4 p)(el:AS p E.l=Ab l):∃(t:Ad)(D:C6),DX p l t/\fmI p t E.l=D.l/\InC p D/\AS p D.l=Ab 1/\PrC p D E:=by
 have p0:=hp.pos;obtain⟨lz,_,_⟩:=Ir p0 el;obtain⟨t,t1,t2,t3⟩:=GN hp lz;have tz:t%p≠0:=by rw[AD (by omega) t2];omega
 have ff:∀ x,(t*(x%p)%p)%p=t*x%p:=λx=>by rw[AQ _ (Bs p),Bg t (x%p) p,AQ _ (Bs p),<-Bg]
 have lv:=JG hp tz (f:=λx=>t*(x%p)%p) ff E.l
 rw[el,D5,BK,t3]at lv;have key:∀ x:Ad,Cg p (t*(x%p)%p) (t*x):=λx=>(Cg.md rfl).trans (Cg.rfl.mul (Cg.md rfl))
 refine⟨t,⟨t*(E.c0%p)%p,t*(E.c1%p)%p,t*(E.c2%p)%p,t*(E.c3%p)%p,t*(E.c4%p)%p,t*(E.c5%p)%p⟩,⟨t1,t2,t3⟩,rfl,λx hx=>?_,lv,t,tz,key _,key _,key _,key _,key _,key _⟩
 obtain⟨y,_,rfl⟩:=BL.mp (show x∈E.l.map λx=>t*(x%p)%p from hx)
 exact⟨AK _ (by omega),AG _ p0⟩
theorem kB(hb:Nz Y)(hc:Mg Y)(hv:P5 Y)(hm:VI Y)(hf:Ny Y)(p:Ad)(C:C6)(a b c:R3)(iC:InC p C)(lC:AS p C.l=Ab 1)(T:GoodR p a b c):∃ D:C6,InC p D/\AS p D.l=Ab 1/\PrC p D (pb C (bk0 a b c) (bk1 a b c) (bk2 a b c))/\Nc.run Y [.int p,BM C,Ce a b c]=.ok (BM D):=by
 have hp:=T.p4;have p0:=hp.pos;have zB:Ak (bk0 a b c) (bk1 a b c) (bk2 a b c)%p≠0:=by rw[K6];exact By hp T.nz T.nz
 obtain⟨l,el⟩:=LW zB;obtain⟨u,u1,u2,u3⟩:=GN hp (Ir p0 el).1;have uz:u%p≠0:=by rw[AD (by omega) u2];omega
 have e1:=hb p a b c hp T.ia T.ib T.ic T.nz l u el ⟨u1,u2,u3⟩;have r0:=E3 p u (bk0 a b c);have r1:=E3 p u (bk1 a b c);have r2:=E3 p u (bk2 a b c);have i0:=FZ p0 u (bk0 a b c);have i1:=FZ p0 u (bk1 a b c);have i2:=FZ p0 u (bk2 a b c);have zR:Ak (fmR p u (bk0 a b c)) (fmR p u (bk1 a b c)) (fmR p u (bk2 a b c))%p≠0:=G2 ((Kd r0 r1 r2).trans (Cg.of (Kl u u u _ _ _))) (By hp (nz3 hp uz uz uz) zB);have pr:PrC p (pb C (fmR p u (bk0 a b c)) (fmR p u (bk1 a b c)) (fmR p u (bk2 a b c))) (pb C (bk0 a b c) (bk1 a b c) (bk2 a b c)):=PrC.tab hp uz r0 r1 r2;generalize fmR p u (bk0 a b c)=x at *;generalize fmR p u (bk1 a b c)=y at *;generalize fmR p u (bk2 a b c)=z at *;have e2:Y.F 104 [Ce x y z]=.ok (Ce (Bv x y z) (Bq x y z) (Bp x y z)):=hc Aa Aa x y z;have j0:In3 p (Bv x y z):=⟨i0.1,i1.1,i2.1⟩;have j1:In3 p (Bq x y z):=⟨i0.2.1,i1.2.1,i2.2.1⟩;have j2:In3 p (Bp x y z):=⟨i0.2.2,i1.2.2,i2.2.2⟩;have m01:=hm p C _ _ hp iC j0 j1;have m02:=hm p C _ _ hp iC j0 j2;have m12:=hm p C _ _ hp iC j1 j2;have v0:=hv p C _ hp iC j0;have v1:=hv p C _ hp iC j1;have v2:=hv p C _ hp iC j2;have cg:CgC p ⟨vI C (Bv x y z)%p,vI C (Bq x y z)%p,vI C (Bp x y z)%p,mxI p C (Bv x y z) (Bq x y z),mxI p C (Bv x y z) (Bp x y z),mxI p C (Bq x y z) (Bp x y z)⟩ (pb C x y z):=⟨Cg.md rfl,Cg.md rfl,Cg.md rfl,QU p C _ _,QU p C _ _,QU p C _ _⟩;obtain⟨l',el'⟩:=jE hp lC zR cg;obtain⟨t,D,it,eD,iD,lD,pD⟩:=QR hp el';have e3:=hf p Af _ l' t hp el' it;rw[eD]at e3;refine⟨D,iD,lD,(pD.trans hp ⟨1,hp.o1,cg.trans (CgC.of (L7 _).symm)⟩).trans hp pr,?_⟩;generalize hX:(mxI p C (Bv x y z) (Bq x y z))=M01 at *;generalize hY:(mxI p C (Bv x y z) (Bp x y z))=M02 at *;generalize hZ:(mxI p C (Bq x y z) (Bp x y z))=M12 at *;generalize vI C (Bv x y z)%p=V0 at *;generalize vI C (Bq x y z)%p=V1 at *;generalize vI C (Bp x y z)%p=V2 at *;have e3':Y.F 122 [.int p,.lst [.int V0,.int V1,.int V2,.int M01,.int M02,.int M12]]=.ok (BM D):=e3;have key:∀(r:R3)(v:Ad),Y.F 126 [.int p,BM C,Ao Aa r]=.ok (.int v)->cF Y [si p,sh (BM C),sh (Ce a b c),sh (Ce (Bv x y z) (Bq x y z) (Bp x y z)),Ae,Ae,Ae] 6 MH (Ao Aa r)=.ok (.int v):=λr v h=>by
  simp[cF,MH,h]
 have gg:∀ r,cG Y [si p,sh (BM C),sh (Ce a b c),sh (Ce (Bv x y z) (Bq x y z) (Bp x y z)),Ae,Ae,Ae] 6 Cu r=.ok Aa:=λ_=>rfl
 have cp:BQ (cG Y [si p,sh (BM C),sh (Ce a b c),sh (Ce (Bv x y z) (Bq x y z) (Bp x y z)),Ae,Ae,Ae] 6 Cu) (cF Y [si p,sh (BM C),sh (Ce a b c),sh (Ce (Bv x y z) (Bq x y z) (Bp x y z)),Ae,Ae,Ae] 6 MH) [Ao Aa (Bv x y z),Ao Aa (Bq x y z),Ao Aa (Bp x y z)]=.ok [.int V0,.int V1,.int V2]:=by
  simp[BQ,gg,key _ _ v0,key _ _ v1,key _ _ v2]
 have sq:CC (Ce (Bv x y z) (Bq x y z) (Bp x y z))=.ok [Ao Aa (Bv x y z),Ao Aa (Bq x y z),Ao Aa (Bp x y z)]:=rfl;have k0:CF (Ce (Bv x y z) (Bq x y z) (Bp x y z)) (.int 0)=.ok (Ao Aa (Bv x y z)):=rfl;have k1:CF (Ce (Bv x y z) (Bq x y z) (Bp x y z)) (.int 1)=.ok (Ao Aa (Bq x y z)):=rfl;have k2:CF (Ce (Bv x y z) (Bq x y z) (Bp x y z)) (.int 2)=.ok (Ao Aa (Bp x y z)):=rfl;have ad:C1 .Add (.lst [.int V0,.int V1,.int V2]) (.lst [.int M01,.int M02,.int M12])=.ok (.lst [.int V0,.int V1,.int V2,.int M01,.int M02,.int M12]):=rfl;simp[Nc,Df.run,BJ,e1,e2,cp,sq,k0,k1,k2,m01,m02,m12,ad,e3']
section
variable{Y:Gam}{ns:Ac Ad}{p at_:Ad}{φ:Ad->Ad}
end
noncomputable def e0R:R3:=(1,0,0)
noncomputable def e1R:R3:=(0,1,0)
noncomputable def e2R:R3:=(0,0,1)
noncomputable def e3R:R3:=(1,1,1)
theorem YM(hp:P4 p):In3 p e0R/\In3 p e1R/\In3 p e2R/\In3 p e3R:=by
 have z:0<=(0:Ad)/\(0:Ad)<p:=⟨by decide,hp.pos⟩
 have o:0<=(1:Ad)/\(1:Ad)<p:=⟨by decide,by have:=hp.lo;omega⟩
 exact⟨⟨o,z,z⟩,⟨z,o,z⟩,⟨z,z,o⟩,⟨o,o,o⟩⟩
theorem bh(hp:P4 p):Hs p e0R e1R e2R e3R:=by
 rcases hp with rfl|rfl|rfl|rfl<;>exact⟨by decide,by decide,by decide,by decide⟩
structure Frm (p:Ad) (f0 f1 f2 f3:R3):Prop where
 i0:In3 p f0
 i1:In3 p f1
 i2:In3 p f2
 i3:In3 p f3
 gen:Hs p f0 f1 f2 f3
def Pr(p:Ad)(x y:R3):Prop:=∃ d,d%p≠0/\CgR p x (AO d y)
section
variable{p:Ad}{a b c x y z f g h:R3}{k:Ad}
theorem Mf(x:R3):AO 1 x=x:=by unfold AO;simp only[CK]
theorem Pr.rfl(hp:P4 p):Pr p x x:=⟨1,hp.o1,CgR.of (Mf x).symm⟩
theorem Pr.trans(hp:P4 p)(i:Pr p x y)(j:Pr p y z):Pr p x z:=by
 obtain⟨d,dz,e⟩:=i;obtain⟨d',dz',e'⟩:=j;exact⟨d*d',By hp dz dz',e.trans ((CgR.sc Cg.rfl e').trans (CgR.of (Ia _ _ _)))⟩
theorem Pr.symm(hp:P4 p)(i:Pr p x y):Pr p y x:=by
 obtain⟨d,dz,e⟩:=i;obtain⟨u,u1,u2,u3⟩:=GN hp dz;have uz:u%p≠0:=by rw[AD (by omega) u2];omega
 have o:Cg p (u*d) 1:=by
  show u*d%p=1%p;rw[BK,u3,AD (by decide) (by have:=hp.lo;omega)]
 refine⟨u,uz,?_⟩;have q:=CgR.sc (k:=u) (k':=u) Cg.rfl e;rw[Ia]at q;exact(q.trans ((CgR.sc o CgR.rfl).trans (CgR.of (Mf y)))).symm
theorem Pr.cg(hp:P4 p)(e:CgR p x y):Pr p x y:=⟨1,hp.o1,e.trans (CgR.of (Mf y).symm)⟩
theorem NT{a' b' c' x':R3}(ha:CgR p a a')(hb:CgR p b b')(hc:CgR p c c')(hx:CgR p x x'):CgR p (ap a b c x) (ap a' b' c' x'):=⟨FX ha hx,FX hb hx,FX hc hx⟩
theorem Pr.ap(i:Pr p x y):Pr p (OvC.ap a b c x) (OvC.ap a b c y):=by
 obtain⟨d,dz,e⟩:=i;exact⟨d,dz,(NT CgR.rfl CgR.rfl CgR.rfl e).trans (CgR.of (Wi a b c y d))⟩
theorem vD(k:Ad)(a b c x:R3):ap (AO k a) (AO k b) (AO k c) x=AO k (ap a b c x):=by
 unfold ap AO Ay;refine Bo ?_ (Bo ?_ ?_)<;>(simp only;grind)
theorem Pr.tab{a' b' c':R3}(kz:k%p≠0)(ha:CgR p a (AO k a'))(hb:CgR p b (AO k b'))(hc:CgR p c (AO k c')):Pr p (OvC.ap a b c x) (OvC.ap a' b' c' x):=
 ⟨k,kz,(NT ha hb hc CgR.rfl).trans (CgR.of (vD k a' b' c' x))⟩
theorem ck(a b c x y z v:R3):ap (rm a x y z) (rm b x y z) (rm c x y z) v=ap a b c (ap x y z v):=by
 unfold ap rm Ay Bv Bq Bp;refine Bo ?_ (Bo ?_ ?_)<;>(simp only;grind)
theorem NU(a b c v:R3):ap (bk0 a b c) (bk1 a b c) (bk2 a b c) (ap a b c v)=AO (Ak a b c) v:=by
 unfold ap AO Ay bk0 bk1 bk2 Bv Bq Bp crs Ak det;refine Bo ?_ (Bo ?_ ?_)<;>(simp only;grind)
theorem vN(a b c x y z:R3):Ak (rm a x y z) (rm b x y z) (rm c x y z)=Ak a b c*Ak x y z:=by
 unfold Ak det rm Ay Bv Bq Bp;grind
end
noncomputable def tri(g:R3):Ac Ad:=[g.1,g.2.1,g.2.2]
theorem PU{y:R3}(hp:P4 p)(ix:In3 p x)(iy:In3 p y)(lx:AS p (tri x)=Ab 1)(ly:AS p (tri y)=Ab 1)(h:Pr p x y):x=y:=by
 obtain⟨d,dz,e⟩:=h;have p1:1<p:=by have:=hp.lo;omega
 have rs:(tri x).map (λx=>x%p)=((tri y).map λx=>d*x).map (λx=>x%p):=by
  simp only[tri,BP,Gy];rw[show x.1%p=d*y.1%p from e.1,show x.2.1%p=d*y.2.1%p from e.2.1,show x.2.2%p=d*y.2.2%p from e.2.2]
 have el:=JG hp dz (f:=λx=>d*x) (λ_=>rfl) (tri y)
 rw[ly,<-KI rs,lx,D5,Cc,DB]at el;have o:Cg p d 1:=by
  show d%p=1%p;rw[<-el,AD (by decide) p1]
 have q:=e.trans ((CgR.sc o CgR.rfl).trans (CgR.of (Mf y)));have same:∀{u v:Ad},(0<=u/\u<p)->(0<=v/\v<p)->Cg p u v->u=v:=λhu hv huv=>by
  have:=show _%p=_%p from huv
  rwa [AD hu.1 hu.2,AD hv.1 hv.2]at this
 exact Bo (same ix.1 iy.1 q.1) (Bo (same ix.2.1 iy.2.1 q.2.1) (same ix.2.2 iy.2.2 q.2.2))
theorem Sg{a b c:R3}(hp:P4 p)(nz:Ak a b c%p≠0):∃ l t,AS p (nine a b c)=Ab l/\DX p l t/\t%p≠0/\GoodR p (fmR p t a) (fmR p t b) (fmR p t c)/\AS p (nine (fmR p t a) (fmR p t b) (fmR p t c))=Ab 1:=by
 have p0:=hp.pos;obtain⟨l,el⟩:=LW nz;obtain⟨lz,_,_⟩:=Ir p0 el;obtain⟨t,t1,t2,t3⟩:=GN hp lz;have tz:t%p≠0:=by rw[AD (by omega) t2];omega
 have ff:∀ x,(t*(x%p)%p)%p=t*x%p:=λx=>by rw[AQ _ (Bs p),Bg t (x%p) p,AQ _ (Bs p),<-Bg]
 have lv:=JG hp tz (f:=λx=>t*(x%p)%p) ff (nine a b c)
 rw[el]at lv;refine⟨l,t,el,⟨t1,t2,t3⟩,tz,⟨hp,FZ p0 t a,FZ p0 t b,FZ p0 t c,G2 ((Kd (E3 p t a) (E3 p t b) (E3 p t c)).trans (Cg.of (Kl t t t a b c))) (By hp (nz3 hp tz tz tz) nz)⟩,?_⟩;have e:AS p ((nine a b c).map λx=>t*(x%p)%p)=Ab 1:=by rw[lv,D5,BK,t3]
 exact e
structure Led (p:Ad) (a b c f0 f1 f2 f3 g0 g1 g2 g3:R3):Prop where
 h0:Pr p g0 (ap a b c f0)
 h1:Pr p g1 (ap a b c f1)
 h2:Pr p g2 (ap a b c f2)
 h3:Pr p g3 (ap a b c f3)
section
variable{p:Ad}{a b c a' b' c' f0 f1 f2 f3 g0 g1 g2 g3 h0 h1 h2 h3:R3}
theorem b6(hp:P4 p)(T:GoodR p a b c)(T':GoodR p a' b' c')(L:Led p a b c e0R e1R e2R e3R f0 f1 f2 f3)(L':Led p a' b' c' e0R e1R e2R e3R g0 g1 g2 g3):∃ x y z,GoodR p x y z/\AS p (nine x y z)=Ab 1/\Led p x y z f0 f1 f2 f3 g0 g1 g2 g3:=by
 have zB:Ak (bk0 a b c) (bk1 a b c) (bk2 a b c)%p≠0:=by rw[K6];exact By hp T.nz T.nz
 have zR:Ak (rm a' (bk0 a b c) (bk1 a b c) (bk2 a b c)) (rm b' (bk0 a b c) (bk1 a b c) (bk2 a b c)) (rm c' (bk0 a b c) (bk1 a b c) (bk2 a b c))%p≠0:=by rw[vN];exact By hp T'.nz zB
 obtain⟨l,t,_,_,tz,gd,l1⟩:=Sg hp zR;refine⟨_,_,_,gd,l1,?_⟩;have key:∀{e f g:R3},Pr p f (ap a b c e)->Pr p g (ap a' b' c' e)->Pr p g (ap (fmR p t (rm a' (bk0 a b c) (bk1 a b c) (bk2 a b c))) (fmR p t (rm b' (bk0 a b c) (bk1 a b c) (bk2 a b c))) (fmR p t (rm c' (bk0 a b c) (bk1 a b c) (bk2 a b c))) f):=λ{e f g} hf hg=>by
  refine hg.trans hp (Pr.symm hp ?_);refine(Pr.tab tz (E3 p t _) (E3 p t _) (E3 p t _)).trans hp ?_;rw[ck];refine Pr.ap ((Pr.ap hf).trans hp ?_);rw[NU];exact⟨_,T.nz,CgR.rfl⟩
 exact⟨key L.h0 L'.h0,key L.h1 L'.h1,key L.h2 L'.h2,key L.h3 L'.h3⟩
end
section
variable{Y:Gam}{ns:Ac Ad}{p:Ad}
theorem kY(hp:P4 p):GoodR p e0R e1R e2R/\AS p (nine e0R e1R e2R)=Ab 1:=by
 obtain⟨i0,i1,i2,i3⟩:=YM hp;refine⟨⟨hp,i0,i1,i2,(bh hp).1⟩,?_⟩;rcases hp with rfl|rfl|rfl|rfl<;>decide
end
noncomputable def L3(a b c:R3):Ac D:=[DY a,DY b,DY c]
def Ij(i j:Ad):Prop:=(i=0/\j=1)\/(i=0/\j=2)\/(i=1/\j=0)\/(i=1/\j=2)\/(i=2/\j=0)\/(i=2/\j=1)
theorem zU{i j:Ad}(hi:m%3=i)(hj:(i+1+m/3%2)%3=j):Ij i j:=by
 have i3:i=0\/i=1\/i=2:=by omega
 have e2:m/3%2=0\/m/3%2=1:=by omega
 rcases i3 with z|z|z<;>rcases e2 with e|e<;>rw[z,e]at hj
 .exact .inl ⟨z,hj.symm⟩
 .exact .inr (.inl ⟨z,hj.symm⟩)
 .exact .inr (.inr (.inr (.inl ⟨z,hj.symm⟩)))
 .exact .inr (.inr (.inl ⟨z,hj.symm⟩))
 .exact .inr (.inr (.inr (.inr (.inl ⟨z,hj.symm⟩))))
 .exact .inr (.inr (.inr (.inr (.inr ⟨z,hj.symm⟩))))
def JJ(Y:Gam)(mid:Ag)(ns:Ac Ad):Prop:=∀ k:Ad,0<=k->∃ m,0<=m/\Y.F mid [scr ns,.int k]=.ok (.int m)
section
variable{Y:Gam}{ns:Ac Ad}{mid:Ag}{p:Ad}{a b c:R3}{s2 s4 s5 s6 s7 s8:Sl}
end
theorem MT{lo hi:Ad}(h1:-1000<=lo)(h2:lo<=1000)(h3:-1000<=hi)(h4:hi<=1000):CP lo hi=.ok (CS lo (hi-lo).toNat):=by
 unfold CP;rw[AI (by refine⟨⟨by omega,by omega⟩,⟨by omega,by omega⟩,?_⟩;omega)]
theorem Vz(h:1<p):AS p [0,0,1]=Ab 1:=by
 simp[AS,AD (by decide:(0:Ad)<=1) h]
theorem zQ(h:1<p)(z:Ad):AS p [0,1,z]=Ab 1:=by
 simp[AS,AD (by decide:(0:Ad)<=1) h]
theorem RB(h:1<p)(y z:Ad):AS p [1,y,z]=Ab 1:=by
 simp[AS,AD (by decide:(0:Ad)<=1) h]
noncomputable def prd(a b:R3):C6:=⟨a.1*b.1,a.2.1*b.2.1,a.2.2*b.2.2,a.1*b.2.1+a.2.1*b.1,a.1*b.2.2+a.2.2*b.1,a.2.1*b.2.2+a.2.2*b.2.1⟩
theorem Pz{C E:C6}(hp:P4 p)(h:PrC p C E)(z:Ak (tw0 E) (tw1 E) (tw2 E)%p≠0):Ak (tw0 C) (tw1 C) (tw2 C)%p≠0:=by
 obtain⟨d,dz,cg⟩:=h;obtain⟨x0,x1,x2⟩:=VP cg;exact G2 ((Kd x0 x1 x2).trans (Cg.of (mC d E))) (By hp (nz3 hp dz dz dz) z)
theorem PB{p l:Ad}(hp:P4 p)(el:AS p (tri r)=Ab l):∃ u,DX p l u/\In3 p (fmR p u r)/\AS p (tri (fmR p u r))=Ab 1/\Pr p (fmR p u r) r/\fmI p u (tri r)=tri (fmR p u r):=by
 have p0:=hp.pos;obtain⟨lz,_,_⟩:=Ir p0 el;obtain⟨t,t1,t2,t3⟩:=GN hp lz;have tz:t%p≠0:=by rw[AD (by omega) t2];omega
 have ff:∀ x,(t*(x%p)%p)%p=t*x%p:=λx=>by rw[AQ _ (Bs p),Bg t (x%p) p,AQ _ (Bs p),<-Bg]
 have lv:=JG hp tz (f:=λx=>t*(x%p)%p) ff (tri r)
 rw[el,D5,BK,t3]at lv;exact⟨t,⟨t1,t2,t3⟩,FZ p0 t r,lv,⟨t,tz,E3 p t r⟩,rfl⟩
theorem Py(h:AS p (tri g)=Ae):CgR p g (0,0,0):=by
 have hz:=Jb.mp h;have k:∀ x∈tri g,Cg p x 0:=λx hx=>by show x%p=0%p;rw[hz x hx,Bt]
 exact⟨k _ (by simp[tri]),k _ (by simp[tri]),k _ (by simp[tri])⟩
theorem Tv(h:CgR p g (0,0,0)):AS p (tri g)=Ae:=by
 refine Jb.mpr λx hx=>?_
 have k:∀{x:Ad},Cg p x 0->x%p=0:=λ{x} h=>by rw[show x%p=_ from h,Bt]
 simp only[tri,At,AR,BO]at hx;rcases hx with rfl|rfl|rfl
 .exact k h.1
 .exact k h.2.1
 .exact k h.2.2
theorem L6{p l:Ad}{a b c f g:R3}(hp:P4 p)(z:Ak a b c%p≠0)(lf:AS p (tri f)=Ab l)(h:CgR p g (ap a b c f)):∃ l,AS p (tri g)=Ab l:=by
 cases el:AS p (tri g) with
 |some l=>exact⟨l,rfl⟩
 |none=>
  have q0:CgR p (ap a b c f) (0,0,0):=h.symm.trans (Py el);have q1:CgR p (AO (Ak a b c) f) (0,0,0):=by
   have:=NT (CgR.rfl (a:=bk0 a b c)) (CgR.rfl (a:=bk1 a b c)) (CgR.rfl (a:=bk2 a b c)) q0;rw[NU]at this;refine this.trans (CgR.of ?_);unfold ap Ay;simp
  obtain⟨u,uz,o⟩:=Qc hp z;have q2:CgR p f (0,0,0):=by
   have w:=CgR.sc (k:=u) (k':=u) Cg.rfl q1;rw[Ia]at w;refine((CgR.of (Mf f).symm).trans (CgR.sc o.symm CgR.rfl)).trans (w.trans (CgR.of ?_));unfold AO;simp
  rw[Tv q2]at lf;cases lf
theorem VC(x:R3):flD 5 (Ao Aa x)=Aa/\eqD (Ao Aa x) (Ao Aa x)=Aa:=by
 refine⟨rfl,?_⟩;show eqDs (ds [x.1,x.2.1,x.2.2]) (ds [x.1,x.2.1,x.2.2])=Aa;rw[Vc]
section
variable{Y:Gam}{ns:Ac Ad}{p:Ad}{C:C6}{s3 s4 s5 s6 s7 s8:Sl}
end
noncomputable def LK:Ss:=(.cons (.asg 2 Af (.bin .FloorDiv (.var 2) (.int 1000033))) .nil)
noncomputable def LI:Df:=⟨4,Af,(.cons (.asg 2 Af (.int 0)) (.cons (.ife (.cmp .Gt (.bi .len (.cons (.var 0) .nil)) (.int 0)) (.cons (.asg 2 Af (.idx (.var 0) (.bin .Mod (.var 1) (.bi .len (.cons (.var 0) .nil))))) .nil) .nil) (.cons (.ife (.cmp .Eq (.bin .Mod (.bi .len (.cons (.var 0) .nil)) (.int 2)) (.int 0)) (.cons (.fors 3 (.rng (.bi .min (.cons (.int 60) (.cons (.bin .FloorDiv (.var 1) (.bi .max (.cons (.int 1) (.cons (.bi .len (.cons (.var 0) .nil)) .nil)))) .nil)))) LK) (.cons (.ret (.bin .Mod (.var 2) (.int 1000033))) .nil)) .nil) (.cons (.ret (.bin .Mod (.bin .Mult (.bin .Mod (.bin .Mult (.bin .Add (.bin .Add (.bin .Mod (.var 2) (.int 1000003)) (.bin .Mult (.int 7919) (.var 1))) (.int 11)) (.int 48271)) (.int 1000033)) (.int 69621)) (.int 1000033))) .nil))))⟩
section
variable{Y:Gam}{ns:Ac Ad}
theorem cJ(k x:Ad)(n:Ag):∃ y s3,C8 (BH Y 3 LK) (CS 0 n) [sh (scr ns),si k,si x,Ae]=.next [sh (scr ns),si k,si y,s3]:=by
 obtain⟨U',e,y,s3,rfl⟩:=Ps (body:=BH Y 3 LK) (λU=>∃ y s3,U=[sh (scr ns),si k,si y,s3]) (CS 0 n) [sh (scr ns),si k,si x,Ae] ⟨x,Ae,rfl⟩ (by
  rintro z hz U ⟨y,s3,rfl⟩;obtain⟨j,_,rfl⟩:=TW hz;exact⟨[sh (scr ns),si k,si (y/1000033),si (0+(j:Ad))],by simp[BH,LK],_,_,rfl⟩)
 exact⟨y,s3,e⟩
theorem rO(Y:Gam)(ns:Ac Ad)(hl:ns.length<=63)(k:Ad)(k0:0<=k):∃ m,0<=m/\LI.run Y [scr ns,.int k]=.ok (.int m):=by
 have m1:DW 7919 k=Aa:=HS (by decide) (by decide)
 have m2:∀ x,DW x 48271=Aa:=λx=>M8 (by decide) (by decide)
 have m3:∀ x,DW x 69621=Aa:=λx=>M8 (by decide) (by decide)
 generalize hn:(ns.length:Ad)=n;have n0:0<=n:=by omega
 have n1:n<=63:=by omega
 have len:biD .len [scr ns]=.ok (.int n):=by rw[<-hn];show R.ok (D.int ((ns.map D.int).length:Ag))=_;rw[AZ]
 have fin:∀ x hi:Ad,0<=hi->hi<=60->∃ y s3,Q8 Y 3 LK [sh (scr ns),si k,si x,Ae] (CP 0 hi)=.next [sh (scr ns),si k,si y,s3]:=λx hi h0 h1=>by
  rw[aX h0 (by omega)]
  exact cJ (Y:=Y) (ns:=ns) k x hi.toNat
 have mx:0<(if 1<n then n else 1)/\(if 1<n then n else 1)<1073741824:=by split<;>omega
 generalize hM:(if 1<n then n else 1)=M at mx
 have hi:∀ q:Ad,0<=q->0<=(if q<60 then q else 60)/\(if q<60 then q else 60)<=60:=λq h=>by split<;>omega
 have q0:0<=k/M:=Wt k0 (by omega)
 obtain⟨u1,u2⟩:=hi _ q0;by_cases hp:0<n
 .have r0:0<=k%n:=AK _ (by omega)
  have r1:k%n<ns.length:=by rw[hn];exact AG _ hp
  have g:=lF r0 r1;generalize ns.getD (k%n).toNat 0=x at g;by_cases h2:n%2=0
  .obtain⟨y,s3,e⟩:=fin x _ u1 u2;refine⟨y%1000033,AK _ (by decide),?_⟩
   have gx:CF (scr ns) (.int (k%n))=.ok (.int x):=g;simp[LI,Df.run,BJ,len,hp,gx,h2,hM,mx.1,mx.2,e]
  .refine⟨((x%1000003+7919*k+11)*48271%1000033)*69621%1000033,AK _ (by decide),?_⟩
   have gx:CF (scr ns) (.int (k%n))=.ok (.int x):=g;simp[LI,Df.run,BJ,len,hp,gx,h2,m1,m2,m3]
 .have z:n=0:=by omega
  subst z;obtain⟨y,s3,e⟩:=fin 0 _ u1 u2;refine⟨y%1000033,AK _ (by decide),?_⟩
  have hM':M=1:=by rw[<-hM];rfl
  subst hM';simp at e;simp[LI,Df.run,BJ,len,e]
end
noncomputable def Qo:Df:=⟨3,Af,(.cons (.ret (.call 17 (.cons (.var 0) (.cons (.call 23 (.cons (.var 1) (.cons (.var 2) .nil))) .nil)))) .nil)⟩
theorem M5{a b:R3}(hp:P4 p)(h:CgR p (crs a b) (0,0,0))(la:AS p (tri a)=Ab 1)(lb:AS p (tri b)=Ab 1):Pr p b a:=by
 obtain⟨h0,h1,h2⟩:=h;have p1:1<p:=by have:=hp.lo;omega
 have sw:∀{x y:Ad},Cg p (x-y) 0->Cg p x y:=λ{x y} h=>by
  have:=h.add (Cg.rfl (a:=y))
  rwa [Int.sub_add_cancel,C9]at this
 have e0:Cg p (a.2.1*b.2.2) (a.2.2*b.2.1):=sw h0;have e1:Cg p (a.2.2*b.1) (a.1*b.2.2):=sw h1;have e2:Cg p (a.1*b.2.1) (a.2.1*b.1):=sw h2;have one:∀{x:Ad},x%p=1->Cg p x 1:=λ{x} h=>by show x%p=1%p;rw[h,AD (by decide) p1]
 have fin:∀ k,CgR p b (AO k a)->Pr p b a:=λk hk=>by
  refine⟨k,λz=>?_,hk⟩
  have:CgR p b (0,0,0):=by
   have kz:Cg p k 0:=by show k%p=0%p;rw[z,Bt]
   refine hk.trans ((CgR.sc kz CgR.rfl).trans (CgR.of ?_));unfold AO;simp
  rw[Tv this]at lb;cases lb
 unfold tri AS at la;by_cases z0:a.1%p=0
 .rw[AI z0]at la;have c0:Cg p a.1 0:=by show a.1%p=0%p;rw[z0,Bt]
  unfold AS at la;by_cases z1:a.2.1%p=0
  .rw[AI z1]at la;have c1:Cg p a.2.1 0:=by show a.2.1%p=0%p;rw[z1,Bt]
   unfold AS at la;by_cases z2:a.2.2%p=0
   .rw[AI z2]at la;cases la
   .rw[AV z2,Cc]at la;have c2:=one la;refine fin b.2.2 ⟨?_,?_,?_⟩
    .have:=(c2.symm.mul (Cg.rfl (a:=b.1))).trans e1;rw[CK]at this;exact this.trans (Cg.of (BK _ _))
    .have:=(c2.symm.mul (Cg.rfl (a:=b.2.1))).trans e0.symm;rw[CK]at this;exact this.trans (Cg.of (BK _ _))
    .have:=(Cg.rfl (a:=b.2.2)).mul c2;rw[DB]at this;exact this.symm
  .rw[AV z1,Cc]at la;have c1:=one la;refine fin b.2.1 ⟨?_,?_,?_⟩
   .have:=(c1.symm.mul (Cg.rfl (a:=b.1))).trans e2.symm;rw[CK]at this;exact this.trans (Cg.of (BK _ _))
   .have:=(Cg.rfl (a:=b.2.1)).mul c1;rw[DB]at this;exact this.symm
   .have:=(c1.symm.mul (Cg.rfl (a:=b.2.2))).trans e0;rw[CK]at this;exact this.trans (Cg.of (BK _ _))
 .rw[AV z0,Cc]at la;have c0:=one la;refine fin b.1 ⟨?_,?_,?_⟩
  .have:=(Cg.rfl (a:=b.1)).mul c0;rw[DB]at this;exact this.symm
  .have:=(c0.symm.mul (Cg.rfl (a:=b.2.1))).trans e2;rw[CK]at this;exact this.trans (Cg.of (BK _ _))
  .have:=(c0.symm.mul (Cg.rfl (a:=b.2.2))).trans e1.symm;rw[CK]at this;exact this.trans (Cg.of (BK _ _))
def VL(Y:Gam):Prop:=∀(p:Ad)(a b:R3),P4 p->In3 p a->In3 p b->AS p (tri a)=Ab 1->AS p (tri b)=Ab 1->a≠b->∃ y,In3 p y/\AS p (tri y)=Ab 1/\Pr p y (crs a b)/\Y.F 57 [.int p,Ao Aa a,Ao Aa b]=.ok (Ao Aa y)
theorem rR(hc:UU Y)(hf:Nf Y)(p:Ad)(a b:R3)(hp:P4 p)(ia:In3 p a)(ib:In3 p b)(la:AS p (tri a)=Ab 1)(lb:AS p (tri b)=Ab 1)(ne:a≠b):∃ y,In3 p y/\AS p (tri y)=Ab 1/\Pr p y (crs a b)/\Qo.run Y [.int p,Ao Aa a,Ao Aa b]=.ok (Ao Aa y):=by
 have e1:=hc a b ((Cv hp ia).b3 (by decide)) ((Cv hp ib).b3 (by decide)) ne
 cases el:AS p (tri (crs a b)) with
 |none=>exact absurd (PU hp ib ia lb la (M5 hp (Py el) la lb)).symm ne
 |some l=>
  obtain⟨u,iu,j,l1,pr,ef⟩:=PB hp el;have e2:=hf p Aa _ l u hp el iu;rw[ef]at e2;have e2':Y.F 17 [.int p,Ao Aa (crs a b)]=.ok (Ao Aa (fmR p u (crs a b))):=e2;refine⟨_,j,l1,pr,?_⟩;generalize Ao Aa (fmR p u (crs a b))=Y_ at *;simp[Qo,Df.run,BJ,e1,e2']
theorem FW{x:Ad}(hp:P4 p)(kz:k%p≠0):k*x%p=0↔x%p=0:=by
 constructor
 .intro z;exact Dz λn=>By hp kz n z
 .intro z;rw[Bg,z,Cw,Bt]
section
variable{Y:Gam}{ns:Ac Ad}{p:Ad}{C:C6}{s3 s4 s5 s6 s7 s8:Sl}
end
def NF(p:Ad)(x:R3):Prop:=In3 p x/\AS p (tri x)=Ab 1
noncomputable def ptI(p n:Ad):R3:=if n=0 then (0,0,1) else if n<=p then (0,1,n-1) else (1,(n-p-1)/p,(n-p-1)%p)
noncomputable def El(p:Ad):Ac R3:=(A4 (p*p+p+1).toNat).map fun(n:Ag)=>ptI p n
theorem xK{n:Ad}(hp:P4 p)(h0:0<=n)(h1:n<p*p+p+1):NF p (ptI p n):=by
 have p1:1<p:=by have:=hp.lo;omega
 have p0:=hp.pos;unfold ptI;by_cases z:n=0
 .rw[AI z];exact⟨⟨⟨by decide,p0⟩,⟨by decide,p0⟩,⟨by decide,p1⟩⟩,Vz p1⟩
 .rw[AV z];by_cases z1:n<=p
  .rw[AI z1];exact⟨⟨⟨G9 0,p0⟩,⟨(by decide:(0:Ad)<=1),p1⟩,⟨by show 0<=n-1;omega,by show n-1<p;omega⟩⟩,zQ p1 _⟩
  .rw[AV z1];have d0:0<=(n-p-1)/p:=Wt (by omega) (by omega)
   have d1:(n-p-1)/p<p:=by rw[Int.ediv_lt_iff_lt_mul p0];omega
   exact⟨⟨⟨(by decide:(0:Ad)<=1),p1⟩,⟨d0,d1⟩,⟨AK _ (by omega),AG _ p0⟩⟩,RB p1 _ _⟩
theorem aw(hp:P4 p)(h:NF p x):∃ n:Ad,0<=n/\n<p*p+p+1/\x=ptI p n:=by
 obtain⟨⟨i0,i1,i2⟩,l⟩:=h;have p1:1<p:=by have:=hp.lo;omega
 have p0:=hp.pos;have pp:=JV p0 p0;obtain⟨x0,x1,x2⟩:=x;simp only at i0 i1 i2;unfold tri AS at l;simp only at l;rw[AD i0.1 i0.2]at l;by_cases z0:x0=0
 .rw[AI z0]at l;unfold AS at l;rw[AD i1.1 i1.2]at l;by_cases z1:x1=0
  .rw[AI z1]at l;unfold AS at l;rw[AD i2.1 i2.2]at l;by_cases z2:x2=0
   .rw[AI z2]at l;cases l
   .rw[AV z2,Cc]at l;exact⟨0,G9 0,by omega,by rw[z0,z1,l];rfl⟩
  .rw[AV z1,Cc]at l;refine⟨x2+1,by omega,by omega,?_⟩
   unfold ptI;rw[AV (by omega),AI (by omega),z0,l,Int.add_sub_cancel]
 .rw[AV z0,Cc]at l;have m1:p*x1<=p*(p-1):=Int.mul_le_mul_of_nonneg_left (by omega) (by omega)
  have m0:0<=p*x1:=GY (by omega) i1.1
  rw[Int.mul_sub,DB]at m1;refine⟨p+1+p*x1+x2,by omega,by omega,?_⟩
  unfold ptI;have e:p+1+p*x1+x2-p-1=x2+p*x1:=by omega
  rw[AV (by omega),AV (by omega),e,Int.add_mul_ediv_left _ _ (by omega),Int.ediv_eq_zero_of_lt i2.1 i2.2,Int.add_mul_emod_self_left,AD i2.1 i2.2,C9,l]
theorem Kc(hp:P4 p):x∈El p↔NF p x:=by
 have p0:=hp.pos;have pp:=JV p0 p0;constructor
 .intro h;obtain⟨n,hn,rfl⟩:=BL.mp h;have:=A3.mp hn;exact xK hp (by omega) (by omega)
 .intro h;obtain⟨n,n0,n1,rfl⟩:=aw hp h;refine BL.mpr ⟨n.toNat,A3.mpr (by omega),?_⟩
  rw[Wx n0]
theorem S8(hp:P4 p):(El p).Nodup:=by
 rcases hp with rfl|rfl|rfl|rfl<;>decide+kernel
theorem Uz{α:Type}[DecidableEq α]:∀{l1 l2:Ac α},l1.Nodup->(∀ x∈l1,x∈l2)->l1.length<=l2.length
 |[],_,_,_=>Em _
 |x::l1,l2,nd,h=>by
  obtain⟨n1,n2⟩:=BZ.mp nd;have hx:=h x Az;have:=Uz (l1:=l1) (l2:=l2.erase x) n2 λy hy=>by
   have hy2:=h y (Au _ hy);have ne:y≠x:=λe=>n1 (e ▸ hy)
   exact(WO ne).mpr hy2
  rw[Da hx]at this;have l0:0<l2.length:=List.length_pos_of_mem hx;rw[BU];omega
theorem S7{α β:Type}{f:α->β}:∀{l:Ac α},l.Nodup->(∀ x∈l,∀ y∈l,f x=f y->x=y)->(l.map f).Nodup
 |[],_,_=>FK
 |x::l,nd,h=>by
  obtain⟨n1,n2⟩:=BZ.mp nd;rw[BP,BZ];refine⟨λm=>?_,S7 n2 λy hy z hz=>h y (Au _ hy) z (Au _ hz)⟩
  obtain⟨y,hy,e⟩:=BL.mp m;have:=h y (Au _ hy) x Az e;exact n1 (this ▸ hy)
noncomputable def nrm(p:Ad)(r:R3):R3:=open Classical in if h:∃ y,NF p y/\Pr p y r then HH h else r
theorem KQ{p l:Ad}(hp:P4 p)(el:AS p (tri r)=Ab l):NF p (nrm p r)/\Pr p (nrm p r) r:=by
 have h:∃ y,NF p y/\Pr p y r:=by
  obtain⟨u,iu,j,l1,pr,_⟩:=PB hp el;exact⟨_,⟨j,l1⟩,pr⟩
 unfold nrm;rw[dif_pos h];exact D0 h
theorem TX{a b c x:R3}(hp:P4 p)(z:Ak a b c%p≠0)(hx:NF p x):NF p (nrm p (ap a b c x))/\Pr p (nrm p (ap a b c x)) (ap a b c x):=by
 obtain⟨l,el⟩:=L6 hp z hx.2 CgR.rfl;exact KQ hp el
theorem Mj{y:R3}(hp:P4 p)(hx:NF p x)(hy:NF p y)(h:Pr p x y):x=y:=PU hp hx.1 hy.1 hx.2 hy.2 h
theorem Te{a b c x:R3}(hp:P4 p)(z:Ak a b c%p≠0)(hx:NF p x):nrm p (ap (bk0 a b c) (bk1 a b c) (bk2 a b c) (nrm p (ap a b c x)))=x:=by
 obtain⟨h1,h2⟩:=TX hp z hx;have zB:Ak (bk0 a b c) (bk1 a b c) (bk2 a b c)%p≠0:=by rw[K6];exact By hp z z
 obtain⟨h3,h4⟩:=TX hp zB h1;refine Mj hp h3 hx (h4.trans hp ((Pr.ap h2).trans hp ?_));rw[NU];exact⟨_,z,CgR.rfl⟩
noncomputable def q4(w:Ag)(k:Ad)(y:R3):Ad:=match w with
  |0=>y.1*y.2.2-y.2.1*y.2.1
  |1=>y.1*y.1
  |2=>y.1*y.2.1
  |_=>y.1*y.1-k*(y.2.1*y.2.1)
theorem Vi(u v x:R3):vI (prd u v) x=Ay u x*Ay v x:=by
 unfold vI prd Ay;simp only;grind
theorem No(k:Ad)(A:C6)(x:R3):vI (scC k A) x=k*vI A x:=by
 unfold vI scC;simp only;grind
noncomputable def N2(p:Ad)(C:C6):Ac R3:=(El p).filter λx=>decide (vI C x%p=0)
noncomputable def AU(pts:Ac R3):D:=.lst (pts.map (Ao Aa))
theorem SD{g:D->R Aj}{f:D->R D}{q:R3->Aj}:∀(xs:Ac R3),(∀ x∈xs,g (Ao Aa x)=.ok (q x)/\f (Ao Aa x)=.ok (Ao Aa x))->BQ g f (xs.map (Ao Aa))=.ok ((xs.filter q).map (Ao Aa))
 |[],_=>rfl
 |x::xs,h=>by
  obtain⟨h1,h2⟩:=h x (Az ..);have ih:=SD xs λy hy=>h y (Au _ hy)
  show (g (Ao Aa x)).bind _=_;rw[h1,R.bind_ok,Eo];cases hq:q x with
  |true=>
   rw[AI rfl,AI rfl,h2,R.bind_ok,show BQ g f (LB (Ao Aa) xs)=_ from ih]
   rfl
  |false=>
   rw[AV (by decide),AV (by decide)]
   exact ih
noncomputable def ZL:Ss:=(.cons (.app 1 (.tup (.cons (.int 0) (.cons (.int 1) (.cons (.var 2) .nil))))) .nil)
noncomputable def ZM:E:=(.tup (.cons (.int 1) (.cons (.var 3) (.cons (.var 4) .nil))))
noncomputable def ZK:Ss:=(.cons (.ext 1 (.comp ZM 4 (.rng (.var 0)) Cu)) .nil)
noncomputable def SF:Df:=⟨5,Aa,(.cons (.asg 1 Aa (.lst (.cons (.tup (.cons (.int 0) (.cons (.int 0) (.cons (.int 1) .nil)))) .nil))) (.cons (.fors 2 (.rng (.var 0)) ZL) (.cons (.fors 3 (.rng (.var 0)) ZK) (.cons (.ret (.var 1)) .nil))))⟩
def bf(Y:Gam):Prop:=∀ p:Ad,P4 p->Y.F 69 [.int p]=.ok (AU (El p))
theorem yL(Y:Gam)(p:Ad)(hp:P4 p):SF.run Y [.int p]=.ok (AU (El p)):=by
 rcases hp with rfl|rfl|rfl|rfl<;>kernel_rfl!
noncomputable def Oe:E:=(.cmp .Eq (.call 126 (.cons (.var 0) (.cons (.var 1) (.cons (.var 2) .nil)))) (.int 0))
noncomputable def Of:E:=(.var 2)
noncomputable def MN:Df:=⟨3,Aa,(.cons (.ret (.comp Of 2 (.e (.call 69 (.cons (.var 0) .nil))) Oe)) .nil)⟩
theorem jZ(ht:bf Y)(hv:P5 Y)(p:Ad)(C:C6)(hp:P4 p)(iC:InC p C):MN.run Y [.int p,BM C]=.ok (AU (N2 p C)):=by
 have e1:=ht p hp;have cp:BQ (cG Y [si p,sh (BM C),Ae] 2 Oe) (cF Y [si p,sh (BM C),Ae] 2 Of) ((El p).map (Ao Aa))=.ok ((N2 p C).map (Ao Aa)):=by
  refine SD (El p) λx hx=>⟨?_,?_⟩
  .have e:=hv p C x hp iC ((Kc hp).mp hx).1;generalize vI C x%p=v at *;simp[cG,Oe,e];rw[DZ];simp
  .simp[cF,Of]
 have sq:CC (AU (El p))=.ok ((El p).map (Ao Aa)):=rfl;generalize El p=A at *;generalize AU A=AA at *;simp[MN,Df.run,BJ,e1,sq,cp];rfl
theorem mD(a b c:R3):Ay (crs a b) c=Ak a b c:=by
 unfold Ay crs Ak det;grind
section
variable{Y:Gam}{p i j k d N:Ad}{PP x y u:D}{RL:Ac D}{s t s' t' v:Sl}
end
section
variable{Y:Gam}{p:Ad}{pts:Ac R3}
end
theorem vQ(k l:Ad)(a b:R3):crs (AO k a) (AO l b)=AO (k*l) (crs a b):=by
 unfold crs AO;simp only;refine Bo ?_ (Bo ?_ ?_)<;>(simp only;grind)
theorem Pr.crs{a b a' b':R3}(hp:P4 p)(h:Pr p a a')(g:Pr p b b'):Pr p (OvC.crs a b) (OvC.crs a' b'):=by
 obtain⟨d,dz,e⟩:=h;obtain⟨d',dz',e'⟩:=g;exact⟨d*d',By hp dz dz',(Nj e e').trans (CgR.of (vQ ..))⟩
noncomputable abbrev Whl(p:Ad)(C:C6):Prop:=Ak (tw0 C) (tw1 C) (tw2 C)%p≠0
noncomputable def b4(u v:R3):Ad:=u.1*v.2.2+u.2.2*v.1-2*(u.2.1*v.2.1)
section
variable{p:Ad}{a b c:R3}{C:C6}
end
noncomputable def sides:D:=.tup [.str (AN "inner"),.str (AN "on"),.str (AN "outer")]
noncomputable def MA:Df:=⟨2,Af,(.cons (.asg 1 Af (.bin .Mod (.var 1) (.bin .Add (.bin .Add (.bin .Mult (.var 0) (.var 0)) (.var 0)) (.int 1)))) (.cons (.ife (.cmp .Eq (.var 1) (.int 0)) (.cons (.ret (.tup (.cons (.int 0) (.cons (.int 0) (.cons (.int 1) .nil))))) .nil) .nil) (.cons (.ife (.cmp .LtE (.var 1) (.var 0)) (.cons (.ret (.tup (.cons (.int 0) (.cons (.int 1) (.cons (.bin .Sub (.var 1) (.int 1)) .nil))))) .nil) .nil) (.cons (.ret (.tup (.cons (.int 1) (.cons (.bin .FloorDiv (.bin .Sub (.bin .Sub (.var 1) (.var 0)) (.int 1)) (.var 0)) (.cons (.bin .Mod (.bin .Sub (.bin .Sub (.var 1) (.var 0)) (.int 1)) (.var 0)) .nil))))) .nil))))⟩
theorem pN{n:Ad}(hp:P4 p):0<p*p+p+1/\0<=n%(p*p+p+1)/\n%(p*p+p+1)<p*p+p+1:=by
 have p0:=hp.pos;have N0:0<p*p+p+1:=by have:=JV p0 p0;omega
 exact⟨N0,AK n (Wv N0),AG n N0⟩
theorem rJ(Y:Gam)(p n:Ad)(hp:P4 p):MA.run Y [.int p,.int n]=.ok (Ao Aa (ptI p (n%(p*p+p+1)))):=by
 have pp:DW p p=Aa:=HS (by have:=hp.lo;omega) (by have:=hp.hi;omega)
 have p0:=hp.pos;have ph:=hp.hi;obtain⟨N0,h0,h1⟩:=pN (n:=n) hp;have pb:p<1073741824:=by omega
 generalize hr:n%(p*p+p+1)=r at *;unfold ptI;by_cases z0:r=0
 .rw[AI z0];simp[MA,Df.run,BJ,pp,N0,hr,z0];rfl
 .rw[AV z0];by_cases z1:r<=p
  .rw[AI z1];simp[MA,Df.run,BJ,pp,N0,hr,z0,z1];rfl
  .rw[AV z1];simp[MA,Df.run,BJ,pp,N0,hr,z0,z1,p0,pb];rfl
theorem QA(C:C6)(a b c x:R3):vI (pb C a b c) x=vI C (ap a b c x):=by
 have e:ap a b c x=(x.1*(Bv a b c).1+x.2.1*(Bq a b c).1+x.2.2*(Bp a b c).1,x.1*(Bv a b c).2.1+x.2.1*(Bq a b c).2.1+x.2.2*(Bp a b c).2.1,x.1*(Bv a b c).2.2+x.2.1*(Bq a b c).2.2+x.2.2*(Bp a b c).2.2):=by
  unfold ap Ay Bv Bq Bp;simp only;refine Bo ?_ (Bo ?_ ?_)<;>(simp only;grind)
 rw[e,Vh];have e2:∀(u0 u1 u2 u3 u4 u5:Ad),vI ⟨u0,u1,u2,u3,u4,u5⟩ x=x.1*x.1*u0+x.2.1*x.2.1*u1+x.2.2*x.2.2*u2+(x.1*x.2.1*u3+x.1*x.2.2*u4+x.2.1*x.2.2*u5):=λu0 u1 u2 u3 u4 u5=>by
  unfold vI;simp only;grind
 exact e2 ..
theorem qN(C:C6)(k:Ad)(x:R3):vI C (AO k x)=k*k*vI C x:=by
 unfold vI AO;simp only;grind
theorem VO{y:R3}(hp:P4 p)(h:Pr p x y):vI C x%p=0↔vI C y%p=0:=by
 obtain⟨d,dz,e⟩:=h;have q:=(ID (D:=C) ⟨Cg.rfl,Cg.rfl,Cg.rfl,Cg.rfl,Cg.rfl,Cg.rfl⟩ e).trans (Cg.of (qN C d y));rw[show vI C x%p=_ from q]
 exact FW hp (By hp dz dz)
section
variable{p:Ad}{a b c:R3}{C:C6}
end
theorem cO(l:Ac R3):biD .len [AU l]=.ok (.int (l.length:Ad)):=by
 show R.ok (D.int ((l.map (Ao Aa)).length:Ag))=_;rw[AZ]
section
variable{p:Ad}{C R:C6}{A B P U_ x:R3}
end
section
variable{p:Ad}{C E:C6}{a b c A B P U_ A' B' P' U_' x y:R3}
theorem qL(hp:P4 p)(z:Ak a b c%p≠0)(w:Whl p E):Whl p (pb E a b c):=by
 show Ak _ _ _%p≠0;rw[Qs];exact By hp (By hp z z) w
end
noncomputable def Oj:Df:=⟨1,Af,(.cons (.ret (.idx (.lst (.cons (.int 3) (.cons (.int 5) (.cons (.int 7) (.cons (.int 5) (.cons (.int 7) (.cons (.int 11) .nil))))))) (.bin .Mod (.call 228 (.cons (.var 0) (.cons (.int 0) .nil))) (.int 6)))) .nil)⟩
theorem kA(h:JJ Y 228 ns):∃ p,P4 p/\Oj.run Y [scr ns]=.ok (.int p):=by
 obtain⟨m,m0,e⟩:=h 0 (by decide)
 have q:m%6=0\/m%6=1\/m%6=2\/m%6=3\/m%6=4\/m%6=5:=by omega
 have g:∃ p,P4 p/\Ds [.int 3,.int 5,.int 7,.int 5,.int 7,.int 11] (m%6)=.ok (.int p):=by
  rcases q with z|z|z|z|z|z<;>rw[z]
  .exact⟨3,.inl rfl,rfl⟩
  .exact⟨5,.inr (.inl rfl),rfl⟩
  .exact⟨7,.inr (.inr (.inl rfl)),rfl⟩
  .exact⟨5,.inr (.inl rfl),rfl⟩
  .exact⟨7,.inr (.inr (.inl rfl)),rfl⟩
  .exact⟨11,.inr (.inr (.inr rfl)),rfl⟩
 obtain⟨p,hp,g⟩:=g;refine⟨p,hp,?_⟩;simp[Oj,Df.run,BJ,e,g]
def UR(Y:Gam):Prop:=∀(p:Ad)(b:Aj)(xs:Ac Ad)(l t:Ad),P4 p->AS p xs=Ab l->DX p l t->Y.F 288 [.int p,Dm b xs]=.ok (.tup (ds (fmI p t xs)))
noncomputable def OG:Df:=⟨6,Af,(.cons (.asg 3 Af (.bin .Sub (.bin .Mult (.idx (.var 1) (.int 1)) (.idx (.var 2) (.int 2))) (.bin .Mult (.idx (.var 1) (.int 2)) (.idx (.var 2) (.int 1))))) (.cons (.asg 4 Af (.bin .Sub (.bin .Mult (.idx (.var 1) (.int 2)) (.idx (.var 2) (.int 0))) (.bin .Mult (.idx (.var 1) (.int 0)) (.idx (.var 2) (.int 2))))) (.cons (.asg 5 Af (.bin .Sub (.bin .Mult (.idx (.var 1) (.int 0)) (.idx (.var 2) (.int 1))) (.bin .Mult (.idx (.var 1) (.int 1)) (.idx (.var 2) (.int 0))))) (.cons (.ret (.tup (.cons (.bin .Mod (.var 3) (.var 0)) (.cons (.bin .Mod (.var 4) (.var 0)) (.cons (.bin .Mod (.var 5) (.var 0)) .nil))))) .nil))))⟩
def J8(Y:Gam):Prop:=∀(p:Ad)(q q':Aj)(a x:R3),0<p->B3 a->B3 x->Y.F 232 [.int p,Ao q a,Ao q' x]=.ok (Ao Aa (mdR p (crs a x)))
theorem eF(Y:Gam)(p:Ad)(q q':Aj)(a x:R3)(p0:0<p)(ha:B3 a)(hx:B3 x):OG.run Y [.int p,Ao q a,Ao q' x]=.ok (Ao Aa (mdR p (crs a x))):=by
 obtain⟨x0,x1,x2⟩:=FG q a;obtain⟨y0,y1,y2⟩:=FG q' x;have k:∀ {u v},Bd 300 u->Bd 300 v->EO u v=Aa:=λhu hv=>Gg hu hv (by decide) (by decide)
 simp[OG,Df.run,BJ,x0,x1,x2,y0,y1,y2,k ha.1 hx.1,k ha.1 hx.2.1,k ha.1 hx.2.2,k ha.2.1 hx.1,k ha.2.1 hx.2.1,k ha.2.1 hx.2.2,k ha.2.2 hx.1,k ha.2.2 hx.2.1,k ha.2.2 hx.2.2,p0];rfl
noncomputable def O7:Df:=⟨3,Af,(.cons (.ret (.bin .Mod (.bin .Add (.bin .Add (.bin .Mult (.idx (.var 1) (.int 0)) (.idx (.var 2) (.int 0))) (.bin .Mult (.idx (.var 1) (.int 1)) (.idx (.var 2) (.int 1)))) (.bin .Mult (.idx (.var 1) (.int 2)) (.idx (.var 2) (.int 2)))) (.var 0))) .nil)⟩
def JF(Y:Gam):Prop:=∀(p:Ad)(q q':Aj)(a x:R3),0<p->B3 a->B3 x->Y.F 233 [.int p,Ao q a,Ao q' x]=.ok (.int (Ay a x%p))
theorem dU(Y:Gam)(p:Ad)(q q':Aj)(a x:R3)(p0:0<p)(ha:B3 a)(hx:B3 x):O7.run Y [.int p,Ao q a,Ao q' x]=.ok (.int (Ay a x%p)):=by
 obtain⟨x0,x1,x2⟩:=FG q a;obtain⟨y0,y1,y2⟩:=FG q' x;have k:∀ {u v},Bd 300 u->Bd 300 v->EO u v=Aa:=λhu hv=>Gg hu hv (by decide) (by decide)
 simp[O7,Df.run,BJ,x0,x1,x2,y0,y1,y2,k ha.1 hx.1,k ha.2.1 hx.2.1,k ha.2.2 hx.2.2,p0];rfl
noncomputable def MB:E:=(.call 233 (.cons (.var 0) (.cons (.var 3) (.cons (.var 2) .nil))))
noncomputable def OE:Df:=⟨4,Af,(.cons (.ret (.call 288 (.cons (.var 0) (.cons (.comp MB 3 (.e (.var 1)) Cu) .nil)))) .nil)⟩
def Um(Y:Gam):Prop:=∀(p:Ad)(t q q':Aj)(a b c x:R3),GoodR p a b c->B3 x->(∃ l,AS p (tri x)=Ab l)->Y.F 289 [.int p,C5 t q a b c,Ao q' x]=.ok (Ao Aa (nrm p (ap a b c x)))
theorem dZ(hs:JF Y)(hf:UR Y)(p:Ad)(t q q':Aj)(a b c x:R3)(G:GoodR p a b c)(hx:B3 x)(lx:∃ l,AS p (tri x)=Ab l):OE.run Y [.int p,C5 t q a b c,Ao q' x]=.ok (Ao Aa (nrm p (ap a b c x))):=by
 have hp:=G.p4;have p0:=hp.pos;obtain⟨l0,lx⟩:=lx;obtain⟨l,el⟩:=L6 hp G.nz lx CgR.rfl;obtain⟨u,iu,j,l1,pr,ef⟩:=PB hp el;obtain⟨n1,n2⟩:=KQ hp el;have e0:fmR p u (ap a b c x)=nrm p (ap a b c x):=Mj hp ⟨j,l1⟩ n1 (pr.trans hp (n2.symm hp));have md:(tri (mdR p (ap a b c x))).map (λx=>x%p)=(tri (ap a b c x)).map (λx=>x%p):=by
  show [_%p%p,_%p%p,_%p%p]=[_%p,_%p,_%p];simp only[AQ _ (Bs p)]
 have e:=hf p Af (tri (mdR p (ap a b c x))) l u hp (by rw[KI md];exact el) iu
 rw[Pt md,ef,e0]at e;have e':Y.F 288 [.int p,.lst [.int (Ay a x%p),.int (Ay b x%p),.int (Ay c x%p)]]=.ok (Ao Aa (nrm p (ap a b c x))):=e;have b3:∀ {r},In3 p r->B3 r:=λh=>(Cv hp h).b3 (by decide)
 have k:∀ r,In3 p r->cF Y [si p,sh (C5 t q a b c),sh (Ao q' x),Ae] 3 MB (Ao q r)=.ok (.int (Ay r x%p)):=λr hr=>by
  have e1:=hs p q q' r x p0 (b3 hr) hx;generalize Ao q r=rr at *;generalize Ao q' x=xx at *;simp[cF,MB,e1]
 have g:∀ d,cG Y [si p,sh (C5 t q a b c),sh (Ao q' x),Ae] 3 Cu d=.ok Aa:=λ_=>rfl
 have cp:BQ (cG Y [si p,sh (C5 t q a b c),sh (Ao q' x),Ae] 3 Cu) (cF Y [si p,sh (C5 t q a b c),sh (Ao q' x),Ae] 3 MB) [Ao q a,Ao q b,Ao q c]=.ok [.int (Ay a x%p),.int (Ay b x%p),.int (Ay c x%p)]:=by
  simp[BQ,g,k a G.ia,k b G.ib,k c G.ic]
 have sq:=RH t q a b c;generalize Ao Aa (nrm p (ap a b c x))=Y_ at *;generalize Ao q' x=xx at *;generalize C5 t q a b c=TT at *;generalize [Ao q a,Ao q b,Ao q c]=LL at *;simp[OE,Df.run,BJ,sq,cp,e']
noncomputable def LO:Ss:=(.cons (.app 2 (.call 289 (.cons (.var 0) (.cons (.var 1) (.cons (.tup (.cons (.int 1) (.cons (.var 3) (.cons (.bin .Mult (.var 3) (.var 3)) .nil)))) .nil))))) .nil)
noncomputable def Mz:Df:=⟨4,Af,(.cons (.asg 2 Aa (.lst (.cons (.call 289 (.cons (.var 0) (.cons (.var 1) (.cons (.tup (.cons (.int 0) (.cons (.int 0) (.cons (.int 1) .nil)))) .nil)))) .nil))) (.cons (.fors 3 (.rng (.var 0)) LO) (.cons (.ret (.var 2)) .nil)))⟩
noncomputable def FY(p:Ad):Ac R3:=(0,0,1)::(A4 p.toNat).map fun(t:Ag)=>((1:Ad),(t:Ad),(t:Ad)*(t:Ad))
theorem M6(hp:P4 p)(hx:x∈FY p):B3 x/\∃ l,AS p (tri x)=Ab l:=by
 have p1:1<p:=by have:=hp.lo;omega
 have ph:=hp.hi;rcases At.mp hx with rfl|hx
 .exact⟨(Cv hp (a:=(0,0,1)) ⟨⟨G9 0,hp.pos⟩,⟨G9 0,hp.pos⟩,⟨(by decide:(0:Ad)<=1),p1⟩⟩).b3 (by decide),1,Vz p1⟩
 .obtain⟨t,ht,rfl⟩:=BL.mp hx;have ht:=A3.mp ht;have t0:(t:Ad)<11:=by omega
  have tt:(t:Ad)*(t:Ad)<=11*11:=Wu (by omega) (by omega) (by omega) (by decide)
  have t2:0<=(t:Ad)*(t:Ad):=GY (by omega) (by omega)
  have pw:(2:Ag) ^ 10<=2 ^ 300:=Fa (by decide) (by decide)
  refine⟨⟨?_,?_,?_⟩,1,RB p1 _ _⟩
  .exact AH (by decide:(1:Ad).natAbs<2 ^ 10) pw
  .exact AH (by show ((t:Ad)).natAbs<2 ^ 10;omega) pw
  .exact AH (by show ((t:Ad)*(t:Ad)).natAbs<2 ^ 10;omega) pw
theorem jH{RR Y_:D}{acc:Ac D}(mm:DW m m=Aa)(en:Y.F 289 [.int p,RR,.tup [.int 1,.int m,.int (m*m)]]=.ok Y_)(sz:Di (acc.length+1)=Aa):BH Y 3 LO (.int m) [si p,sh RR,Ab (.lst acc,Aa),s3]=.next [si p,sh RR,Ab (.lst (acc++[Y_]),Aa),si m]:=by
 simp[BH,LO,mm,en,C7,sz]
def vG(Y:Gam):Prop:=∀(p:Ad)(a b c:R3),GoodR p a b c->Y.F 290 [.int p,Fd a b c]=.ok (AU ((FY p).map λx=>nrm p (ap a b c x)))
theorem rK(hl:Um Y)(p:Ad)(a b c:R3)(G:GoodR p a b c):Mz.run Y [.int p,Fd a b c]=.ok (AU ((FY p).map λx=>nrm p (ap a b c x))):=by
 have hp:=G.p4;have ph:=hp.hi;have pl:=hp.lo;have L:∀ x∈FY p,Y.F 289 [.int p,Fd a b c,Ao Aa x]=.ok (Ao Aa (nrm p (ap a b c x))):=λx hx=>hl p Af Af Aa a b c x G (M6 hp hx).1 (M6 hp hx).2
 have e0:Y.F 289 [.int p,Fd a b c,.tup [.int 0,.int 0,.int 1]]=.ok (Ao Aa (nrm p (ap a b c (0,0,1)))):=L (0,0,1) (Az ..);have rg:CP 0 p=.ok (CS 0 (p-0).toNat):=MT (by decide) (by decide) (by omega) (by omega)
 rw[Gw]at rg;have lp:=OR (body:=BH Y 3 LO) (λn U=>∃ s3,U=[si p,sh (Fd a b c),Ab (.lst (((0,0,1)::(A4 n).map fun(t:Ag)=>((1:Ad),(t:Ad),(t:Ad)*(t:Ad))).map λx=>Ao Aa (nrm p (ap a b c x))),Aa),s3]) (CS 0 p.toNat) 0 [si p,sh (Fd a b c),Ab (.lst [Ao Aa (nrm p (ap a b c (0,0,1)))],Aa),Ae] ⟨Ae,rfl⟩ (by
  rintro n x hx U ⟨s3,rfl⟩;obtain⟨hn,rfl⟩:=Pp hx;rw[C9,FC];have hm:((1:Ad),(n:Ad),(n:Ad)*(n:Ad))∈FY p:=Au _ (BL.mpr ⟨n,A3.mpr (by omega),rfl⟩)
  have en:Y.F 289 [.int p,Fd a b c,.tup [.int 1,.int (n:Ad),.int ((n:Ad)*(n:Ad))]]=.ok (Ao Aa (nrm p (ap a b c (1,(n:Ad),(n:Ad)*(n:Ad))))):=L _ hm;have lr:(A4 (n+1)).map (fun(t:Ag)=>((1:Ad),(t:Ad),(t:Ad)*(t:Ad)))=(A4 n).map (fun(t:Ag)=>((1:Ad),(t:Ad),(t:Ad)*(t:Ad)))++[((1:Ad),(n:Ad),(n:Ad)*(n:Ad))]:=by
   rw[List.range_succ,Ii];rfl
  rw[lr,<-List.cons_append,Ii];have len:((((0:Ad),(0:Ad),(1:Ad))::(A4 n).map fun(t:Ag)=>((1:Ad),(t:Ad),(t:Ad)*(t:Ad))).map λx=>Ao Aa (nrm p (ap a b c x))).length=n+1:=by simp
  generalize ((((0:Ad),(0:Ad),(1:Ad))::(A4 n).map fun(t:Ag)=>((1:Ad),(t:Ad),(t:Ad)*(t:Ad))).map λx=>Ao Aa (nrm p (ap a b c x)))=acc at *
  have sz:Di (acc.length+1)=Aa:=EU (by omega)
  have mm:DW (n:Ad) (n:Ad)=Aa:=HS (by omega) (by omega)
  refine⟨_,?_,si (n:Ad),rfl⟩;show BH Y 3 LO (.int (n:Ad)) [si p,sh (Fd a b c),Ab (.lst acc,Aa),s3]=.next [si p,sh (Fd a b c),Ab (.lst (acc++[Ao Aa (nrm p (ap a b c (1,(n:Ad),(n:Ad)*(n:Ad))))]),Aa),si (n:Ad)];exact jH mm en sz)
 obtain⟨U',e,s3,rfl⟩:=lp;rw[FC,LP]at e;have fin:D.lst (((0,0,1)::(A4 p.toNat).map fun(t:Ag)=>((1:Ad),(t:Ad),(t:Ad)*(t:Ad))).map λx=>Ao Aa (nrm p (ap a b c x)))=AU ((FY p).map λx=>nrm p (ap a b c x)):=by
  unfold AU FY;rw[DC];rfl
 rw[<-fin]
 clear fin L
 generalize (((0,0,1)::(A4 p.toNat).map fun(t:Ag)=>((1:Ad),(t:Ad),(t:Ad)*(t:Ad))).map λx=>Ao Aa (nrm p (ap a b c x)))=OUT at *
 generalize CS 0 p.toNat=RL at *;generalize Ao Aa (nrm p (ap a b c (0,0,1)))=Y_ at *;generalize Fd a b c=RR at *;simp[Mz,Df.run,BJ,e0,DL,rg,e]
noncomputable def Ou:E:=(.and (.cons (.isi (.var 3) [.int]) (.cons (.no (.isi (.var 3) [.bool])) (.cons (.cmp2 .LtE .Lt (.int 0) (.var 3) (.var 0)) .nil))))
noncomputable def Oi:Df:=⟨4,Af,(.cons (.ife (.or (.cons (.no (.isi (.var 1) [.tuple])) (.cons (.cmp .NotEq (.bi .len (.cons (.var 1) .nil)) (.var 2)) .nil))) (.cons (.ret (.bl Af)) .nil) .nil) (.cons (.ret (.bi .all (.cons (.comp Ou 3 (.e (.var 1)) Cu) .nil))) .nil))⟩
def UQ(Y:Gam):Prop:=∀(p:Ad)(xs:Ac Ad),(∀ x∈xs,0<=x/\x<p)->Y.F 236 [.int p,.tup (ds xs),.int xs.length]=.ok (.bl Aa)
theorem jY(Y:Gam)(p:Ad)(xs:Ac Ad)(hx:∀ x∈xs,0<=x/\x<p):Oi.run Y [.int p,.tup (ds xs),.int xs.length]=.ok (.bl Aa):=by
 have c1:BQ (cG Y [si p,sh (.tup (ds xs)),si xs.length,Ae] 3 Cu) (cF Y [si p,sh (.tup (ds xs)),si xs.length,Ae] 3 Ou) (ds xs)=.ok (xs.map λ_=>D.bl Aa):=by
  refine U_3 xs λx hm=>⟨rfl,?_⟩
  obtain⟨h0,h1⟩:=hx x hm;simp[cF,Ou,kiD,Fq,h0,h1]
 have dl:(ds xs).length=xs.length:=AZ ..;simp[Oi,Df.run,BJ,kiD,Fq,dl,c1,Ul]
noncomputable def Om:E:=(.cmp .Gt (.var 3) (.int 0))
noncomputable def On:E:=(.var 3)
noncomputable def OF:Df:=⟨4,Af,(.cons (.ife (.or (.cons (.no (.call 236 (.cons (.var 0) (.cons (.var 1) (.cons (.var 2) .nil))))) (.cons (.cmp .Eq (.bi .sum (.cons (.var 1) .nil)) (.int 0)) .nil))) (.cons (.ret (.bl Af)) .nil) .nil) (.cons (.ret (.cmp .Eq (.idx (.comp On 3 (.e (.var 1)) Om) (.int 0)) (.int 1))) .nil))⟩
def US(Y:Gam):Prop:=∀(p:Ad)(xs:Ac Ad),0<p->(∀ x∈xs,0<=x/\x<p)->AS p xs=Ab 1->Y.F 237 [.int p,.tup (ds xs),.int xs.length]=.ok (.bl Aa)
theorem TY{p:Ad}:∀ xs:Ac Ad,(∀ v∈xs,0<=v/\v<p)->AS p xs=(xs.filter λv=>decide (0<v)).head?
 |[],_=>rfl
 |v::xs,h=>by
  have hv:=h v (Az ..);have em:=AD hv.1 hv.2;have ih:=TY xs λw hw=>h w (Au _ hw)
  unfold AS;rw[em,Eo,ih];by_cases z:v=0
  .rw[AI z,z];rfl
  .rw[AV z,AI (by simp;omega)]
   rfl
theorem Vl:∀(xs:Ac Ad)(a:Ad),GQ a (ds xs)=.ok (a+xs.sum)
 |[],a=>by show R.ok a=_;simp
 |x::xs,a=>by
  show GQ (a+x) (ds xs)=_;rw[Vl xs (a+x)];simp[Int.add_assoc]
theorem UD{p:Ad}:∀ xs:Ac Ad,(∀ v∈xs,0<=v/\v<p)->0<=xs.sum/\∀ v∈xs,v<=xs.sum
 |[],_=>⟨by simp,λv h=>nomatch h⟩
 |x::xs,h=>by
  obtain⟨h1,h2⟩:=UD xs λw hw=>h w (Au _ hw)
  have hx:=h x (Az ..);rw[List.sum_cons];refine⟨by omega,λv hv=>?_⟩
  rcases At.mp hv with rfl|hv
  .omega
  .have:=h2 v hv;omega
theorem kI(hr:UQ Y)(p:Ad)(xs:Ac Ad)(p0:0<p)(hx:∀ x∈xs,0<=x/\x<p)(l1:AS p xs=Ab 1):OF.run Y [.int p,.tup (ds xs),.int xs.length]=.ok (.bl Aa):=by
 have e1:=hr p xs hx;have hd:(xs.filter λv=>decide (0<v)).head?=Ab 1:=by rw[<-TY xs hx];exact l1
 have m1:(1:Ad)∈xs:=by
  have:(1:Ad)∈xs.filter λv=>decide (0<v):=List.mem_of_mem_head? hd
  exact(EJ.mp this).1
 obtain⟨s0,s1⟩:=UD xs hx;have sz:¬ xs.sum=0:=by have:=s1 1 m1;omega
 have sm:biD .sum [.tup (ds xs)]=.ok (.int xs.sum):=by
  show (GQ 0 (ds xs)).bind (λi=>R.ok (D.int i))=_
  rw[Vl,C9];rfl
 have sq:CC (.tup (ds xs))=.ok (ds xs):=rfl;have c1:∀ n:Ad,BQ (cG Y [si p,sh (.tup (ds xs)),si n,Ae] 3 Om) (cF Y [si p,sh (.tup (ds xs)),si n,Ae] 3 On) (ds xs)=.ok (ds (xs.filter λv=>decide (0<v))):=λn=>by
  refine ML xs λv _=>⟨?_,?_⟩
  .simp[cG,Om]
  .simp[cF,On]
 have g:=Pe hd;generalize (xs.length:Ad)=N at *;generalize xs.sum=SS at *;generalize ds (xs.filter λv=>decide (0<v))=FL at *
 generalize D.tup (ds xs)=TT at *;generalize ds xs=XL at *;simp[OF,Df.run,BJ,e1,sm,sz,sq,c1,g]
noncomputable def C0p:C6:=⟨0,1,0,0,-1,0⟩
noncomputable def Ot:E:=(.bin .Mod (.bin .Add (.var 9) (.bin .Mult (.var 8) (.var 10))) (.var 0))
noncomputable def HP:Ss:=(.cons (.asg 5 Af (.call 228 (.cons (.var 1) (.cons (.bin .Add (.var 2) (.var 4)) .nil)))) (.cons (.asg 6 Af (.bin .Mod (.var 5) (.int 3))) (.cons (.asg 7 Af (.bin .Mod (.bin .Add (.bin .Add (.var 6) (.int 1)) (.bin .Mod (.bin .FloorDiv (.var 5) (.int 3)) (.int 2))) (.int 3))) (.cons (.asg 8 Af (.bin .Mod (.bin .FloorDiv (.var 5) (.int 6)) (.var 0))) (.cons (.put 3 (.var 6) (.compT Ot [9,10] (.zip (.idx (.var 3) (.var 6)) (.idx (.var 3) (.var 7))) Cu)) (.cons (.ife (.cmp .Eq (.bin .Mod (.bin .FloorDiv (.var 5) (.int 100)) (.int 3)) (.int 1)) (.cons (.asg 3 Aa (.lst (.cons (.idx (.var 3) (.var 7)) (.cons (.idx (.var 3) (.var 6)) (.cons (.idx (.var 3) (.bin .Sub (.bin .Sub (.int 3) (.var 6)) (.var 7))) .nil))))) .nil) .nil) .nil))))))
noncomputable def Os:E:=(.bin .Mod (.bin .Mult (.var 8) (.var 11)) (.var 0))
theorem jT{a b c:R3}{i j:Ad}(h:GoodR p a b c)(ij:Ij i j):∃(i':Ag)(x y a' b' c':R3),Ds (L3 a b c) i=.ok (DY x)/\Ds (L3 a b c) j=.ok (DY y)/\plD 3 i=Ab i'/\GoodR p a' b' c'/\(L3 a b c).set i' (DY (adR p t x y))=L3 a' b' c':=by
 have p0:=h.p4.pos;rcases ij with ⟨rfl,rfl⟩|⟨rfl,rfl⟩|⟨rfl,rfl⟩|⟨rfl,rfl⟩|⟨rfl,rfl⟩|⟨rfl,rfl⟩
 .exact⟨0,a,b,_,_,_,rfl,rfl,rfl,h.of (k:=1) h.p4.o1 (br p t a b c) ⟨Lj p0 _ _ _,h.ib,h.ic⟩,rfl⟩
 .exact⟨0,a,c,_,_,_,rfl,rfl,rfl,h.of (k:=1) h.p4.o1 (bq p t a b c) ⟨Lj p0 _ _ _,h.ib,h.ic⟩,rfl⟩
 .exact⟨1,b,a,_,_,_,rfl,rfl,rfl,h.of (k:=1) h.p4.o1 (bp p t a b c) ⟨h.ia,Lj p0 _ _ _,h.ic⟩,rfl⟩
 .exact⟨1,b,c,_,_,_,rfl,rfl,rfl,h.of (k:=1) h.p4.o1 (bo p t a b c) ⟨h.ia,Lj p0 _ _ _,h.ic⟩,rfl⟩
 .exact⟨2,c,a,_,_,_,rfl,rfl,rfl,h.of (k:=1) h.p4.o1 (bn p t a b c) ⟨h.ia,h.ib,Lj p0 _ _ _⟩,rfl⟩
 .exact⟨2,c,b,_,_,_,rfl,rfl,rfl,h.of (k:=1) h.p4.o1 (bj p t a b c) ⟨h.ia,h.ib,Lj p0 _ _ _⟩,rfl⟩
theorem jS{a b c:R3}{i j:Ad}(h:GoodR p a b c)(ij:Ij i j):∃(x y z:R3),Ds (L3 a b c) j=.ok (DY x)/\Ds (L3 a b c) i=.ok (DY y)/\Ds (L3 a b c) (3-i-j)=.ok (DY z)/\GoodR p x y z:=by
 rcases ij with ⟨rfl,rfl⟩|⟨rfl,rfl⟩|⟨rfl,rfl⟩|⟨rfl,rfl⟩|⟨rfl,rfl⟩|⟨rfl,rfl⟩
 .exact⟨b,a,c,rfl,rfl,rfl,h.of (k:=-1) h.p4.m1 (Cg.of (by unfold Ak det;grind)) ⟨h.ib,h.ia,h.ic⟩⟩
 .exact⟨c,a,b,rfl,rfl,rfl,h.of (k:=1) h.p4.o1 (Cg.of (by unfold Ak det;grind)) ⟨h.ic,h.ia,h.ib⟩⟩
 .exact⟨a,b,c,rfl,rfl,rfl,h⟩
 .exact⟨c,b,a,rfl,rfl,rfl,h.of (k:=-1) h.p4.m1 (Cg.of (by unfold Ak det;grind)) ⟨h.ic,h.ib,h.ia⟩⟩
 .exact⟨a,c,b,rfl,rfl,rfl,h.of (k:=-1) h.p4.m1 (Cg.of (by unfold Ak det;grind)) ⟨h.ia,h.ic,h.ib⟩⟩
 .exact⟨b,c,a,rfl,rfl,rfl,h.of (k:=1) h.p4.o1 (Cg.of (by unfold Ak det;grind)) ⟨h.ib,h.ic,h.ia⟩⟩
section
variable{Y:Gam}{ns:Ac Ad}{p:Ad}{a b c:R3}{s2 s4 s5 s6 s7 s8:Sl}
theorem iI(hm:JJ Y 228 ns)(h:GoodR p a b c)(ha:0<=at_)(hk:0<=k):∃ a' b' c' v5 v6 v7 v8,GoodR p a' b' c'/\BH Y 4 HP (.int k) [si p,sh (scr ns),si at_,Ab (.lst (L3 a b c),Aa),s4,s5,s6,s7,s8,Ae,Ae,Ae]=.next [si p,sh (scr ns),si at_,Ab (.lst (L3 a' b' c'),Aa),si k,v5,v6,v7,v8,Ae,Ae,Ae]:=by
 have p0:=h.p4.pos;have ph:=h.p4.hi;obtain⟨m,m0,e0⟩:=hm (at_+k) (by omega)
 generalize hi:m%3=i;generalize hj:(i+1+m/3%2)%3=j;have ij:=zU hi hj;have t0:=AK (m/6) (b:=p) (by omega)
 have t1:=AG (m/6) p0;generalize ht:m/6%p=t at t0 t1;have mt:∀ x,DW t x=Aa:=λx=>HS (by omega) (by omega)
 obtain⟨i',x,y,a',b',c',gi,gj,pi,g',es⟩:=jT (t:=t) h ij;obtain⟨x2,y2,z2,f1,f2,f3,g2⟩:=jS g' ij;have pi':plD (L3 a b c).length i=Ab i':=pi;have e1:evSs Y [si p,sh (scr ns),si at_,Ab (.lst (L3 a b c),Aa),si k,s5,s6,s7,s8,Ae,Ae,Ae] (HP.take 4)=.next [si p,sh (scr ns),si at_,Ab (.lst (L3 a b c),Aa),si k,si m,si i,si j,si t,Ae,Ae,Ae]:=by
  simp[HP,Ss.take,e0,hi,hj,ht,p0]
 have cp:BQ (cGT Y [si p,sh (scr ns),si at_,Ab (.lst (L3 a b c),Aa),si k,si m,si i,si j,si t,Ae,Ae,Ae] [9,10] Cu) (cFT Y [si p,sh (scr ns),si at_,Ab (.lst (L3 a b c),Aa),si k,si m,si i,si j,si t,Ae,Ae,Ae] [9,10] Ot) (E5 [.int x.1,.int x.2.1,.int x.2.2] [.int y.1,.int y.2.1,.int y.2.2])=.ok [.int ((x.1+t*y.1)%p),.int ((x.2.1+t*y.2.1)%p),.int ((x.2.2+t*y.2.2)%p)]:=by
  generalize x.1=x0;generalize x.2.1=x1;generalize x.2.2=x2;generalize y.1=y0;generalize y.2.1=y1;generalize y.2.2=y2;simp[BQ,cGT,cFT,E5,Ot,Cu,p0,mt]
 have gi':Ds (L3 a b c) i=.ok (.lst [.int x.1,.int x.2.1,.int x.2.2]):=gi;have gj':Ds (L3 a b c) j=.ok (.lst [.int y.1,.int y.2.1,.int y.2.2]):=gj;have rd:D.lst [.int ((x.1+t*y.1)%p),.int ((x.2.1+t*y.2.1)%p),.int ((x.2.2+t*y.2.2)%p)]=DY (adR p t x y):=rfl;have fin:∀ {o},evSs Y [si p,sh (scr ns),si at_,Ab (.lst (L3 a b c),Aa),si k,si m,si i,si j,si t,Ae,Ae,Ae] (HP.drop 4)=o->BH Y 4 HP (.int k) [si p,sh (scr ns),si at_,Ab (.lst (L3 a b c),Aa),s4,s5,s6,s7,s8,Ae,Ae,Ae]=o:=λ{o} h=>by
  show evSs Y [si p,sh (scr ns),si at_,Ab (.lst (L3 a b c),Aa),si k,s5,s6,s7,s8,Ae,Ae,Ae] HP=o;rw[Tn Y 4,e1];exact h
 have sL:L3 x2 y2 z2=[DY x2,DY y2,DY z2]:=rfl;by_cases q:m/100%3=1
 .refine⟨x2,y2,z2,si m,si i,si j,si t,g2,fin ?_⟩;rw[sL]
  clear e1 fin sL
  generalize L3 a b c=LL at *;generalize L3 a' b' c'=LM at *;generalize DY x2=rx at *;generalize DY y2=ry at *;generalize DY z2=rz at *;generalize scr ns=S at *;simp[HP,Ss.drop,Nb,C7,gi',gj',pi',cp,rd,es,q,f1,f2,f3,DL]
 .refine⟨a',b',c',si m,si i,si j,si t,g',fin ?_⟩
  clear e1 fin sL
  generalize L3 a b c=LL at *;generalize L3 a' b' c'=LM at *;generalize scr ns=S at *;simp[HP,Ss.drop,Nb,C7,gi',gj',pi',cp,rd,es,q]
end
def nL(Y:Gam)(ns:Ac Ad):Prop:=∀(p at_:Ad),P4 p->0<=at_->∃ a b c,GoodR p a b c/\Y.F 250 [.int p,scr ns,.int at_]=.ok (Fd a b c)
section
variable{p:Ad}{C:C6}{a b c A B P U_ l m:R3}
theorem swp(h:Ay U_ m%p=0):Ay m U_%p=0:=by rw[JH];exact h
end
noncomputable def Lo(p:Ad):Ac R3:=(FY p).map (mdR p)
theorem cU(hp:P4 p):(Lo p).Nodup:=by
 rcases hp with rfl|rfl|rfl|rfl<;>decide+kernel
theorem Uv(hp:P4 p):∀ x∈Lo p,x∈El p/\vI C0p x%p=0:=by
 rcases hp with rfl|rfl|rfl|rfl<;>decide+kernel
theorem jG(hp:P4 p):∀ x∈El p,vI C0p x%p=0->x∈Lo p:=by
 rcases hp with rfl|rfl|rfl|rfl<;>decide+kernel
theorem S4(hp:P4 p)(x:R3):x∈Lo p↔NF p x/\vI C0p x%p=0:=
 ⟨λh=>⟨(Kc hp).mp (Uv hp x h).1,(Uv hp x h).2⟩,λh=>jG hp x ((Kc hp).mpr h.1) h.2⟩
theorem mF{p l l':Ad}{s:R3}(hp:P4 p)(er:AS p (tri r)=Ab l)(es:AS p (tri s)=Ab l')(h:CgR p r s):nrm p r=nrm p s:=by
 obtain⟨h1,h2⟩:=KQ hp er;obtain⟨h3,h4⟩:=KQ hp es;exact Mj hp h1 h3 ((h2.trans hp (Pr.cg hp h)).trans hp (h4.symm hp))
theorem eP{a b c:R3}(hp:P4 p)(z:Ak a b c%p≠0):((FY p).map λx=>nrm p (ap a b c x))=(Lo p).map λx=>nrm p (ap a b c x):=by
 unfold Lo;rw[DC];refine DP λx hx=>?_
 obtain⟨l,el⟩:=(M6 hp hx).2;have g:CgR p (mdR p x) x:=CgR.md rfl;have g':CgR p (ap a b c x) (ap a b c (mdR p x)):=NT CgR.rfl CgR.rfl CgR.rfl g.symm;obtain⟨l1,e1⟩:=L6 hp z el (CgR.rfl (a:=ap a b c x));obtain⟨l2,e2⟩:=L6 hp z el g'.symm;exact mF hp e1 e2 g'
theorem fH(x:R3)(l:Ac R3):(l.map (Ao Aa)).any (λy=>eqD y (Ao Aa x))=decide (x∈l):=by
 induction l with
 |nil=>simp
 |cons y l ih=>
  rw[BP,Jm,ih,Ni,DZ,C3,Bl,Bl,Bl,At];exact or_congr ⟨Ms,Ms⟩ Iff.rfl
theorem eQ(x:R3)(l:Ac R3):Cf .In (Ao Aa x) (AU l)=.ok (.bl (decide (x∈l))):=by
 have k1:(l.map (Ao Aa)).all (flD 5)=Aa:=by
  rw[Gc];intro y hy;obtain⟨z,_,rfl⟩:=BL.mp hy;exact(VC z).1
 show (if (flD 5 (Ao Aa x)&&(l.map (Ao Aa)).all (flD 5))=Aa then R.ok (D.bl ((l.map (Ao Aa)).any λy=>eqD y (Ao Aa x))) else R.bad)=_
 rw[k1,(VC x).1,AI (show (Aa&&Aa)=Aa from rfl),fH]
theorem Tu{d:Ag}{i:Ad}(h0:0<=i):G7 n d (Ab i)=min i.toNat n:=by
 show (if i<0 then _ else _)=_
 rw[AV (by omega)]
theorem Qx(M:Ac R3){i:Ad}(h0:0<=i):slD (AU M) Ae (Ab i)=.ok (AU (M.take i.toNat)):=by
 show R.ok (D.lst (((M.map (Ao Aa)).drop 0).take (G7 (M.map (Ao Aa)).length (M.map (Ao Aa)).length (Ab i)-0)))=_;rw[Tu h0,WD,Nat.sub_zero,AZ];unfold AU;rw[List.map_take]
 congr 2
 by_cases h:i.toNat<=M.length
 .rw[WW h]
 .rw[Nat.min_eq_right (by omega),EM (by simp),EM (by simp;omega)]
theorem gY(M:Ac R3){i:Ad}(h0:0<=i)(h1:i.toNat<=M.length):slD (AU M) (Ab i) Ae=.ok (AU (M.drop i.toNat)):=by
 show R.ok (D.lst (((M.map (Ao Aa)).drop (G7 (M.map (Ao Aa)).length 0 (Ab i))).take ((M.map (Ao Aa)).length-G7 (M.map (Ao Aa)).length 0 (Ab i))))=_;rw[Tu h0];unfold AU;rw[List.map_drop,AZ,WW h1]
 congr 2
 exact EM (by simp)
theorem SR(X Y_:Ac R3)(h:X.length+Y_.length<=1000):C1 .Add (AU X) (AU Y_)=.ok (AU (X++Y_)):=by
 show (if Di ((X.map (Ao Aa)).length+(Y_.map (Ao Aa)).length)=Aa then R.ok (D.lst (X.map (Ao Aa)++Y_.map (Ao Aa))) else R.bad)=_
 have z:Di ((X.map (Ao Aa)).length+(Y_.map (Ao Aa)).length)=Aa:=EU (by rw[AZ,AZ];omega)
 rw[AI z,<-Ii];rfl
theorem eT(h:L[n]?=Ab x):CF (AU L) (.int (n:Ad))=.ok (Ao Aa x):=by
 show Ds (L.map (Ao Aa)) (n:Ad)=_;exact Pq (by omega) (by rw[FT,DH,h];rfl)
def nM(Y:Gam)(ns:Ac Ad):Prop:=∀(at_:Ad)(L:Ac R3),0<=at_->L.length<=60->∃ M:Ac R3,M.Perm L/\Y.F 251 [scr ns,.int at_,AU L]=.ok (AU M)
theorem jF{a b c:R3}(hp:P4 p)(z:Ak a b c%p≠0):((FY p).map λx=>nrm p (ap a b c x)).Nodup:=by
 rw[eP hp z];refine S7 (cU hp) λx hx y hy e=>?_
 have h1:=Te hp z ((S4 hp x).mp hx).1;have h2:=Te hp z ((S4 hp y).mp hy).1;rw[<-h1,<-h2,e]
theorem cT(hp:P4 p):4<=(FY p).length/\(FY p).length<=60:=by
 rcases hp with rfl|rfl|rfl|rfl<;>decide+kernel
section
variable{Y:Gam}{ns:Ac Ad}{p:Ad}
end
section
variable{Y:Gam}{p:Ad}
end
noncomputable def O1:Df:=⟨2,Af,(.cons (.ife (.cmp .Eq (.var 0) (.var 1)) (.cons (.rais 107 (.cons (.var 0) .nil)) .nil) .nil) (.cons (.ret (.tup (.cons (.bin .Sub (.bin .Mult (.idx (.var 0) (.int 1)) (.idx (.var 1) (.int 2))) (.bin .Mult (.idx (.var 0) (.int 2)) (.idx (.var 1) (.int 1)))) (.cons (.bin .Sub (.bin .Mult (.idx (.var 0) (.int 2)) (.idx (.var 1) (.int 0))) (.bin .Mult (.idx (.var 0) (.int 0)) (.idx (.var 1) (.int 2)))) (.cons (.bin .Sub (.bin .Mult (.idx (.var 0) (.int 0)) (.idx (.var 1) (.int 1))) (.bin .Mult (.idx (.var 0) (.int 1)) (.idx (.var 1) (.int 0)))) .nil))))) .nil))⟩
theorem SX(Y:Gam)(a b:R3)(ha:B3 a)(hb:B3 b)(ne:a≠b):O1.run Y [Ao Aa a,Ao Aa b]=.ok (Ao Aa (crs a b)):=by
 obtain⟨x0,x1,x2⟩:=FG Aa a;obtain⟨y0,y1,y2⟩:=FG Aa b;have k:∀ {u v},Bd 300 u->Bd 300 v->EO u v=Aa:=λhu hv=>Gg hu hv (by decide) (by decide)
 have f:∀ r:R3,flD 5 (Ao Aa r)=Aa:=λ_=>rfl
 have e:eqD (Ao Aa a) (Ao Aa b)=Af:=by rw[Ni];exact CM ne
 simp[O1,Df.run,BJ,f,e,x0,x1,x2,y0,y1,y2,k ha.2.1 hb.2.2,k ha.2.2 hb.2.1,k ha.2.2 hb.1,k ha.1 hb.2.2,k ha.1 hb.2.1,k ha.2.1 hb.1];rfl
section
variable{Y:Gam}{ns:Ac Ad}
theorem in1(b:Aj):biD .int [.bl b]=.ok (.int (if b=Aa then 1 else 0)):=by cases b<;>rfl
end
theorem J6{body:D->Rho->O}(I:Rho->Prop)(f:Ag->D)(g:Ag->Ap D):∀(L:Ac Ag),(∀ m∈L,∀ U,I U->(∃ d,g m=Ab d/\body (f m) U=.ret d Af)\/(g m=Ae/\∃ U',body (f m) U=.next U'/\I U'))->∀ U,I U->(∃ d,L.findSome? g=Ab d/\C8 body (L.map f) U=.ret d Af)\/(L.findSome? g=Ae/\∃ U',C8 body (L.map f) U=.next U'/\I U')
 |[],_,U,i=>.inr ⟨rfl,U,rfl,i⟩
 |m::L,h,U,i=>by
  rcases h m (Az ..) U i with ⟨d,e1,e2⟩|⟨e1,U',e2,i'⟩
  .refine .inl ⟨d,by rw[GU,e1],?_⟩
   show (body (f m) U).turn _=_;rw[e2];rfl
  .rcases J6 I f g L (λm' h'=>h m' (Au _ h')) U' i' with ⟨d,a,b⟩|⟨a,r,b,c⟩
   .refine .inl ⟨d,by rw[GU,e1];exact a,?_⟩
    show (body (f m) U).turn _=_;rw[e2];exact b
   .refine .inr ⟨by rw[GU,e1];exact a,r,?_,c⟩
    show (body (f m) U).turn _=_;rw[e2];exact b
noncomputable def atZ(pts:Ac R3)(i:Ag):R3:=pts.getD i (0,0,0)
theorem inZ(hg:∀ t∈pts,In3 p t)(h:i<pts.length):In3 p (atZ pts i):=by
 have e:atZ pts i=pts[i]:=by simp[atZ,h]
 rw[e];exact hg _ (CB h)
theorem bZ(hp:P4 p)(hg:∀ t∈pts,In3 p t)(h:i<pts.length):B3 (atZ pts i):=(Cv hp (inZ hg h)).b3 (by decide)
theorem lG(h:i<pts.length):Ds (pts.map (Ao Aa)) (i:Ad)=.ok (Ao Aa (atZ pts i)):=by
 have h':i<(pts.map (Ao Aa)).length:=by simpa using h
 rw[eU _ i h'];simp[atZ,h]
theorem Hq(h:i<pts.length):CF (AU pts) (.int (i:Ad))=.ok (Ao Aa (atZ pts i)):=lG h
def JN(n:Ag):Prop:=n<20000
theorem tE(hn:JN n)(hj:j<n):CP ((j:Ad)+1) (n:Ad)=.ok ((A4 (n-(j+1))).map λm=>D.int ((j+1+m:Ag):Ad)):=by
 have hn':n<20000:=hn;unfold CP;rw[AI (by omega)]
 unfold CS;have e:((n:Ad)-((j:Ad)+1)).toNat=n-(j+1):=by omega
 rw[e]
 congr 1
theorem Wl:∀(xs:Ac D)(s:Ag),Fp (s:Ad) xs=(A4 xs.length).map λm=>D.tup [.int ((s+m:Ag):Ad),xs.getD m .non]
 |[],s=>rfl
 |x::xs,s=>by
  have ih:=Wl xs (s+1);rw[Fp,BU,EL,BP,DC];have e:((s:Ad)+1)=((s+1:Ag):Ad):=by omega
  rw[e,ih]
  congr 1
  apply DP
  intro m _;show D.tup [.int ((s+1+m:Ag):Ad),xs.getD m .non]=D.tup [.int ((s+(m+1):Ag):Ad),(x::xs).getD (m+1) .non];have e2:s+1+m=s+(m+1):=by omega
  rw[e2];rfl
noncomputable def z3_(p:Ad)(pts:Ac R3)(i j k:Ag):Ap D:=if Ak (atZ pts i) (atZ pts j) (atZ pts k)%p=0 then Ab (.tup [Ao Aa (atZ pts i),Ao Aa (atZ pts j),Ao Aa (atZ pts k)]) else Ae
noncomputable def z2_(p:Ad)(pts:Ac R3)(i j:Ag):Ap D:=(A4 (pts.length-(j+1))).findSome? λm=>z3_ p pts i j (j+1+m)
noncomputable def z1_(p:Ad)(pts:Ac R3)(i:Ag):Ap D:=(A4 (pts.length-(i+1))).findSome? λm=>z2_ p pts i (i+1+m)
noncomputable def z0_(p:Ad)(pts:Ac R3):Ap D:=(A4 pts.length).findSome? (z1_ p pts)
theorem Na{t:Ag}{it:I}{body:Ss}{xs:Ac D}(h:Fe Y U it=.ok xs):evSs Y U (.cons (.fors t it body) .nil)=C8 (BH Y t body) xs U:=by rw[JI,tX,Pu,h,PK]
theorem M1{j a l:Ag}(hn:JN pts.length)(hj:j<pts.length)(h1:EE U a=.ok (.int (j:Ad)))(h2:EE U l=.ok (AU pts)):Fe Y U (.rng2 (.bin .Add (.var a) (.int 1)) (.bi .len (.cons (.var l) .nil)))=.ok ((A4 (pts.length-(j+1))).map λm=>D.int ((j+1+m:Ag):Ad)):=by
 have e1:evE Y U (.bin .Add (.var a) (.int 1))=.ok (.int ((j:Ad)+1)):=by
  show ((EE U a).bind λx=>R.bind (.ok (.int 1)) λy=>C1 .Add x y)=_
  rw[h1];rfl
 have e2:evE Y U (.bi .len (.cons (.var l) .nil))=.ok (.int (pts.length:Ad)):=by
  show (((EE U l).bind λx=>R.bind (.ok []) λxs=>.ok (x::xs)).bind λxs=>biD .len xs)=_
  rw[h2];show R.ok (D.int (((pts.map (Ao Aa)).length:Ag):Ad))=_;rw[AZ]
 have e3:∀ x y:E,(∀ r,top U x r=r)->(∀ r,top U y r=r)->∀ i j:Ad,evE Y U x=.ok (.int i)->evE Y U y=.ok (.int j)->Fe Y U (.rng2 x y)=CP i j:=λx y tx ty i j hx hy=>by
  rw[bY,eZ,tx,ty,hx,hy];simp only[R.bind_ok,MR]
 rw[e3 _ _ (λ_=>rfl) (λ_=>rfl) _ _ e1 e2]
 exact tE hn hj
section
variable{Y:Gam}{p:Ad}{pts:Ac R3}
theorem YJ(h:Jc Y)(hp:P4 p)(hg:∀ t∈pts,In3 p t){k:Ag}(hi:i<pts.length)(hj:j<pts.length)(hk:k<pts.length)(U:Rho)(I:∃ s,U=[si p,sh (AU pts),si i,sh (Ao Aa (atZ pts i)),si j,s]):(∃ d,z3_ p pts i j k=Ab d/\BH Y 5 JE (.int (k:Ad)) U=.ret d Af)\/(z3_ p pts i j k=Ae/\∃ U',BH Y 5 JE (.int (k:Ad)) U=.next U'/\∃ s,U'=[si p,sh (AU pts),si i,sh (Ao Aa (atZ pts i)),si j,s]):=by
 obtain⟨s,rfl⟩:=I;have e:=h p Aa _ _ _ hp.pos (bZ hp hg hi) (bZ hp hg hj) (bZ hp hg hk);by_cases z:Ak (atZ pts i) (atZ pts j) (atZ pts k)%p=0
 .rw[z]at e;exact .inl ⟨_,AI z,by simp[BH,JE,Hq hj,Hq hk,e,DL]⟩
 .exact .inr ⟨AV z,[si p,sh (AU pts),si i,sh (Ao Aa (atZ pts i)),si j,si k],by simp[BH,JE,Hq hj,Hq hk,e,z],_,rfl⟩
theorem YK(h:Jc Y)(hp:P4 p)(hg:∀ t∈pts,In3 p t)(hn:JN pts.length)(hi:i<pts.length)(hj:j<pts.length)(U:Rho)(I:∃ s t,U=[si p,sh (AU pts),si i,sh (Ao Aa (atZ pts i)),s,t]):(∃ d,z2_ p pts i j=Ab d/\BH Y 4 J3 (.int (j:Ad)) U=.ret d Af)\/(z2_ p pts i j=Ae/\∃ U',BH Y 4 J3 (.int (j:Ad)) U=.next U'/\∃ s t,U'=[si p,sh (AU pts),si i,sh (Ao Aa (atZ pts i)),s,t]):=by
 obtain⟨s,t,rfl⟩:=I;have e:BH Y 4 J3 (.int (j:Ad)) [si p,sh (AU pts),si i,sh (Ao Aa (atZ pts i)),s,t]=C8 (BH Y 5 JE) ((A4 (pts.length-(j+1))).map λm=>D.int ((j+1+m:Ag):Ad)) [si p,sh (AU pts),si i,sh (Ao Aa (atZ pts i)),si j,t]:=by
  exact Na (M1 hn hj rfl rfl)
 rw[e];rcases J6 (body:=BH Y 5 JE) (λU=>∃ s,U=[si p,sh (AU pts),si i,sh (Ao Aa (atZ pts i)),si j,s]) (λm=>D.int ((j+1+m:Ag):Ad)) (λm=>z3_ p pts i j (j+1+m)) (A4 (pts.length-(j+1))) (λm hm U I=>YJ h hp hg hi hj (by have:=A3.mp hm;omega) U I) [si p,sh (AU pts),si i,sh (Ao Aa (atZ pts i)),si j,t] ⟨t,rfl⟩ with ⟨d,a,b⟩|⟨a,r,b,u,c⟩
 .exact .inl ⟨d,a,b⟩
 .exact .inr ⟨a,r,b,_,u,c⟩
theorem YL(h:Jc Y)(hp:P4 p)(hg:∀ t∈pts,In3 p t)(hn:JN pts.length)(hi:i<pts.length)(U:Rho)(I:∃ a b s t,U=[si p,sh (AU pts),a,b,s,t]):(∃ d,z1_ p pts i=Ab d/\G1 Y [2,3] HQ (.tup [.int ((0+i:Ag):Ad),(pts.map (Ao Aa)).getD i .non]) U=.ret d Af)\/(z1_ p pts i=Ae/\∃ U',G1 Y [2,3] HQ (.tup [.int ((0+i:Ag):Ad),(pts.map (Ao Aa)).getD i .non]) U=.next U'/\∃ a b s t,U'=[si p,sh (AU pts),a,b,s,t]):=by
 obtain⟨a,b,s,t,rfl⟩:=I;have e0:(pts.map (Ao Aa)).getD i .non=Ao Aa (atZ pts i):=by simp[atZ,hi]
 have e:G1 Y [2,3] HQ (.tup [.int ((0+i:Ag):Ad),(pts.map (Ao Aa)).getD i .non]) [si p,sh (AU pts),a,b,s,t]=C8 (BH Y 4 J3) ((A4 (pts.length-(i+1))).map λm=>D.int ((i+1+m:Ag):Ad)) [si p,sh (AU pts),si i,sh (Ao Aa (atZ pts i)),s,t]:=by
  have e':∀(x y:D),G1 Y [2,3] HQ (.tup [x,y]) [si p,sh (AU pts),a,b,s,t]=evSs Y [si p,sh (AU pts),sh x,sh y,s,t] HQ:=λ_ _=>rfl
  rw[e0,FC,e'];unfold HQ;rw[Na (M1 hn hi rfl rfl)]
 rw[e];rcases J6 (body:=BH Y 4 J3) (λU=>∃ s t,U=[si p,sh (AU pts),si i,sh (Ao Aa (atZ pts i)),s,t]) (λm=>D.int ((i+1+m:Ag):Ad)) (λm=>z2_ p pts i (i+1+m)) (A4 (pts.length-(i+1))) (λm hm U I=>YK h hp hg hn hi (by have:=A3.mp hm;omega) U I) [si p,sh (AU pts),si i,sh (Ao Aa (atZ pts i)),s,t] ⟨s,t,rfl⟩ with ⟨d,a,b⟩|⟨a,r,b,u,v,c⟩
 .exact .inl ⟨d,a,b⟩
 .exact .inr ⟨a,r,b,_,_,u,v,c⟩
theorem eA(h:Jc Y)(hp:P4 p)(hg:∀ t∈pts,In3 p t)(hn:JN pts.length):KH.run Y [.int p,AU pts]=.ok ((z0_ p pts).getD .non):=by
 have en:=Wl (pts.map (Ao Aa)) 0;rw[AZ]at en;have en':Fp 0 (pts.map (Ao Aa))=(A4 pts.length).map λm=>D.tup [.int ((0+m:Ag):Ad),(pts.map (Ao Aa)).getD m .non]:=en
 have hE:Fe Y [si p,sh (AU pts),Ae,Ae,Ae,Ae] (.enm (.var 1))=.ok ((A4 pts.length).map λm=>D.tup [.int ((0+m:Ag):Ad),(pts.map (Ao Aa)).getD m .non]):=by
  show R.ok (Fp 0 (pts.map (Ao Aa)))=_;rw[en']
 rcases J6 (body:=G1 Y [2,3] HQ) (λU=>∃ a b s t,U=[si p,sh (AU pts),a,b,s,t]) (λm=>D.tup [.int ((0+m:Ag):Ad),(pts.map (Ao Aa)).getD m .non]) (z1_ p pts) (A4 pts.length) (λm hm U I=>YL h hp hg hn (A3.mp hm) U I) [si p,sh (AU pts),Ae,Ae,Ae,Ae] ⟨_,_,_,_,rfl⟩ with ⟨d,a,b⟩|⟨a,r,b,u1,u2,u3,u4,c⟩
 .have e:z0_ p pts=Ab d:=a;show (evSs Y [si p,sh (AU pts),Ae,Ae,Ae,Ae] (.cons (.forT [2,3] (.enm (.var 1)) HQ) (.cons (.ret .non) .nil))).ans Af=_;rw[JI,To,hE,Tl,b,e];rfl
 .have e:z0_ p pts=Ae:=a;subst c;show (evSs Y [si p,sh (AU pts),Ae,Ae,Ae,Ae] (.cons (.forT [2,3] (.enm (.var 1)) HQ) (.cons (.ret .non) .nil))).ans Af=_;rw[JI,To,hE,Tl,b,e];rfl
noncomputable def J2:Ss:=(.cons (.ife (.cmp .Eq (.call 233 (.cons (.var 0) (.cons (.var 4) (.cons (.idx (.var 1) (.var 5)) .nil)))) (.int 0)) (.cons (.ret (.tup (.cons (.idx (.var 1) (.var 2)) (.cons (.idx (.var 1) (.var 3)) (.cons (.idx (.var 1) (.var 5)) .nil))))) .nil) .nil) .nil)
noncomputable def JD:Ss:=(.cons (.asg 4 Af (.call 232 (.cons (.var 0) (.cons (.idx (.var 1) (.var 2)) (.cons (.idx (.var 1) (.var 3)) .nil))))) (.cons (.fors 5 (.rng2 (.bin .Add (.var 3) (.int 1)) (.bi .len (.cons (.var 1) .nil))) J2) .nil))
noncomputable def JZ:Ss:=(.cons (.fors 3 (.rng2 (.bin .Add (.var 2) (.int 1)) (.bi .len (.cons (.var 1) .nil))) JD) .nil)
noncomputable def Og:Df:=⟨6,Af,(.cons (.fors 2 (.rng (.bi .len (.cons (.var 1) .nil))) JZ) (.cons (.ret .non) .nil))⟩
theorem mP(hc:J8 Y)(hs:JF Y)(hp:P4 p)(hg:∀ t∈pts,In3 p t){k:Ag}(hi:i<pts.length)(hj:j<pts.length)(hk:k<pts.length):Y.F 233 [.int p,Ao Aa (mdR p (crs (atZ pts i) (atZ pts j))),Ao Aa (atZ pts k)]=.ok (.int (Ak (atZ pts i) (atZ pts j) (atZ pts k)%p)):=by
 have e:=hs p Aa Aa (mdR p (crs (atZ pts i) (atZ pts j))) (atZ pts k) hp.pos ((Cv hp (NC hp.pos _)).b3 (by decide)) (bZ hp hg hk)
 have q:Ay (mdR p (crs (atZ pts i) (atZ pts j))) (atZ pts k)%p=Ak (atZ pts i) (atZ pts j) (atZ pts k)%p:=by
  have c:=FX (CgR.md (p:=p) (a:=mdR p (crs (atZ pts i) (atZ pts j))) _root_.rfl) (CgR.rfl (a:=atZ pts k));have d:Ay (crs (atZ pts i) (atZ pts j)) (atZ pts k)=Ak (atZ pts i) (atZ pts j) (atZ pts k):=by unfold Ay crs Ak det;grind
  rw[d]at c;exact c
 rw[q]at e;exact e
theorem Y_7(hc:J8 Y)(hs:JF Y)(hp:P4 p)(hg:∀ t∈pts,In3 p t){k:Ag}(hi:i<pts.length)(hj:j<pts.length)(hk:k<pts.length)(U:Rho)(I:∃ s,U=[si p,sh (AU pts),si i,si j,sh (Ao Aa (mdR p (crs (atZ pts i) (atZ pts j)))),s]):(∃ d,z3_ p pts i j k=Ab d/\BH Y 5 J2 (.int (k:Ad)) U=.ret d Af)\/(z3_ p pts i j k=Ae/\∃ U',BH Y 5 J2 (.int (k:Ad)) U=.next U'/\∃ s,U'=[si p,sh (AU pts),si i,si j,sh (Ao Aa (mdR p (crs (atZ pts i) (atZ pts j)))),s]):=by
 obtain⟨s,rfl⟩:=I;have e:=mP hc hs hp hg hi hj hk;by_cases z:Ak (atZ pts i) (atZ pts j) (atZ pts k)%p=0
 .rw[z]at e;exact .inl ⟨_,AI z,by
   generalize Ao Aa (mdR p (crs (atZ pts i) (atZ pts j)))=LN at *;simp[BH,J2,Hq hi,Hq hj,Hq hk,e,DL]⟩
 .exact .inr ⟨AV z,[si p,sh (AU pts),si i,si j,sh (Ao Aa (mdR p (crs (atZ pts i) (atZ pts j)))),si k],by
   generalize Ao Aa (mdR p (crs (atZ pts i) (atZ pts j)))=LN at *;simp[BH,J2,Hq hi,Hq hj,Hq hk,e,z],_,rfl⟩
theorem Y_8(hc:J8 Y)(hs:JF Y)(hp:P4 p)(hg:∀ t∈pts,In3 p t)(hn:JN pts.length)(hi:i<pts.length)(hj:j<pts.length)(U:Rho)(I:∃ s t u,U=[si p,sh (AU pts),si i,s,t,u]):(∃ d,z2_ p pts i j=Ab d/\BH Y 3 JD (.int (j:Ad)) U=.ret d Af)\/(z2_ p pts i j=Ae/\∃ U',BH Y 3 JD (.int (j:Ad)) U=.next U'/\∃ s t u,U'=[si p,sh (AU pts),si i,s,t,u]):=by
 obtain⟨s,t,u,rfl⟩:=I;have e1:=hc p Aa Aa (atZ pts i) (atZ pts j) hp.pos (bZ hp hg hi) (bZ hp hg hj);have e:BH Y 3 JD (.int (j:Ad)) [si p,sh (AU pts),si i,s,t,u]=C8 (BH Y 5 J2) ((A4 (pts.length-(j+1))).map λm=>D.int ((j+1+m:Ag):Ad)) [si p,sh (AU pts),si i,si j,sh (Ao Aa (mdR p (crs (atZ pts i) (atZ pts j)))),u]:=by
  have a1:evS Y [si p,sh (AU pts),si i,si j,t,u] (.asg 4 Af (.call 232 (.cons (.var 0) (.cons (.idx (.var 1) (.var 2)) (.cons (.idx (.var 1) (.var 3)) .nil)))))=.next [si p,sh (AU pts),si i,si j,sh (Ao Aa (mdR p (crs (atZ pts i) (atZ pts j)))),u]:=by
   generalize Ao Aa (mdR p (crs (atZ pts i) (atZ pts j)))=LN at *;simp[Hq hi,Hq hj,e1]
  show evSs Y [si p,sh (AU pts),si i,si j,t,u] JD=_;unfold JD;rw[JI,a1,Uo];generalize Ao Aa (mdR p (crs (atZ pts i) (atZ pts j)))=LN;exact Na (M1 hn hj rfl rfl)
 rw[e];rcases J6 (body:=BH Y 5 J2) (λU=>∃ s,U=[si p,sh (AU pts),si i,si j,sh (Ao Aa (mdR p (crs (atZ pts i) (atZ pts j)))),s]) (λm=>D.int ((j+1+m:Ag):Ad)) (λm=>z3_ p pts i j (j+1+m)) (A4 (pts.length-(j+1))) (λm hm U I=>Y_7 hc hs hp hg hi hj (by have:=A3.mp hm;omega) U I) [si p,sh (AU pts),si i,si j,sh (Ao Aa (mdR p (crs (atZ pts i) (atZ pts j)))),u] ⟨_,rfl⟩ with ⟨d,a,b⟩|⟨a,r,b,w,c⟩
 .exact .inl ⟨d,a,b⟩
 .exact .inr ⟨a,r,b,_,_,w,c⟩
theorem Y_9(hc:J8 Y)(hs:JF Y)(hp:P4 p)(hg:∀ t∈pts,In3 p t)(hn:JN pts.length)(hi:i<pts.length)(U:Rho)(I:∃ r s t u,U=[si p,sh (AU pts),r,s,t,u]):(∃ d,z1_ p pts i=Ab d/\BH Y 2 JZ (.int (0+(i:Ad))) U=.ret d Af)\/(z1_ p pts i=Ae/\∃ U',BH Y 2 JZ (.int (0+(i:Ad))) U=.next U'/\∃ r s t u,U'=[si p,sh (AU pts),r,s,t,u]):=by
 obtain⟨r,s,t,u,rfl⟩:=I;rw[C9];have e:BH Y 2 JZ (.int (i:Ad)) [si p,sh (AU pts),r,s,t,u]=C8 (BH Y 3 JD) ((A4 (pts.length-(i+1))).map λm=>D.int ((i+1+m:Ag):Ad)) [si p,sh (AU pts),si i,s,t,u]:=by
  exact Na (M1 hn hi rfl rfl)
 rw[e];rcases J6 (body:=BH Y 3 JD) (λU=>∃ s t u,U=[si p,sh (AU pts),si i,s,t,u]) (λm=>D.int ((i+1+m:Ag):Ad)) (λm=>z2_ p pts i (i+1+m)) (A4 (pts.length-(i+1))) (λm hm U I=>Y_8 hc hs hp hg hn hi (by have:=A3.mp hm;omega) U I) [si p,sh (AU pts),si i,s,t,u] ⟨_,_,_,rfl⟩ with ⟨d,a,b⟩|⟨a,r,b,w,x,y,c⟩
 .exact .inl ⟨d,a,b⟩
 .exact .inr ⟨a,r,b,_,w,x,y,c⟩
theorem yH(hN:N=n)(l:biD .len [T]=.ok (.int N))(h:N<=1000)(h0:0<=N):Fe Y [si p,sh T,Ae,Ae,Ae,Ae] (.rng (.bi .len (.cons (.var 1) .nil)))=.ok (CS 0 n):=by
 have rg:CP 0 N=.ok (CS 0 (N-0).toNat):=MT (by decide) (by decide) (by omega) (by omega)
 have q:(N-0).toNat=n:=by omega
 rw[q]at rg;generalize CS 0 n=RR at *;have e:evE Y [si p,sh T,Ae,Ae,Ae,Ae] (.bi .len (.cons (.var 1) .nil))=.ok (.int N):=by simp[l]
 rw[eY,lW];simp only[qT,e,R.bind_ok,MR];exact rg
theorem MW(pts:Ac R3):biD .len [AU pts]=.ok (.int pts.length):=by unfold AU;simp
theorem jU(hz:pts.length<=1000):Fe Y [si p,sh (AU pts),Ae,Ae,Ae,Ae] (.rng (.bi .len (.cons (.var 1) .nil)))=.ok (CS 0 pts.length):=yH rfl (MW pts) (by omega) (by omega)
theorem dS(hc:J8 Y)(hs:JF Y)(hp:P4 p)(hg:∀ t∈pts,In3 p t)(hz:pts.length<=1000):Og.run Y [.int p,AU pts]=.ok ((z0_ p pts).getD .non):=by
 have hn:JN pts.length:=by show pts.length<20000;omega
 have r6:=jU (Y:=Y) (p:=p) hz;rw[show CS 0 pts.length=(A4 pts.length).map fun(i:Ag)=>D.int (0+(i:Ad)) by unfold CS;rfl]at r6
 rcases J6 (body:=BH Y 2 JZ) (λU=>∃ r s t u,U=[si p,sh (AU pts),r,s,t,u]) (fun(m:Ag)=>D.int (0+(m:Ad))) (z1_ p pts) (A4 pts.length) (λm hm U I=>Y_9 hc hs hp hg hn (A3.mp hm) U I) [si p,sh (AU pts),Ae,Ae,Ae,Ae] ⟨_,_,_,_,rfl⟩ with ⟨d,a,b⟩|⟨a,r,b,r1,r2,r3,r4,c⟩
 .have e:z0_ p pts=Ab d:=a;show (evSs Y [si p,sh (AU pts),Ae,Ae,Ae,Ae] (.cons (.fors 2 (.rng (.bi .len (.cons (.var 1) .nil))) JZ) (.cons (.ret .non) .nil))).ans Af=_;rw[JI,Pu,r6,PK,b,e];rfl
 .have e:z0_ p pts=Ae:=a;subst c;show (evSs Y [si p,sh (AU pts),Ae,Ae,Ae,Ae] (.cons (.fors 2 (.rng (.bi .len (.cons (.var 1) .nil))) JZ) (.cons (.ret .non) .nil))).ans Af=_;rw[JI,Pu,r6,PK,b,e];rfl
end
noncomputable def KF:Ss:=(.cons (.ife (.cmp .In (.var 2) (.sl (.var 0) .non (.var 1))) (.cons (.rais 107 (.cons (.var 2) .nil)) .nil) .nil) .nil)
noncomputable def MY:Df:=⟨3,Af,(.cons (.forT [1,2] (.enm (.var 0)) KF) .nil)⟩
section
variable{Y:Gam}{p:Ad}
theorem gW(PT seen rest:Ac R3)(e:PT=seen++rest):slD (AU PT) Ae (Ab (seen.length:Ad))=.ok (AU seen):=by
 rw[Qx PT (by omega),FT,e,List.take_left']
 rfl
theorem aU(a:Ad)(n:Ag):CS a (n+1)=.int a::CS (a+1) n:=by
 unfold CS;rw[EL,BP,DC]
 congr 1
 .simp
 .refine DP λk _=>?_
  simp only[Function.comp]
  congr 1
  omega
end
theorem Ui(l:Ac R3):Ie Aa (AU l)=Aa:=by
 show (Aa&&(l.map (Ao Aa)).all (nlD 5))=Aa;rw[Bool.true_and,Gc];intro d hd;obtain⟨x,_,rfl⟩:=BL.mp hd;rfl
section
variable{Y:Gam}{p:Ad}
noncomputable abbrev ow(l:Ac R3):Sl:=Ab (.lst (l.map (Ao Aa)),Aa)
theorem nH(hp:P4 p):(El p).length<=133:=by
 unfold El;rw[AZ,Hv];rcases hp with rfl|rfl|rfl|rfl<;>decide
end
noncomputable def ZB:Df:=⟨2,Af,(.cons (.asg 1 Af (.bin .Mod (.var 1) (.bin .Add (.bin .Add (.bin .Mult (.var 0) (.var 0)) (.var 0)) (.int 1)))) (.cons (.ife (.cmp .Eq (.var 1) (.int 0)) (.cons (.ret (.tup (.cons (.int 0) (.cons (.int 0) (.cons (.int 1) .nil))))) .nil) .nil) (.cons (.ife (.cmp .LtE (.var 1) (.var 0)) (.cons (.ret (.tup (.cons (.int 0) (.cons (.int 1) (.cons (.bin .Sub (.var 1) (.int 1)) .nil))))) .nil) .nil) (.cons (.ret (.tup (.cons (.int 1) (.cons (.bin .FloorDiv (.bin .Sub (.bin .Sub (.var 1) (.var 0)) (.int 1)) (.var 0)) (.cons (.bin .Mod (.bin .Sub (.bin .Sub (.var 1) (.var 0)) (.int 1)) (.var 0)) .nil))))) .nil))))⟩
section
variable{Y:Gam}{ns:Ac Ad}{p:Ad}
end
section
variable{Y:Gam}{ns:Ac Ad}{p:Ad}
end
section
variable{p:Ad}
def N3s(p:Ad)(L:Ac R3):Prop:=∀ x∈L,∀ y∈L,∀ z∈L,x≠y->x≠z->y≠z->Ak x y z%p≠0
theorem wZ(h:z0_ p pts=Ae){k:Ag}(h1:i<j)(h2:j<k)(h3:k<pts.length):Ak (atZ pts i) (atZ pts j) (atZ pts k)%p≠0:=by
 unfold z0_ at h;rw[CT]at h;have a:=h i (A3.mpr (by omega))
 unfold z1_ at a;rw[CT]at a;have b:=a (j-(i+1)) (A3.mpr (by omega))
 rw[show i+1+(j-(i+1))=j by omega]at b
 unfold z2_ at b;rw[CT]at b;have c:=b (k-(j+1)) (A3.mpr (by omega))
 rw[show j+1+(k-(j+1))=k by omega]at c
 unfold z3_ at c;split at c
 .cases c
 .assumption
theorem xA(h:∀ i j k,i<j->j<k->k<pts.length->Ak (atZ pts i) (atZ pts j) (atZ pts k)%p≠0):z0_ p pts=Ae:=by
 unfold z0_;rw[CT];intro i hi;unfold z1_;rw[CT];intro m hm;unfold z2_;rw[CT];intro n hn;have a:=A3.mp hi;have b:=A3.mp hm;have c:=A3.mp hn;unfold z3_;rw[AV (h i (i+1+m) (i+1+m+1+n) (by omega) (by omega) (by omega))]
theorem xC(h:z0_ p pts=Ab d):∃ x∈pts,∃ y∈pts,∃ z∈pts,d=.tup [Ao Aa x,Ao Aa y,Ao Aa z]:=by
 unfold z0_ at h;obtain⟨i,hi,h⟩:=Cn h;unfold z1_ at h;obtain⟨m,hm,h⟩:=Cn h;unfold z2_ at h;obtain⟨n,hn,h⟩:=Cn h;have a:=A3.mp hi;have b:=A3.mp hm;have c:=A3.mp hn;have mem:∀{k:Ag},k<pts.length->atZ pts k∈pts:=λ{k} hk=>by
  have e:atZ pts k=pts[k]:=by simp[atZ,hk]
  rw[e];exact CB hk
 unfold z3_ at h;split at h
 .cases h;exact⟨_,mem (by omega),_,mem (by omega),_,mem (by omega),rfl⟩
 .cases h
theorem Jd{k:Ag}(hk:k<pts.length):atZ pts k=pts[k]:=by simp[atZ,hk]
theorem xB(nd:pts.Nodup)(h:N3s p pts):z0_ p pts=Ae:=xA λi j k h1 h2 h3=>by
 have ne:∀{a b:Ag}(ha:a<pts.length)(hb:b<pts.length),a<b->pts[a]≠pts[b]:=λ{a b} ha hb hab z=>by
  have:=(HI nd).mp z;omega
 rw[Jd (by omega),Jd (by omega),Jd h3]
 exact h _ (CB _) _ (CB _) _ (CB _) (ne _ _ h1) (ne _ _ (by omega)) (ne _ _ h2)
theorem qI{y z:R3}(hx:x∈pts)(hy:y∈pts)(hz:z∈pts)(n1:x≠y)(n2:x≠z)(n3:y≠z)(h:Ak x y z%p=0):∃ d,z0_ p pts=Ab d:=by
 cases e:z0_ p pts with
 |some d=>exact⟨d,rfl⟩
 |none=>
  exfalso
  obtain⟨i,hi,rfl⟩:=DO hx;obtain⟨j,hj,rfl⟩:=DO hy;obtain⟨k,hk,rfl⟩:=DO hz;have m1:i≠j:=λz=>n1 (by subst z;rfl)
  have m2:i≠k:=λz=>n2 (by subst z;rfl)
  have m3:j≠k:=λz=>n3 (by subst z;rfl)
  have nz:∀{a b c:Ag}(ha:a<pts.length)(hb:b<pts.length)(hc:c<pts.length),a<b->b<c->Ak pts[a] pts[b] pts[c]%p≠0:=λ{a b c} ha hb hc h1 h2=>by
   have q:=wZ e h1 h2 hc;rw[Jd ha,Jd hb,Jd hc]at q;exact q
  have s1:∀ x y z:R3,Ak x y z=- Ak y x z:=λx y z=>by unfold Ak det;grind
  have s2:∀ x y z:R3,Ak x y z=- Ak x z y:=λx y z=>by unfold Ak det;grind
  have ng:∀{u:Ad},u%p=0->(-u)%p=0:=λ{u} hu=>by
   have:=Int.dvd_of_emod_eq_zero hu;exact Int.emod_eq_zero_of_dvd (Int.dvd_neg.mpr this)
  have o1:∀{x y z:R3},Ak x y z%p=0->Ak y x z%p=0:=λ{x y z} h=>by rw[s1];exact ng h
  have o2:∀{x y z:R3},Ak x y z%p=0->Ak x z y%p=0:=λ{x y z} h=>by rw[s2];exact ng h
  rcases Hb m1 with a|a<;>rcases Hb m2 with b|b<;>rcases Hb m3 with c|c
  .exact nz hi hj hk a c h
  .exact nz hi hk hj b c (o2 h)
  .omega
  .exact nz hk hi hj b a (o1 (o2 h))
  .exact nz hj hi hk a b (o1 h)
  .omega
  .exact nz hj hk hi c b (o2 (o1 h))
  .exact nz hk hj hi c a (o1 (o2 (o1 h)))
end
def Q1(Y:Gam):Prop:=∀(p n:Ad),P4 p->Y.F 231 [.int p,.int n]=.ok (Ao Aa (ptI p (n%(p*p+p+1))))
section
variable{Y:Gam}{p:Ad}{pts:Ac R3}
theorem vR(h:Q1 Y)(hp:P4 p){k:Ag}{q e:E}(hg:∀ n:Ag,(n:Ad)<p*p+p+1->cG Y U k q (.int (n:Ad))=.ok Aa/\cF Y U k e (.int (n:Ad))=Y.F 231 [.int p,.int (n:Ad)]):BQ (cG Y U k q) (cF Y U k e) (CS 0 (p*p+p+1).toNat)=.ok ((El p).map (Ao Aa)):=by
 have N1:0<=p*p+p+1/\p*p+p+1<=1000:=by rcases hp with rfl|rfl|rfl|rfl<;>decide
 have key:∀ L:Ac Ag,(∀ k∈L,(k:Ad)<p*p+p+1)->BQ (cG Y U k q) (cF Y U k e) (L.map fun(k:Ag)=>D.int (0+(k:Ad)))=.ok ((L.map fun(n:Ag)=>ptI p n).map (Ao Aa)):=by
  intro L
  induction L with
  |nil=>intro _;rfl
  |cons n L ih=>
   intro hL;have e1:=h p n hp;have hn:=hL n Az;rw[AD (by omega) hn]at e1
   obtain⟨g1,g2⟩:=hg n hn;rw[e1]at g2;have ih':=ih λm hm=>hL m (Au _ hm)
   rw[BP,C9];show (cG Y U k q (.int (n:Ad))).bind _=_;rw[g1,R.bind_ok,AI rfl,g2,R.bind_ok,show BQ _ _ (LB _ L)=_ from ih']
   rfl
 unfold El CS;exact key _ λk hk=>by have:=A3.mp hk;omega
end
section
variable{Y:Gam}{p:Ad}{pts:Ac R3}
theorem Tt{α:Type}{g:D->R Aj}{f:D->R D}(φ:α->D)(c:α->Aj)(ψ:α->D):∀ L:Ac α,(∀ x∈L,g (φ x)=.ok (c x)/\(c x=Aa->f (φ x)=.ok (ψ x)))->BQ g f (L.map φ)=.ok ((L.filter c).map ψ)
 |[],_=>rfl
 |x::L,h=>by
  obtain⟨h1,h2⟩:=h x Az;have ih:=Tt φ c ψ L λy hy=>h y (Au _ hy)
  show (g (φ x)).bind _=_;rw[h1,R.bind_ok,Eo];cases e:c x with
  |true=>
   rw[AI rfl,h2 e,R.bind_ok,show BQ _ _ (LB _ L)=_ from ih]
   rfl
  |false=>exact ih
theorem Uf{PT:Ac R3}(nd:PT.Nodup):∀(rest seen:Ac R3)(s1 s2:Sl),PT=seen++rest->∃ U':Rho,C8 (G1 Y [1,2] KF) (Fp seen.length (rest.map (Ao Aa))) [sh (AU PT),s1,s2]=.next U'
 |[],seen,s1,s2,_=>⟨_,rfl⟩
 |x::rest,seen,s1,s2,e=>by
  have s:=gW PT seen (x::rest) e;have c:=eQ x seen;have hm:x∉seen:=λz=>by
   rw[e]at nd;exact(WR.mp nd).2.2 x z x (Az ..) rfl
  rw[CM hm]at c;obtain⟨U',ih⟩:=Uf nd rest (seen++[x]) (si seen.length) (sh (Ao Aa x)) (by rw[e];simp)
  refine⟨U',?_⟩;rw[Ch,ET]at ih;rw[<-ih];show (G1 Y [1,2] KF (.tup [.int seen.length,Ao Aa x]) _).turn _=_;have t:G1 Y [1,2] KF (.tup [.int seen.length,Ao Aa x]) [sh (AU PT),s1,s2]=.next [sh (AU PT),si seen.length,sh (Ao Aa x)]:=by
   generalize AU PT=T at *;generalize AU seen=T0 at *;generalize Ao Aa x=X at *;simp[G1,KF,Gh,E2,s,c,slE]
  rw[t];rfl
theorem VT(pts:Ac R3)(nd:pts.Nodup):MY.run Y [AU pts]=.ok .non:=by
 obtain⟨U',e⟩:=Uf (Y:=Y) nd pts [] Ae Ae rfl;have sq:CC (AU pts)=.ok (pts.map (Ao Aa)):=rfl;have e':C8 (G1 Y [1,2] KF) (Fp 0 (pts.map (Ao Aa))) [sh (AU pts),Ae,Ae]=_:=e;generalize pts.map (Ao Aa)=M at *;generalize AU pts=T at *;simp[MY,Df.run,BJ,sq,e']
structure Fre (p:Ad) (l:Ac R3):Prop where
 nf:∀ x∈l,NF p x
 nd:l.Nodup
 z0:z0_ p l=Ae
 ln:(l.length:Ad)<=p+1
section
variable{Y:Gam}{p:Ad}{ns:Ac Ad}
theorem sA(hp:P4 p)(n:Ad):NF p (ptI p (n%(p*p+p+1))):=by
 have N1:0<p*p+p+1:=by rcases hp with rfl|rfl|rfl|rfl<;>decide
 have b0:=AK n (Wv N1);have b1:=AG n N1;refine(Kc hp).mp (BL.mpr ⟨(n%(p*p+p+1)).toNat,A3.mpr (by omega),?_⟩)
 show ptI p ((n%(p*p+p+1)).toNat:Ad)=_;rw[Wx b0]
end
end
noncomputable def r11(y:Ag):Ac R3:=(A4 11).map fun(z:Ag)=>((1,(y:Ad),(z:Ad)):R3)
section
variable{p:Ad}{C D O W Z_:C6}{a b c x y z:R3}
end
section
variable{Y:Gam}{ns:Ac Ad}{p:Ad}{C E:C6}{a b c:R3}
end
noncomputable def pl(p:Ad):C6:=⟨0,1,0,0,p-1,0⟩
theorem dX(h:Ny Y)(p:Ad)(hp:P4 p):Mx.run Y [.int p]=.ok (BM (pl p)):=by
 have l1:AS p [0,1,0,0,-1,0]=Ab 1:=by rcases hp with rfl|rfl|rfl|rfl<;>decide
 have i1:DX p 1 1:=by rcases hp with rfl|rfl|rfl|rfl<;>exact⟨by decide,by decide,by decide⟩
 have f1:fmI p 1 [0,1,0,0,-1,0]=(pl p).l:=by rcases hp with rfl|rfl|rfl|rfl<;>decide
 have e:=h p Aa _ 1 1 hp l1 i1;rw[f1]at e;have e':Y.F 122 [.int p,.tup [.int 0,.int 1,.int 0,.int 0,.int (-1),.int 0]]=.ok (BM (pl p)):=e;generalize BM (pl p)=X at *;simp[Mx,Df.run,BJ,e']
theorem third{a b:R3}(hp:P4 p)(na:NF p a)(nb:NF p b)(ne:a≠b):∃ c,Ak a b c%p≠0:=by
 refine Dz λn=>?_
 have h:∀ c,Ak a b c%p=0:=λc=>Dz λz=>n ⟨c,z⟩
 have e:∀ c,Ay (crs a b) c%p=0:=λc=>by rw[mD];exact h c
 have c0:=e (1,0,0);have c1:=e (0,1,0);have c2:=e (0,0,1);unfold Ay at c0 c1 c2;simp only[DB,Cw,Int.add_zero,C9]at c0 c1 c2;have z:CgR p (crs a b) (0,0,0):=⟨by show _%p=0%p;rw[c0,Bt],by show _%p=0%p;rw[c1,Bt],by show _%p=0%p;rw[c2,Bt]⟩
 exact ne (Mj hp nb na (M5 hp z na.2 nb.2)).symm
noncomputable def lc2(a:Ad)(A:C6)(b:Ad)(B:C6):C6:=⟨a*A.c0+b*B.c0,a*A.c1+b*B.c1,a*A.c2+b*B.c2,a*A.c3+b*B.c3,a*A.c4+b*B.c4,a*A.c5+b*B.c5⟩
noncomputable def l3(a:Ad)(A:C6)(b:Ad)(B:C6)(c:Ad)(G:C6):C6:=⟨a*A.c0+b*B.c0+c*G.c0,a*A.c1+b*B.c1+c*G.c1,a*A.c2+b*B.c2+c*G.c2,a*A.c3+b*B.c3+c*G.c3,a*A.c4+b*B.c4+c*G.c4,a*A.c5+b*B.c5+c*G.c5⟩
section
variable{p:Ad}{x y z w:R3}{Q A B G L M:C6}
theorem nF(x y z:R3):bk0 (x.1,y.1,z.1) (x.2.1,y.2.1,z.2.1) (x.2.2,y.2.2,z.2.2)=crs y z/\bk1 (x.1,y.1,z.1) (x.2.1,y.2.1,z.2.1) (x.2.2,y.2.2,z.2.2)=crs z x/\bk2 (x.1,y.1,z.1) (x.2.1,y.2.1,z.2.1) (x.2.2,y.2.2,z.2.2)=crs x y:=by
 refine⟨?_,?_,?_⟩<;>simp only[bk0,bk1,bk2,Bv,Bq,Bp,crs]<;>refine Bo ?_ (Bo ?_ ?_)<;>simp only<;>grind
theorem fC(x y z:R3):Ak (x.1,y.1,z.1) (x.2.1,y.2.1,z.2.1) (x.2.2,y.2.2,z.2.2)=Ak x y z:=by
 unfold Ak det;simp only;grind
theorem Pi(b0 b1 b2:Ad)(r0 r1 r2:R3):pb ⟨0,0,0,b0,b1,b2⟩ r0 r1 r2=l3 b0 (prd r0 r1) b1 (prd r0 r2) b2 (prd r1 r2):=by
 simp only[pb,l3,prd,vI,bI,Ay,ap,tw0,tw1,tw2,Bv,Bq,Bp]
 congr 1<;>grind
theorem ZS(hx:vI Q x%p=0)(hy:vI Q y%p=0)(hz:vI Q z%p=0):CgC p (scC (Ak x y z*Ak x y z) Q) (l3 (bI Q x y) (prd (crs y z) (crs z x)) (bI Q x z) (prd (crs y z) (crs x y)) (bI Q y z) (prd (crs z x) (crs x y))):=by
 obtain⟨e0,e1,e2⟩:=Vr (x.1,y.1,z.1) (x.2.1,y.2.1,z.2.1) (x.2.2,y.2.2,z.2.2);have h:=V9 Q (x.1,y.1,z.1) (x.2.1,y.2.1,z.2.1) (x.2.2,y.2.2,z.2.2) (bk0 (x.1,y.1,z.1) (x.2.1,y.2.1,z.2.1) (x.2.2,y.2.2,z.2.2)) (bk1 (x.1,y.1,z.1) (x.2.1,y.2.1,z.2.1) (x.2.2,y.2.2,z.2.2)) (bk2 (x.1,y.1,z.1) (x.2.1,y.2.1,z.2.1) (x.2.2,y.2.2,z.2.2));rw[e0,e1,e2,Wa,fC]at h;obtain⟨f0,f1,f2⟩:=nF x y z;rw[f0,f1,f2]at h;rw[<-h,<-Pi];refine Ln ?_ ⟨Cg.rfl,Cg.rfl,Cg.rfl⟩ ⟨Cg.rfl,Cg.rfl,Cg.rfl⟩ ⟨Cg.rfl,Cg.rfl,Cg.rfl⟩;have k:∀{n:Ad},n%p=0->Cg p n 0:=λ{n} h=>by show n%p=0%p;rw[h,Bt]
 exact⟨k hx,k hy,k hz,Cg.rfl,Cg.rfl,Cg.rfl⟩
theorem Y_5(x y z w:R3):AO (Ak x y z) w=(Ak w y z*x.1+Ak x w z*y.1+Ak x y w*z.1,Ak w y z*x.2.1+Ak x w z*y.2.1+Ak x y w*z.2.1,Ak w y z*x.2.2+Ak x w z*y.2.2+Ak x y w*z.2.2):=by
 unfold AO Ak det;refine Bo ?_ (Bo ?_ ?_)<;>simp only<;>grind
theorem wY(x y z w:R3):AO (Ak x y z) (crs z w)=(Ak w y z*(crs z x).1-Ak x w z*(crs y z).1,Ak w y z*(crs z x).2.1-Ak x w z*(crs y z).2.1,Ak w y z*(crs z x).2.2-Ak x w z*(crs y z).2.2):=by
 unfold AO Ak det crs;refine Bo ?_ (Bo ?_ ?_)<;>simp only<;>grind
theorem xD(x y z w:R3):AO (Ak x y z) (crs y w)=(Ak x y w*(crs y z).1-Ak w y z*(crs x y).1,Ak x y w*(crs y z).2.1-Ak w y z*(crs x y).2.1,Ak x y w*(crs y z).2.2-Ak w y z*(crs x y).2.2):=by
 unfold AO Ak det crs;refine Bo ?_ (Bo ?_ ?_)<;>simp only<;>grind
theorem Zv(x y z w:R3):scC (Ak x y z) (prd (crs x y) (crs z w))=lc2 (Ak w y z) (prd (crs z x) (crs x y)) (-Ak x w z) (prd (crs y z) (crs x y)):=by
 have e:=wY x y z w;unfold AO at e;simp only[Jn]at e;obtain⟨e0,e1,e2⟩:=e;generalize Ak x y z=d at *;generalize Ak w y z=u0 at *;generalize Ak x w z=u1 at *;generalize crs z w=c at *;generalize crs x y=r2 at *;generalize crs y z=r0 at *;generalize crs z x=r1 at *;simp only[scC,lc2,prd]
 congr 1<;>grind
theorem Zt(x y z w:R3):scC (Ak x y z) (prd (crs x z) (crs y w))=lc2 (Ak w y z) (prd (crs z x) (crs x y)) (-Ak x y w) (prd (crs y z) (crs z x)):=by
 have e:=xD x y z w;have f:crs x z=AO (-1) (crs z x):=by
  unfold AO crs;refine Bo ?_ (Bo ?_ ?_)<;>simp only<;>grind
 rw[f];unfold AO at e ⊢;simp only[Jn]at e;obtain⟨e0,e1,e2⟩:=e;generalize Ak x y z=d at *;generalize Ak w y z=u0 at *;generalize Ak x y w=u2 at *;generalize crs y w=c at *;generalize crs x y=r2 at *;generalize crs y z=r0 at *;generalize crs z x=r1 at *;simp only[scC,lc2,prd]
 congr 1<;>grind
theorem z0{n:Ad}(h:n%p=0):Cg p n 0:=by show n%p=0%p;rw[h,Bt]
theorem z0'{n:Ad}(h:Cg p n 0):n%p=0:=by
 have:n%p=0%p:=h;rw[this,Bt]
section
variable{d u0 u1 u2 b0 b1 b2 q A B G l m:Ad}
end
theorem uW{a a' b b':Ad}{L' M':C6}(ha:Cg p a a')(hL:CgC p L L')(hb:Cg p b b')(hM:CgC p M M'):CgC p (lc2 a L b M) (lc2 a' L' b' M'):=
 ⟨(ha.mul hL.1).add (hb.mul hM.1),(ha.mul hL.2.1).add (hb.mul hM.2.1),(ha.mul hL.2.2.1).add (hb.mul hM.2.2.1),(ha.mul hL.2.2.2.1).add (hb.mul hM.2.2.2.1),(ha.mul hL.2.2.2.2.1).add (hb.mul hM.2.2.2.2.1),(ha.mul hL.2.2.2.2.2).add (hb.mul hM.2.2.2.2.2)⟩
theorem uV{l:Ad}(hp:P4 p)(lQ:AS p Q.l=Ab l)(h:CgC p Q ⟨0,0,0,0,0,0⟩):Bz:=by
 have:AS p Q.l=Ae:=Jb.mpr λn hn=>by
  simp only[C6.l,At,AR,BO]at hn;obtain⟨h0,h1,h2,h3,h4,h5⟩:=h;rcases hn with rfl|rfl|rfl|rfl|rfl|rfl
  .exact z0' h0
  .exact z0' h1
  .exact z0' h2
  .exact z0' h3
  .exact z0' h4
  .exact z0' h5
 rw[this]at lQ;cases lQ
theorem fO(hp:P4 p){d:Ad}(dz:d%p≠0)(h:CgC p (scC d Q) ⟨0,0,0,0,0,0⟩):CgC p Q ⟨0,0,0,0,0,0⟩:=⟨z0 ((FW hp dz).mp (z0' h.1)),z0 ((FW hp dz).mp (z0' h.2.1)),z0 ((FW hp dz).mp (z0' h.2.2.1)),z0 ((FW hp dz).mp (z0' h.2.2.2.1)),z0 ((FW hp dz).mp (z0' h.2.2.2.2.1)),z0 ((FW hp dz).mp (z0' h.2.2.2.2.2))⟩
end
--
--
noncomputable def MC:Ss:=(.cons (.asg 3 Af (.bin .Add (.sl (.var 1) .non (.var 2)) (.sl (.var 1) (.bin .Add (.var 2) (.int 1)) .non))) (.cons (.ife (.and (.cons (.cmp .Eq (.call 61 (.cons (.var 0) (.cons (.idx (.var 3) (.int 0)) (.cons (.idx (.var 3) (.int 1)) (.cons (.idx (.var 3) (.int 2)) .nil))))) (.int 0)) (.cons (.cmp .Eq (.call 61 (.cons (.var 0) (.cons (.idx (.var 3) (.int 0)) (.cons (.idx (.var 3) (.int 1)) (.cons (.idx (.var 3) (.int 3)) .nil))))) (.int 0)) .nil))) (.cons (.ret (.bi .tuple (.cons (.var 3) .nil))) .nil) .nil) .nil))
--
noncomputable def LS:Df:=⟨4,Af,(.cons (.fors 2 (.e (.tup (.cons (.int 4) (.cons (.int 3) (.cons (.int 2) (.cons (.int 1) (.cons (.int 0) .nil))))))) MC) (.cons (.ret .non) .nil))⟩
--
noncomputable def Op:Df:=⟨2,Af,(.cons (.ret (.tup (.cons (.bin .Mult (.idx (.var 0) (.int 0)) (.idx (.var 1) (.int 0))) (.cons (.bin .Mult (.idx (.var 0) (.int 1)) (.idx (.var 1) (.int 1))) (.cons (.bin .Mult (.idx (.var 0) (.int 2)) (.idx (.var 1) (.int 2))) (.cons (.bin .Add (.bin .Mult (.idx (.var 0) (.int 0)) (.idx (.var 1) (.int 1))) (.bin .Mult (.idx (.var 0) (.int 1)) (.idx (.var 1) (.int 0)))) (.cons (.bin .Add (.bin .Mult (.idx (.var 0) (.int 0)) (.idx (.var 1) (.int 2))) (.bin .Mult (.idx (.var 0) (.int 2)) (.idx (.var 1) (.int 0)))) (.cons (.bin .Add (.bin .Mult (.idx (.var 0) (.int 1)) (.idx (.var 1) (.int 2))) (.bin .Mult (.idx (.var 0) (.int 2)) (.idx (.var 1) (.int 1)))) .nil)))))))) .nil)⟩
noncomputable def Oo:E:=(.bin .Sub (.bin .Mult (.var 4) (.var 6)) (.bin .Mult (.var 5) (.var 7)))
--
noncomputable def LR:Df:=⟨8,Af,(.cons (.asg 2 Af (.call 196 (.cons (.call 57 (.cons (.var 0) (.cons (.idx (.var 1) (.int 0)) (.cons (.idx (.var 1) (.int 1)) .nil)))) (.cons (.call 57 (.cons (.var 0) (.cons (.idx (.var 1) (.int 2)) (.cons (.idx (.var 1) (.int 3)) .nil)))) .nil)))) (.cons (.asg 3 Af (.call 196 (.cons (.call 57 (.cons (.var 0) (.cons (.idx (.var 1) (.int 0)) (.cons (.idx (.var 1) (.int 2)) .nil)))) (.cons (.call 57 (.cons (.var 0) (.cons (.idx (.var 1) (.int 1)) (.cons (.idx (.var 1) (.int 3)) .nil)))) .nil)))) (.cons (.asg 4 Af (.call 126 (.cons (.var 0) (.cons (.var 3) (.cons (.idx (.var 1) (.int 4)) .nil))))) (.cons (.asg 5 Af (.call 126 (.cons (.var 0) (.cons (.var 2) (.cons (.idx (.var 1) (.int 4)) .nil))))) (.cons (.ret (.call 122 (.cons (.var 0) (.cons (.compT Oo [6,7] (.zip (.var 2) (.var 3)) Cu) .nil)))) .nil)))))⟩
--
noncomputable def MD:Df:=⟨3,Af,(.cons (.ife (.cmp .NotEq (.bi .len (.cons (.var 1) .nil)) (.int 5)) (.cons (.rais 13 (.cons (.str (AN "a curve is told by five points")) .nil)) .nil) .nil) (.cons (.expr (.call 194 (.cons (.var 1) .nil))) (.cons (.asg 2 Af (.call 195 (.cons (.var 0) (.cons (.var 1) .nil)))) (.cons (.ife (.cmp .IsNot (.var 2) .non) (.cons (.rais 118 (.cons (.var 2) .nil)) .nil) .nil) (.cons (.ret (.call 197 (.cons (.var 0) (.cons (.var 1) .nil)))) .nil)))))⟩
section
variable{Y:Gam}{p:Ad}{P0 P1 P2 P3 P4:D}
noncomputable def five(P0 P1 P2 P3 P4:D):D:=.lst [P0,P1,P2,P3,P4]
theorem Mb{k a b:Ad}{q0 q1 q2 q3:D}{u v:Ac D}{s2:Sl}(c0:slD PP Ae (Ab k)=.ok (.lst u))(c1:slD PP (Ab (k+1)) Ae=.ok (.lst v))(ad:C1 .Add (.lst u) (.lst v)=.ok (.lst [q0,q1,q2,q3]))(e0:Y.F 61 [.int p,q0,q1,q2]=.ok (.int a))(e1:Y.F 61 [.int p,q0,q1,q3]=.ok (.int b))(h:¬ (a=0/\b=0)):BH Y 2 MC (.int k) [si p,sh PP,s2,s3]=.next [si p,sh PP,si k,sh (.lst [q0,q1,q2,q3])]:=by
 have i0:CF (.lst [q0,q1,q2,q3]) (.int 0)=.ok q0:=rfl;have i1:CF (.lst [q0,q1,q2,q3]) (.int 1)=.ok q1:=rfl;have i2:CF (.lst [q0,q1,q2,q3]) (.int 2)=.ok q2:=rfl;have i3:CF (.lst [q0,q1,q2,q3]) (.int 3)=.ok q3:=rfl;generalize D.lst [q0,q1,q2,q3]=FF at *;generalize D.lst u=U_ at *;generalize D.lst v=V at *;by_cases ha:a=0
 .have hb:b≠0:=λz=>h ⟨ha,z⟩
  simp[BH,MC,c0,c1,ad,i0,i1,i2,i3,e0,e1,ha,hb]
 .simp[BH,MC,c0,c1,ad,i0,i1,i2,i3,e0,e1,ha]
theorem YX{m012 m013 m014 m023 m024 m123 m124:Ad}(e012:Y.F 61 [.int p,P0,P1,P2]=.ok (.int m012))(e013:Y.F 61 [.int p,P0,P1,P3]=.ok (.int m013))(e014:Y.F 61 [.int p,P0,P1,P4]=.ok (.int m014))(e023:Y.F 61 [.int p,P0,P2,P3]=.ok (.int m023))(e024:Y.F 61 [.int p,P0,P2,P4]=.ok (.int m024))(e123:Y.F 61 [.int p,P1,P2,P3]=.ok (.int m123))(e124:Y.F 61 [.int p,P1,P2,P4]=.ok (.int m124))(h4:¬ (m012=0/\m013=0))(h3:¬ (m012=0/\m014=0))(h2:¬ (m013=0/\m014=0))(h1:¬ (m023=0/\m024=0))(h0:¬ (m123=0/\m124=0)):LS.run Y [.int p,five P0 P1 P2 P3 P4]=.ok .non:=by
 have t4:=fun(s2 s3:Sl)=>Mb (Y:=Y) (p:=p) (k:=4) (PP:=five P0 P1 P2 P3 P4) (s2:=s2) (s3:=s3) rfl rfl rfl e012 e013 h4
 have t3:=fun(s2 s3:Sl)=>Mb (Y:=Y) (p:=p) (k:=3) (PP:=five P0 P1 P2 P3 P4) (s2:=s2) (s3:=s3) rfl rfl rfl e012 e014 h3
 have t2:=fun(s2 s3:Sl)=>Mb (Y:=Y) (p:=p) (k:=2) (PP:=five P0 P1 P2 P3 P4) (s2:=s2) (s3:=s3) rfl rfl rfl e013 e014 h2
 have t1:=fun(s2 s3:Sl)=>Mb (Y:=Y) (p:=p) (k:=1) (PP:=five P0 P1 P2 P3 P4) (s2:=s2) (s3:=s3) rfl rfl rfl e023 e024 h1
 have t0:=fun(s2 s3:Sl)=>Mb (Y:=Y) (p:=p) (k:=0) (PP:=five P0 P1 P2 P3 P4) (s2:=s2) (s3:=s3) rfl rfl rfl e123 e124 h0
 generalize five P0 P1 P2 P3 P4=PP at *;simp[LS,Df.run,BJ,C8,t4,t3,t2,t1,t0]
theorem tJ{R:D}(e1:Y.F 194 [five P0 P1 P2 P3 P4]=.ok .non)(e2:Y.F 195 [.int p,five P0 P1 P2 P3 P4]=.ok .non)(e3:Y.F 197 [.int p,five P0 P1 P2 P3 P4]=.ok R):MD.run Y [.int p,five P0 P1 P2 P3 P4]=.ok R:=by
 have ln:biD .len [five P0 P1 P2 P3 P4]=.ok (.int 5):=rfl;generalize five P0 P1 P2 P3 P4=PP at *;simp[MD,Df.run,BJ,ln,e1,e2,e3]
end
structure Five (p:Ad) (C:C6) (pts:Ac R3):Prop where
 len:pts.length=5
 nd:pts.Nodup
 nf:∀ x∈pts,NF p x
 on:∀ x∈pts,vI C x%p=0
 n4:∀ n:R3,¬ CgR p n (0,0,0)->(pts.filter λx=>decide (Ay n x%p=0)).length<=3
theorem Five.perm{a b:Ac R3}(h:Five p C a)(e:b.Perm a):Five p C b:=
 ⟨e.length_eq.trans h.len,e.nodup_iff.mpr h.nd,λx hx=>h.nf x (e.mem_iff.mp hx),λx hx=>h.on x (e.mem_iff.mp hx),λn hn=>by rw[(e.filter _).length_eq];exact h.n4 n hn⟩
theorem Pa(a b c d e:R3):AU [a,b,c,d,e]=five (Ao Aa a) (Ao Aa b) (Ao Aa c) (Ao Aa d) (Ao Aa e):=rfl
section
variable{Y:Gam}{p:Ad}{C:C6}
theorem NV(x y z:R3):Ay (crs x y) z=Ak x y z:=by
 unfold Ay crs Ak det;grind
def VJ(Y:Gam):Prop:=∀(p:Ad)(a b:R3),P4 p->In3 p a->In3 p b->Y.F 196 [Ao Aa a,Ao Aa b]=.ok (BM (prd a b))
theorem rQ(Y:Gam)(p:Ad)(a b:R3)(hp:P4 p)(ia:In3 p a)(ib:In3 p b):Op.run Y [Ao Aa a,Ao Aa b]=.ok (BM (prd a b)):=by
 have ba:=Cv hp ia;have bb:=Cv hp ib;have k:∀ {u v},Bd 10 u->Bd 10 v->EO u v=Aa:=λhu hv=>Gg hu hv (by decide) (by decide)
 obtain⟨x0,x1,x2⟩:=FG Aa a;obtain⟨y0,y1,y2⟩:=FG Aa b;simp[Op,Df.run,BJ,x0,x1,x2,y0,y1,y2,k ba.1 bb.1,k ba.2.1 bb.2.1,k ba.2.2 bb.2.2,k ba.1 bb.2.1,k ba.2.1 bb.1,k ba.1 bb.2.2,k ba.2.2 bb.1,k ba.2.1 bb.2.2,k ba.2.2 bb.2.1];rfl
theorem Nl{a b:R3}(hp:P4 p)(ia:In3 p a)(ib:In3 p b):BC (prd a b):=by
 have hh:=hp.hi;have k:∀{x y:Ad},0<=x/\x<p->0<=y/\y<p->0<=x*y/\x*y<=100:=λ{x y} hx hy=>by
  refine⟨GY hx.1 hy.1,?_⟩;exact Jr (Wu (show x<=10 by omega) (show y<=10 by omega) hy.1 (by decide)) (by decide)
 have b1:∀{n:Ad},0<=n/\n<=100->Bd 10 n:=λh=>by unfold Bd;omega
 have b2:∀{m n:Ad},0<=m/\m<=100->0<=n/\n<=100->Bd 10 (m+n):=λh g=>by unfold Bd;omega
 obtain⟨a0,a1,a2⟩:=ia;obtain⟨b0,b1',b2'⟩:=ib;exact⟨b1 (k a0 b0),b1 (k a1 b1'),b1 (k a2 b2'),b2 (k a0 b1') (k a1 b0),b2 (k a0 b2') (k a2 b0),b2 (k a1 b2') (k a2 b1')⟩
def VH(Y:Gam):Prop:=∀(p:Ad)(C:C6)(x:R3),P4 p->BC C->In3 p x->Y.F 126 [.int p,BM C,Ao Aa x]=.ok (.int (vI C x%p))
theorem tH(hr:Iz Y)(p:Ad)(C:C6)(x:R3)(hp:P4 p)(bC:BC C)(ix:In3 p x):L4.run Y [.int p,BM C,Ao Aa x]=.ok (.int (vI C x%p)):=by
 obtain⟨i0,i1,i2,i3,i4,i5⟩:=ix6 C;obtain⟨x0,x1,x2⟩:=FG Aa x;have bx:=Cv hp ix;have k:∀ {u v},Bd 10 u->Bd 10 v->EO u v=Aa:=λhu hv=>Gg hu hv (by decide) (by decide)
 have k2:∀ {u v w},Bd 10 u->Bd 10 v->Bd 10 w->EO (u*v) w=Aa:=λhu hv hw=>Gg (hu.mul hv) hw (by decide) (by decide)
 simp[L4,Df.run,BJ,i0,i1,i2,i3,i4,i5,x0,x1,x2,k bC.b0 bx.1,k bC.b1 bx.2.1,k bC.b2 bx.2.2,k bC.b3 bx.1,k bC.b4 bx.1,k bC.b5 bx.2.1,k2 bC.b0 bx.1 bx.1,k2 bC.b1 bx.2.1 bx.2.1,k2 bC.b2 bx.2.2 bx.2.2,k2 bC.b3 bx.1 bx.2.1,k2 bC.b4 bx.1 bx.2.2,k2 bC.b5 bx.2.1 bx.2.2,hr p _ hp.pos];rfl
theorem tK{P0 P1 P2 P3 P4 A B A' B' R:D}{L M:C6}{l m:Ad}(bL:BC L)(bM:BC M)(bl:Bd 10 l)(bm:Bd 10 m)(e01:Y.F 57 [.int p,P0,P1]=.ok A)(e23:Y.F 57 [.int p,P2,P3]=.ok B)(eL:Y.F 196 [A,B]=.ok (BM L))(e02:Y.F 57 [.int p,P0,P2]=.ok A')(e13:Y.F 57 [.int p,P1,P3]=.ok B')(eM:Y.F 196 [A',B']=.ok (BM M))(vM:Y.F 126 [.int p,BM M,P4]=.ok (.int m))(vL:Y.F 126 [.int p,BM L,P4]=.ok (.int l))(ec:Y.F 122 [.int p,.lst (ds (lc2 m L (-l) M).l)]=.ok R):LR.run Y [.int p,five P0 P1 P2 P3 P4]=.ok R:=by
 have i0:CF (five P0 P1 P2 P3 P4) (.int 0)=.ok P0:=rfl;have i1:CF (five P0 P1 P2 P3 P4) (.int 1)=.ok P1:=rfl;have i2:CF (five P0 P1 P2 P3 P4) (.int 2)=.ok P2:=rfl;have i3:CF (five P0 P1 P2 P3 P4) (.int 3)=.ok P3:=rfl;have i4:CF (five P0 P1 P2 P3 P4) (.int 4)=.ok P4:=rfl;have sL:CC (BM L)=.ok (ds L.l):=rfl;have sM:CC (BM M)=.ok (ds M.l):=rfl;have k:∀ {u v},Bd 10 u->Bd 10 v->EO u v=Aa:=λhu hv=>Gg hu hv (by decide) (by decide)
 have cp:∀(PP cL cM:D),BQ (cGT Y [si p,sh PP,sh cL,sh cM,si m,si l,Ae,Ae] [6,7] Cu) (cFT Y [si p,sh PP,sh cL,sh cM,si m,si l,Ae,Ae] [6,7] Oo) (E5 (ds L.l) (ds M.l))=.ok (ds (lc2 m L (-l) M).l):=λPP cL cM=>by
  obtain⟨l0,l1,l2,l3,l4,l5⟩:=L;obtain⟨m0,m1,m2,m3,m4,m5⟩:=M;have n:∀ a b:Ad,m*a + -l*b=m*a-l*b:=λa b=>by rw[Int.neg_mul,Int.sub_eq_add_neg]
  simp[BQ,cGT,cFT,E5,ds,C6.l,lc2,Oo,Cu,n,k bm bL.b0,k bm bL.b1,k bm bL.b2,k bm bL.b3,k bm bL.b4,k bm bL.b5,k bl bM.b0,k bl bM.b1,k bl bM.b2,k bl bM.b3,k bl bM.b4,k bl bM.b5]
 generalize five P0 P1 P2 P3 P4=PP at *;generalize ds (lc2 m L (-l) M).l=FF at *;generalize ds L.l=LL at *;generalize ds M.l=MM at *;generalize BM L=cL at *;generalize BM M=cM at *;simp[LR,Df.run,BJ,i0,i1,i2,i3,i4,e01,e23,eL,e02,e13,eM,vM,vL,sL,sM,cp,ec]
theorem sD{a a' b b':R3}(ha:CgR p a a')(hb:CgR p b b'):CgC p (prd a b) (prd a' b'):=
 ⟨ha.1.mul hb.1,ha.2.1.mul hb.2.1,ha.2.2.mul hb.2.2,(ha.1.mul hb.2.1).add (ha.2.1.mul hb.1),(ha.1.mul hb.2.2).add (ha.2.2.mul hb.1),(ha.2.1.mul hb.2.2).add (ha.2.2.mul hb.2.1)⟩
theorem UJ(hp:P4 p){a a' b b':R3}(ha:Pr p a a')(hb:Pr p b b'):PrC p (prd a b) (prd a' b'):=by
 obtain⟨d,dz,e⟩:=ha;obtain⟨d',dz',e'⟩:=hb;refine⟨d*d',By hp dz dz',(sD e e').trans (CgC.of ?_)⟩;unfold prd scC AO
 congr 1<;>grind
theorem tL(hp:P4 p){L M L' M':C6}(hL:PrC p L' L)(hM:PrC p M' M)(v:R3):PrC p (lc2 (vI M' v%p) L' (-(vI L' v%p)) M') (lc2 (vI M v) L (-vI L v) M):=by
 obtain⟨d,dz,e⟩:=hL;obtain⟨d',dz',e'⟩:=hM;refine⟨d*d',By hp dz dz',?_⟩;have r:CgR p v v:=⟨Cg.rfl,Cg.rfl,Cg.rfl⟩;have q:=ID e r;have q':=ID e' r;rw[No]at q q';have neg:∀{a b:Ad},Cg p a b->Cg p (-a) (-b):=λ{a b} h=>by
  have:=(Cg.rfl (p:=p) (a:=0)).sub h
  rwa [Wy,Wy]at this
 refine(uW ((Cg.md rfl).trans q') e (neg ((Cg.md rfl).trans q)) e').trans (CgC.of ?_);generalize vI M v=m;generalize vI L v=l;unfold lc2 scC
 congr 1<;>grind
theorem cP(hp:P4 p){l:Ad}{E:C6}(lC:AS p C.l=Ab l)(h:PrC p E C):∃ l',AS p E.l=Ab l':=by
 cases e:AS p E.l with
 |some l'=>exact⟨l',rfl⟩
 |none=>
  exfalso
  obtain⟨d,dz,q⟩:=h;have z:=Jb.mp e;have k:∀{n:Ad},n∈E.l->Cg p n 0:=λhn=>z0 (z _ hn)
  have q2:CgC p E ⟨0,0,0,0,0,0⟩:=⟨k (by simp[C6.l]),k (by simp[C6.l]),k (by simp[C6.l]),k (by simp[C6.l]),k (by simp[C6.l]),k (by simp[C6.l])⟩
  exact uV hp lC (fO hp dz (q.symm.trans q2))
noncomputable def Fc(a b c d e:R3):C6:=lc2 (vI (prd (crs a c) (crs b d)) e) (prd (crs a b) (crs c d)) (-vI (prd (crs a b) (crs c d)) e) (prd (crs a c) (crs b d))
end
section
variable{p:Ad}{r n a b c x y z u:R3}
theorem par(hp:P4 p)(h1:CgR p (crs r n) (0,0,0))(h2:CgR p (crs r a) (0,0,0))(rz:¬ CgR p r (0,0,0))(nz:¬ CgR p n (0,0,0))(e:Ay n z%p=0):Ay a z%p=0:=by
 obtain⟨f0,f1,f2⟩:=h1;obtain⟨g0,g1,g2⟩:=h2;simp only[crs]at f0 f1 f2 g0 g1 g2;have sw:∀{x y:Ad},Cg p (x-y) 0->Cg p x y:=λ{x y} h=>(Cg.of (by omega)).trans ((h.add (Cg.rfl (a:=y))).trans (Cg.of (by omega)))
 have d1:=sw f0;have d2:=sw f1;have d3:=sw f2;have c1:=sw g0;have c2:=sw g1;have c3:=sw g2
 -- r i n j=r j n i
 have key:∀ ri ni ai:Ad,Cg p (ri*n.1) (r.1*ni)->Cg p (ri*n.2.1) (r.2.1*ni)->Cg p (ri*n.2.2) (r.2.2*ni)->Cg p (ri*a.1) (r.1*ai)->Cg p (ri*a.2.1) (r.2.1*ai)->Cg p (ri*a.2.2) (r.2.2*ai)->ni%p≠0->Ay a z%p=0:=λri ni ai k0 k1 k2 l0 l1 l2 hz=>by
  have rn:ri%p≠0:=λq=>rz ⟨?_,?_,?_⟩
  .have s1:Cg p (ni*Ay r z) 0:=by
    have t:=(((k0.mul (Cg.rfl (a:=z.1))).add (k1.mul (Cg.rfl (a:=z.2.1)))).add (k2.mul (Cg.rfl (a:=z.2.2)))).symm;refine(Cg.of ?_).trans (t.trans ((Cg.of ?_).trans (((Cg.rfl (a:=ri)).mul (z0 e)).trans (Cg.of (Cw _)))))
    .unfold Ay;clear e k0 k1 k2 l0 l1 l2 t c1 c2 c3 d1 d2 d3 f0 f1 f2 g0 g1 g2 sw;grind
    .unfold Ay;clear e k0 k1 k2 l0 l1 l2 t c1 c2 c3 d1 d2 d3 f0 f1 f2 g0 g1 g2 sw;grind
   have s2:=z0 ((FW hp hz).mp (z0' s1));have s3:Cg p (ri*Ay a z) 0:=by
    have t:=(((l0.mul (Cg.rfl (a:=z.1))).add (l1.mul (Cg.rfl (a:=z.2.1)))).add (l2.mul (Cg.rfl (a:=z.2.2))));refine(Cg.of ?_).trans (t.trans ((Cg.of ?_).trans (((Cg.rfl (a:=ai)).mul s2).trans (Cg.of (Cw _)))))
    .unfold Ay;clear e k0 k1 k2 l0 l1 l2 t c1 c2 c3 d1 d2 d3 f0 f1 f2 g0 g1 g2 sw s1 s2;grind
    .unfold Ay;clear e k0 k1 k2 l0 l1 l2 t c1 c2 c3 d1 d2 d3 f0 f1 f2 g0 g1 g2 sw s1 s2;grind
   exact(FW hp rn).mp (z0' s3)
  all_goals
   refine z0 ((FW hp hz).mp (z0' ?_))
  .exact(Cg.of (BK _ _)).trans (k0.symm.trans (((z0 q).mul Cg.rfl).trans (Cg.of (FB _))))
  .exact(Cg.of (BK _ _)).trans (k1.symm.trans (((z0 q).mul Cg.rfl).trans (Cg.of (FB _))))
  .exact(Cg.of (BK _ _)).trans (k2.symm.trans (((z0 q).mul Cg.rfl).trans (Cg.of (FB _))))
 by_cases n0:n.1%p=0
 .by_cases n1:n.2.1%p=0
  .have n2:n.2.2%p≠0:=λq=>nz ⟨z0 n0,z0 n1,z0 q⟩
   exact key r.2.2 n.2.2 a.2.2 d2 d1.symm Cg.rfl c2 c1.symm Cg.rfl n2
  .exact key r.2.1 n.2.1 a.2.1 d3.symm Cg.rfl d1 c3.symm Cg.rfl c1 n1
 .exact key r.1 n.1 a.1 Cg.rfl d3 d2.symm Cg.rfl c3 c2.symm n0
end
section
variable{p:Ad}{C:C6}
structure N3 (p:Ad) (pts:Ac R3):Prop where
 nd:pts.Nodup
 nf:∀ x∈pts,NF p x
 n3:∀ x y u,x∈pts->y∈pts->u∈pts->x≠y->x≠u->y≠u->Ak x y u%p≠0
theorem N3.perm{a b:Ac R3}(h:N3 p a)(e:b.Perm a):N3 p b:=⟨e.nodup_iff.mpr h.nd,λx hx=>h.nf x (e.mem_iff.mp hx),λx y u hx hy hu=>h.n3 x y u (e.mem_iff.mp hx) (e.mem_iff.mp hy) (e.mem_iff.mp hu)⟩
theorem N3.sub{a b:Ac R3}(h:N3 p a)(e:b.Sublist a):N3 p b:=⟨e.nodup h.nd,λx hx=>h.nf x (e.subset hx),λx y u hx hy hu=>h.n3 x y u (e.subset hx) (e.subset hy) (e.subset hu)⟩
end
noncomputable def J7:Df:=⟨3,Af,(.cons (.ife (.cmp .Lt (.bi .len (.cons (.var 1) .nil)) (.int 5)) (.cons (.asg 2 Af (.call 123 (.cons (.var 0) .nil))) (.cons (.ret (.call 133 (.cons (.var 0) (.cons (.var 2) (.cons (.call 112 (.cons (.var 0) (.cons (.call 128 (.cons (.var 0) (.cons (.var 2) .nil))) (.cons (.var 1) .nil)))) .nil))))) .nil)) .nil) (.cons (.ret (.call 198 (.cons (.var 0) (.cons (.sl (.var 1) .non (.int 5)) .nil)))) .nil))⟩
section
variable{Y:Gam}{p:Ad}{pts:Ac R3}
theorem n3Z(nd:pts.Nodup)(nf:∀ x∈pts,NF p x)(h:z0_ p pts=Ae):N3 p pts:=⟨nd,nf,λx y u hx hy hu n1 n2 n3 z=>by
 obtain⟨d,e⟩:=qI hx hy hu n1 n2 n3 z;rw[h]at e;cases e⟩
theorem Rz{l:Ac α}(h:l.length=4):∃ a b c d,l=[a,b,c,d]:=by
  match l,h with
  |[a,b,c,d],_=>exact⟨a,b,c,d,rfl⟩
theorem Ry{l:Ac α}(h:l.length=5):∃ a b c d e,l=[a,b,c,d,e]:=by
  match l,h with
  |[a,b,c,d,e],_=>exact⟨a,b,c,d,e,rfl⟩
theorem tB{T cC PT M R:D}{n:Ad}(ln:biD .len [T]=.ok (.int n))(h:n<5)(e1:Y.F 123 [.int p]=.ok cC)(e2:Y.F 128 [.int p,cC]=.ok PT)(e3:Y.F 112 [.int p,PT,T]=.ok M)(e4:Y.F 133 [.int p,cC,M]=.ok R):J7.run Y [.int p,T]=.ok R:=by
 simp[J7,Df.run,BJ,ln,h,e1,e2,e3,e4]
theorem sY{T T5 R:D}{n:Ad}(ln:biD .len [T]=.ok (.int n))(h:¬ n<5)(sl:slD T Ae (Ab 5)=.ok T5)(e:Y.F 198 [.int p,T5]=.ok R):J7.run Y [.int p,T]=.ok R:=by
 simp[J7,Df.run,BJ,ln,h,sl,slE,e]
end
section
variable{p:Ad}
theorem jl(hp:P4 p){a b:R3}(na:NF p a)(nb:NF p b)(ne:a≠b):NF p (nrm p (crs a b))/\Pr p (nrm p (crs a b)) (crs a b):=by
 cases el:AS p (tri (crs a b)) with
 |none=>exact absurd (PU hp nb.1 na.1 nb.2 na.2 (M5 hp (Py el) na.2 nb.2)).symm ne
 |some l=>exact KQ hp el
noncomputable def thr(p:Ad)(a:R3):Ac R3:=(El p).filter λm=>decide (Ay a m%p=0)
theorem iM(hp:P4 p)(na:NF p a):((thr p a).length:Ad)=p+1:=by
 have h:∀ x∈El p,((thr p x).length:Ad)=p+1:=by
  rcases hp with rfl|rfl|rfl|rfl<;>decide+kernel
 exact h a ((Kc hp).mpr na)
end
section
variable{Y:Gam}{p:Ad}{pts:Ac R3}
theorem Fre.n3(f:Fre p pts):N3 p pts:=n3Z f.nd f.nf f.z0
end
section
variable{p:Ad}
noncomputable def pdL(l:Ac Ad):Ad:=l.foldr (· * ·) 1
theorem S0{x:Ad}:∀{l:Ac Ad},x∈l->pdL l=x*pdL (l.erase x)
 |y::l,h=>by
  by_cases e:y=x
  .subst e;rw[List.erase_cons_head];rfl
  .have hx:x∈l:=(At.mp h).resolve_left (λz=>e z.symm)
   rw[List.erase_cons_tail (by simpa using e)]
   show y*pdL l=x*(y*pdL (l.erase x));rw[S0 hx];grind
theorem TH:∀{l1 l2:Ac Ad},l1.Nodup->(∀ x∈l1,x∈l2)->l1.length=l2.length->pdL l1=pdL l2
 |[],l2,_,_,e=>by rw[List.length_eq_zero_iff.mp e.symm]
 |x::l1,l2,nd,h,e=>by
  obtain⟨n1,n2⟩:=BZ.mp nd;have hx:=h x Az;rw[S0 hx,<-TH (l2:=l2.erase x) n2 (λy hy=>(WO (fun(e:y=x)=>n1 (e ▸ hy))).mpr (h y (Au _ hy))) (by rw[Da hx];rw[BU]at e;omega)]
  rfl
noncomputable def nzL(p:Ad):Ac Ad:=(A4 (p-1).toNat).map fun(n:Ag)=>(n:Ad)+1
theorem qK(hp:P4 p){L:Ac Ad}(nd:L.Nodup)(len:(L.length:Ad)=p-1)(h:∀ x∈L,0<=x/\x<p/\x≠0):Cg p (pdL L) (-1):=by
 have l2:(nzL p).length=(p-1).toNat:=by unfold nzL;rw[AZ,Hv]
 rw[TH nd (l2:=nzL p) (λx hx=>by
  obtain⟨h0,h1,h2⟩:=h x hx;exact BL.mpr ⟨(x-1).toNat,A3.mpr (by omega),by omega⟩) (by omega)]
 unfold Cg;rcases hp with rfl|rfl|rfl|rfl<;>decide
theorem V3(hp:P4 p):∃ i:Ad->Ad,∀ n,n%p≠0->Cg p (n*i n) 1:=by
 refine⟨λn=>open Classical in if h:n%p≠0 then HH (GN hp h) else 0,λn h=>?_⟩
 have s:=D0 (GN hp h);show (n*dite _ _ _)%p=1%p;rw[dif_pos h,s.2.2,AD (by decide) (by have:=hp.lo;omega)]
theorem Qu{x:Ad}(h:Cg p x y):(x-y)%p=0:=Int.emod_eq_emod_iff_emod_sub_eq_zero.mp h
theorem Kn{x:Ad}(h:Cg p y 1):Cg p (x*y) x:=(Cg.rfl.mul h).trans (Cg.of (DB x))
theorem Vu{α:Type}{f g s:α->Ad}:∀(R:Ac α),(∀ x∈R,Cg p (s x*g x) (f x))->Cg p (pdL (R.map s)*pdL (R.map g)) (pdL (R.map f))
 |[],_=>Cg.rfl
 |x::R,h=>by
  have ih:=Vu R λy hy=>h y (Au _ hy)
  exact(Cg.of (by show s x*pdL (R.map s)*(g x*pdL (R.map g))=s x*g x*(pdL (R.map s)*pdL (R.map g));grind)).trans ((h x Az).mul ih)
theorem Qk(hp:P4 p){R:Ac α}(len:(R.length:Ad)=p-2){f g:α->Ad}(hf:∀ x∈R,f x%p≠0)(hg:∀ x∈R,g x%p≠0)(hd:R.Pairwise λx y=>(f x*g y-g x*f y)%p≠0){u:Ad}(hu:u%p≠0)(hv:v%p≠0)(huv:∀ x∈R,(u*f x+v*g x)%p≠0):Cg p (v*pdL (R.map f)) (u*pdL (R.map g)):=by
 obtain⟨i,hi⟩:=V3 hp;have p0:=hp.pos;have nzi:∀ n,n%p≠0->i n%p≠0:=λn hn z=>by
  have e:n*i n%p=1%p:=hi n hn;rw[Bg,z,Cw,Bt,AD (by decide) (by have:=hp.lo;omega)]at e
  exact absurd e (by decide)
 have md:∀ n,Cg p (n%p) n:=λn=>AQ n (Bs p)
 have rng:∀ n,n%p≠0->0<=n%p/\n%p<p/\n%p≠0:=λn z=>⟨AK _ (by omega),AG _ p0,z⟩
 have nk:(-v*i u%p)∉R.map λx=>f x*i (g x)%p:=λm=>by
  obtain⟨x,hx,e⟩:=BL.mp m;have e:Cg p (f x*i (g x)) (-v*i u):=e;have h1:Cg p (u*f x) (-v*g x):=(Kn (hi (g x) (hg x hx))).symm.trans ((Cg.of (by grind:u*f x*(g x*i (g x))=u*g x*(f x*i (g x)))).trans ((Cg.rfl.mul e).trans ((Cg.of (by grind:u*g x*(-v*i u)=-v*g x*(u*i u))).trans (Kn (hi u hu)))))
  have h2:=Qu h1;rw[show u*f x - -v*g x=u*f x+v*g x by grind]at h2
  exact huv x hx h2
 have nd:(R.map λx=>f x*i (g x)%p).Nodup:=List.pairwise_map.mpr (hd.imp_of_mem λ{x y} hx hy h e=>by
  have e:Cg p (f x*i (g x)) (f y*i (g y)):=e;refine h (Qu ?_);exact(Kn (hi (g x) (hg x hx))).symm.trans ((Cg.of (by grind:f x*g y*(g x*i (g x))=g x*g y*(f x*i (g x)))).trans ((Cg.rfl.mul e).trans ((Cg.of (by grind:g x*g y*(f y*i (g y))=g x*f y*(g y*i (g y)))).trans (Kn (hi (g y) (hg y hy)))))))
 have w:=qK hp (L:=(-v*i u%p)::R.map λx=>f x*i (g x)%p) (BZ.mpr ⟨nk,nd⟩) (by rw[BU,AZ];omega) (λx hx=>by
  rcases At.mp hx with rfl|hx
  .exact rng _ (By hp (by rw[<-Int.neg_one_mul];exact By hp hp.m1 hv) (nzi u hu))
  .obtain⟨y,hy,rfl⟩:=BL.mp hx;exact rng _ (By hp (hf y hy) (nzi _ (hg y hy))))
 have q:=Vu (p:=p) (f:=f) (g:=g) (s:=λx=>f x*i (g x)%p) R λx hx=>((md _).mul Cg.rfl).trans ((Cg.of (by grind:f x*i (g x)*g x=f x*(g x*i (g x)))).trans (Kn (hi (g x) (hg x hx))))
 have w:Cg p (-v*i u%p*pdL (R.map λx=>f x*i (g x)%p)) (-1):=w
 generalize pdL (R.map λx=>f x*i (g x)%p)=S at *
 generalize pdL (R.map f)=F at *;generalize pdL (R.map g)=G at *;have w2:Cg p (-v*i u*S) (-1):=((md _).symm.mul Cg.rfl).trans w;have a1:Cg p (v*F) (v*(S*G)):=Cg.rfl.mul q.symm;have a2:Cg p (v*(S*G)) (v*(S*G)*(u*i u)):=(Kn (hi u hu)).symm;have a3:v*(S*G)*(u*i u)=-(u*G)*(-v*i u*S):=by grind
 exact a1.trans (a2.trans ((Cg.of a3).trans ((Cg.rfl.mul w2).trans (Cg.of (by grind)))))
def Tan(p:Ad)(l:Ac R3)(a m:R3):Prop:=Ay m a%p=0/\∀ b∈l,b≠a->Ay m b%p≠0
theorem Np(hp:P4 p){l:Ac R3}(h:N3 p l)(len:(l.length:Ad)=p+1)(ha:a∈l):∃ m,Tan p l a m:=by
 have na:=h.nf a ha;have z0:(0:Ad)%p=0:=Bt p;have er:∀ b,b∈l.erase a->b≠a/\b∈l:=λb hb=>(Cm h.nd).mp hb
 obtain⟨m,hm,nm⟩:∃ m∈thr p a,m∉(l.erase a).map λb=>nrm p (crs a b):=by
  refine Dz λz=>?_
  have le:(thr p a).length<=((l.erase a).map λb=>nrm p (crs a b)).length:=Uz ((S8 hp).filter _) (λx hx=>Dz λy=>z ⟨x,hx,y⟩)
  rw[AZ,Da ha]at le;have:=iM hp na;have:=hp.pos;omega
 obtain⟨m1,m2⟩:=EJ.mp hm;have m2:=BX m2;have nfm:=(Kc hp).mp m1;refine⟨m,by rw[JH];exact m2,λb hb ba e=>nm ?_⟩
 obtain⟨j1,j2⟩:=jl hp na (h.nf b hb) (BA ba);refine BL.mpr ⟨b,(Cm h.nd).mpr ⟨ba,hb⟩,Mj hp j1 nfm ?_⟩;refine M5 hp ?_ nfm.2 j1.2;obtain⟨d,_,q0,q1,q2⟩:=j2;have ea:Cg p (Ay a m) 0:=OvC.z0 m2;have eb:Cg p (Ay m b) 0:=OvC.z0 e;have k:∀ x y:Ad,Cg p (d*(x*Ay m b-y*Ay a m)) 0:=λx y=>(Cg.rfl.mul ((Cg.rfl.mul eb).sub (Cg.rfl.mul ea))).trans (Cg.of (by simp))
 generalize nrm p (crs a b)=n at *;unfold AO at q0 q1 q2;simp only at q0 q1 q2;refine⟨((Cg.rfl.mul q2).sub (Cg.rfl.mul q1)).trans ((Cg.of ?_).trans (k a.1 b.1)),((Cg.rfl.mul q0).sub (Cg.rfl.mul q2)).trans ((Cg.of ?_).trans (k a.2.1 b.2.1)),((Cg.rfl.mul q1).sub (Cg.rfl.mul q0)).trans ((Cg.of ?_).trans (k a.2.2 b.2.2))⟩<;>(unfold crs Ay;simp only;clear k ea eb q0 q1 q2;grind)
theorem Kt(a b c x t:R3):Ak a b c*Ay t x=Ak x b c*Ay t a+Ak a x c*Ay t b+Ak a b x*Ay t c:=by
 unfold Ak det Ay;grind
theorem gp1(a b c x y:R3):Ak a x c*Ak a b y-Ak a b x*Ak a y c=Ak a b c*Ak a x y:=by unfold Ak det;grind
theorem gp2(a b c x y:R3):Ak a b x*Ak y b c-Ak x b c*Ak a b y=Ak a b c*Ak b x y:=by unfold Ak det;grind
theorem gp3(a b c x y:R3):Ak x b c*Ak a y c-Ak a x c*Ak y b c=Ak a b c*Ak c x y:=by unfold Ak det;grind
theorem Qw(hp:P4 p){l:Ac R3}(h:N3 p l)(len:(l.length:Ad)=p+1){a b c ta tb tc:R3}(ha:a∈l)(hb:b∈l)(hc:c∈l)(ab:a≠b)(ac:a≠c)(bc:b≠c)(Ta:Tan p l a ta)(Tb:Tan p l b tb)(Tc:Tan p l c tc):Cg p (Ay ta c*Ay tb a*Ay tc b) (Ay ta b*Ay tb c*Ay tc a):=by
 have dz:=h.n3 a b c ha hb hc ab ac bc;obtain⟨R,nd,hR,hl⟩:∃ R:Ac R3,R.Nodup/\(∀ x∈R,x∈l/\x≠a/\x≠b/\x≠c)/\(R.length:Ad)=p-2:=by
  refine⟨((l.erase a).erase b).erase c,((h.nd.erase a).erase b).erase c,λx hx=>?_,?_⟩
  .obtain⟨x3,hx⟩:=(Cm ((h.nd.erase a).erase b)).mp hx;obtain⟨x2,hx⟩:=(Cm (h.nd.erase a)).mp hx;obtain⟨x1,hx⟩:=(Cm h.nd).mp hx;exact⟨hx,x1,x2,x3⟩
  .have b1:b∈l.erase a:=(Cm h.nd).mpr ⟨BA ab,hb⟩;have c1:c∈(l.erase a).erase b:=(Cm (h.nd.erase a)).mpr ⟨BA bc,(Cm h.nd).mpr ⟨BA ac,hc⟩⟩;rw[Da c1,Da b1,Da ha];have:=hp.lo;omega
 have z1:∀ x∈R,Ak x b c%p≠0:=λx hx=>h.n3 x b c (hR x hx).1 hb hc (hR x hx).2.2.1 (hR x hx).2.2.2 bc
 have z2:∀ x∈R,Ak a x c%p≠0:=λx hx=>h.n3 a x c ha (hR x hx).1 hc (BA (hR x hx).2.1) ac (hR x hx).2.2.2
 have z3:∀ x∈R,Ak a b x%p≠0:=λx hx=>h.n3 a b x ha hb (hR x hx).1 ab (BA (hR x hx).2.1) (BA (hR x hx).2.2.1)
 have pw:∀{e:R3},e∈l->(∀ x∈R,x≠e)->R.Pairwise λx y=>Ak a b c*Ak e x y%p≠0:=λ{e} he ne=>nd.imp_of_mem λ{x y} hx hy xy=>By hp dz (h.n3 e x y he (hR x hx).1 (hR y hy).1 (BA (ne x hx)) (BA (ne y hy)) xy)
 have cut:∀{s:Ad}{x y:Ad},s%p=0->Cg p (x*s+y) y:=λ{s x y} hs=>((Cg.rfl.mul (OvC.z0 hs)).add Cg.rfl).trans (Cg.of (by rw[Cw,C9]))
 have s1:=Qk hp hl z2 z3 ((pw ha λx hx=>(hR x hx).2.1).imp λ{x y} q=>by rw[gp1];exact q) (Ta.2 b hb (BA ab)) (Ta.2 c hc (BA ac)) λx hx=>by
  refine G2 (Cg.trans (Cg.trans (Cg.of ?_) (cut (x:=Ak x b c) (y:=Ak a x c*Ay ta b+Ak a b x*Ay ta c) Ta.1).symm) (Cg.of ?_)) (By hp dz (Ta.2 x (hR x hx).1 (hR x hx).2.1))
  .grind
  .rw[Kt a b c x ta];omega
 have s2:=Qk hp hl z3 z1 ((pw hb λx hx=>(hR x hx).2.2.1).imp λ{x y} q=>by rw[gp2];exact q) (Tb.2 c hc (BA bc)) (Tb.2 a ha ab) λx hx=>by
  refine G2 (Cg.trans (Cg.trans (Cg.of ?_) (cut (x:=Ak a x c) (y:=Ak x b c*Ay tb a+Ak a b x*Ay tb c) Tb.1).symm) (Cg.of ?_)) (By hp dz (Tb.2 x (hR x hx).1 (hR x hx).2.2.1))
  .grind
  .rw[Kt a b c x tb];omega
 have s3:=Qk hp hl z1 z2 ((pw hc λx hx=>(hR x hx).2.2.2).imp λ{x y} q=>by rw[gp3];exact q) (Tc.2 a ha ac) (Tc.2 b hb bc) λx hx=>by
  refine G2 (Cg.trans (Cg.trans (Cg.of ?_) (cut (x:=Ak a b x) (y:=Ak x b c*Ay tc a+Ak a x c*Ay tc b) Tc.1).symm) (Cg.of ?_)) (By hp dz (Tc.2 x (hR x hx).1 (hR x hx).2.2.2))
  .grind
  .rw[Kt a b c x tc];omega
 have pz:∀{f:R3->Ad}(S:Ac R3),(∀ x∈S,f x%p≠0)->pdL (S.map f)%p≠0:=λ{f} S=>by
  induction S with
  |nil=>intro _;show (1:Ad)%p≠0;rw[AD (by decide) (by have:=hp.lo;omega)];decide
  |cons x S ih=>exact λhS=>By hp (hS x Az) (ih λy hy=>hS y (Au _ hy))
 have y1:=pz R z1;have y2:=pz R z2;have y3:=pz R z3;have m:=(s1.mul s2).mul s3;generalize pdL (R.map λx=>Ak x b c)=P1 at *
 generalize pdL (R.map λx=>Ak a x c)=P2 at *
 generalize pdL (R.map λx=>Ak a b x)=P3 at *
 have m2:(P1*P2*P3*(Ay ta c*Ay tb a*Ay tc b-Ay ta b*Ay tb c*Ay tc a))%p=0:=by
  have:=Qu m;rw[<-this]
  congr 1
  grind
 exact Int.emod_eq_emod_iff_emod_sub_eq_zero.mpr ((FW hp (nz3 hp y1 y2 y3)).mp m2)
noncomputable def sgK(a b c ta tb tc:R3):C6:=⟨0,0,0,Ay ta b*Ay tb a*Ay tc a,Ay ta c*Ay tb a*Ay tc a,Ay ta b*Ay tb c*Ay tc a⟩
noncomputable def sgC(a b c ta tb tc:R3):C6:=pb (sgK a b c ta tb tc) (crs b c) (crs c a) (crs a b)
theorem P8(a b c ta tb tc x:R3):vI (sgC a b c ta tb tc) x=Ay ta b*Ay tb a*Ay tc a*(Ak x b c*Ak a x c)+Ay ta c*Ay tb a*Ay tc a*(Ak x b c*Ak a b x)+Ay ta b*Ay tb c*Ay tc a*(Ak a x c*Ak a b x):=by
 have e1:Ay (crs b c) x=Ak x b c:=by unfold Ay crs Ak det;simp only;grind
 have e2:Ay (crs c a) x=Ak a x c:=by unfold Ay crs Ak det;simp only;grind
 have e3:Ay (crs a b) x=Ak a b x:=by unfold Ay crs Ak det;simp only;grind
 unfold sgC;rw[QA];unfold ap;rw[e1,e2,e3];unfold vI sgK;simp only;grind
theorem qG(a b c ta tb tc:R3):Ak (tw0 (sgC a b c ta tb tc)) (tw1 (sgC a b c ta tb tc)) (tw2 (sgC a b c ta tb tc))=(Ak a b c*Ak a b c)*(Ak a b c*Ak a b c)*(2*((Ay ta b*Ay tb a*Ay tc a)*(Ay ta c*Ay tb a*Ay tc a)*(Ay ta b*Ay tb c*Ay tc a))):=by
 unfold sgC;rw[Qs,show Ak (crs b c) (crs c a) (crs a b)=Ak a b c*Ak a b c by unfold Ak det crs;simp only;grind]
 congr 1
 unfold sgK;generalize Ay ta b*Ay tb a*Ay tc a=u;generalize Ay ta c*Ay tb a*Ay tc a=v;generalize Ay ta b*Ay tb c*Ay tc a=w;unfold tw0 tw1 tw2 Ak det;simp only;grind
theorem dx3(x u:R3):Ak x x u=0/\Ak x u x=0/\Ak u x x=0:=by
 unfold Ak det;refine⟨?_,?_,?_⟩<;>grind
theorem oX{c1 c2 c3 D tPa tPb tPc tPP taP tbP tcP ab ac ba bc ca cb:Ad}(hp:P4 p)(d0:D*tPP=c1*tPa+c2*tPb+c3*tPc)(hP:Cg p tPP 0)(da:Cg p (D*taP) (c2*ab+c3*ac))(db:Cg p (D*tbP) (c1*ba+c3*bc))(dc:Cg p (D*tcP) (c1*ca+c2*cb))(h1:Cg p (taP*ba*tPb) (ab*tbP*tPa))(h2:Cg p (taP*ca*tPc) (ac*tcP*tPa))(h3:Cg p (ac*ba*cb) (ab*bc*ca))(z:tPa%p≠0):(ab*ba*ca*(c1*c2)+ac*ba*ca*(c1*c3)+ab*bc*ca*(c2*c3))%p=0:=by
 have e0:Cg p (c1*tPa+c2*tPb+c3*tPc) 0:=(Cg.of d0.symm).trans ((Cg.rfl.mul hP).trans (Cg.of (Cw D)));have e1:Cg p (taP*ba*ca*(c1*tPa+c2*tPb+c3*tPc)) 0:=(Cg.rfl.mul e0).trans (Cg.of (Cw _));have e2:Cg p (tPa*(c1*taP*ba*ca+c2*ca*(ab*tbP)+c3*ba*(ac*tcP))) 0:=by
  refine Cg.trans (Cg.trans (Cg.of ?_) (((Cg.rfl (a:=c1*tPa*taP*ba*ca)).add (Cg.rfl (a:=c2*ca) |>.mul h1.symm)).add (Cg.rfl (a:=c3*ba) |>.mul h2.symm))) (Cg.trans (Cg.of ?_) e1)<;>(clear e0 e1 h1 h2 h3 da db dc d0 hP;grind)
 have e3:=(FW hp z).mp (z0' e2);have e4:Cg p (D*(c1*taP*ba*ca+c2*ca*(ab*tbP)+c3*ba*(ac*tcP))) 0:=(Cg.rfl.mul (OvC.z0 e3)).trans (Cg.of (Cw D));have e5:Cg p (c1*ba*ca*(c2*ab+c3*ac)+c2*ca*ab*(c1*ba+c3*bc)+c3*ba*ac*(c1*ca+c2*cb)) 0:=by
  refine Cg.trans (((Cg.rfl.mul da.symm).add (Cg.rfl.mul db.symm)).add (Cg.rfl.mul dc.symm)) (Cg.trans (Cg.of ?_) e4)
  clear e0 e1 e2 e3 e4 h1 h2 h3 da db dc d0 hP;grind
 have e6:Cg p (2*(ab*ba*ca*(c1*c2)+ac*ba*ca*(c1*c3)+ab*bc*ca*(c2*c3))) 0:=by
  refine Cg.trans (Cg.trans (Cg.of ?_) ((Cg.rfl (a:=c1*ba*ca*(c2*ab+c3*ac)+c2*ca*ab*(c1*ba+c3*bc)+c3*ba*ac*(c1*ca))).add (Cg.rfl (a:=c2*c3) |>.mul h3.symm))) (Cg.trans (Cg.of ?_) e5)<;>(clear e0 e1 e2 e3 e4 e5 h1 h2 h3 da db dc d0 hP;grind)
 exact(FW hp (by rcases hp with rfl|rfl|rfl|rfl<;>decide)).mp (z0' e6)
theorem yO(hp:P4 p){l:Ac R3}(h:N3 p l)(len:(l.length:Ad)=p+1){a b c:R3}(ha:a∈l)(hb:b∈l)(hc:c∈l)(ab:a≠b)(ac:a≠c)(bc:b≠c):∃ C α β γ,InC p C/\AS p C.l=Ab 1/\Whl p C/\(∀ x∈l,vI C x%p=0)/\α%p≠0/\PrC p C (pb ⟨0,0,0,α,β,γ⟩ (crs b c) (crs c a) (crs a b))/\∀ x∈l,(α*(Ak x b c*Ak a x c)+β*(Ak x b c*Ak a b x)+γ*(Ak a x c*Ak a b x))%p=0:=by
 obtain⟨ta,Ta⟩:=Np hp h len ha;obtain⟨tb,Tb⟩:=Np hp h len hb;obtain⟨tc,Tc⟩:=Np hp h len hc;have dz:=h.n3 a b c ha hb hc ab ac bc;have on:∀ x∈l,vI (sgC a b c ta tb tc) x%p=0:=λx hx=>by
  rw[P8];by_cases xa:x=a
  .subst xa;rw[(dx3 x c).1,(dx3 x b).2.1];simp
  by_cases xb:x=b
  .subst xb;rw[(dx3 x c).1,(dx3 x a).2.2];simp
  by_cases xc:x=c
  .subst xc;rw[(dx3 x b).2.1,(dx3 x a).2.2];simp
  obtain⟨tx,Tx⟩:=Np hp h len hx;have cut:∀{s:Ad}{x y:Ad},s%p=0->Cg p (x*s+y) y:=λ{s x y} hs=>((Cg.rfl.mul (OvC.z0 hs)).add Cg.rfl).trans (Cg.of (by rw[Cw,C9]))
  refine oX hp (Kt a b c x tx) (OvC.z0 Tx.1) ((Cg.of ?_).trans (cut (x:=Ak x b c) Ta.1)) ((Cg.of ?_).trans (cut (x:=Ak a x c) Tb.1)) ((Cg.of ?_).trans (cut (x:=Ak a b x) Tc.1)) (Qw hp h len ha hb hx ab (BA xa) (BA xb) Ta Tb Tx) (Qw hp h len ha hc hx ac (BA xa) (BA xc) Ta Tc Tx) (Qw hp h len ha hb hc ab ac bc Ta Tb Tc) (Tx.2 a ha (BA xa))
  .rw[Kt a b c x ta];omega
  .rw[Kt a b c x tb];omega
  .rw[Kt a b c x tc];omega
 have nz:∃ k,AS p (sgC a b c ta tb tc).l=Ab k:=by
  cases q:AS p (sgC a b c ta tb tc).l with
  |some k=>exact⟨k,rfl⟩
  |none=>
   exfalso
   have z:=Jb.mp q;have k:∀{n:Ad},n∈(sgC a b c ta tb tc).l->Cg p n 0:=λhn=>OvC.z0 (z _ hn)
   have q2:CgC p (sgC a b c ta tb tc) ⟨0,0,0,0,0,0⟩:=⟨k (by simp[C6.l]),k (by simp[C6.l]),k (by simp[C6.l]),k (by simp[C6.l]),k (by simp[C6.l]),k (by simp[C6.l])⟩
   have v:=ID (x:=(a.1+b.1,a.2.1+b.2.1,a.2.2+b.2.2)) (x':=(a.1+b.1,a.2.1+b.2.1,a.2.2+b.2.2)) q2 ⟨Cg.rfl,Cg.rfl,Cg.rfl⟩;rw[P8]at v;have e1:Ak (a.1+b.1,a.2.1+b.2.1,a.2.2+b.2.2) b c=Ak a b c:=by unfold Ak det;simp only;grind
   have e2:Ak a (a.1+b.1,a.2.1+b.2.1,a.2.2+b.2.2) c=Ak a b c:=by unfold Ak det;simp only;grind
   have e3:Ak a b (a.1+b.1,a.2.1+b.2.1,a.2.2+b.2.2)=0:=by unfold Ak det;simp only;grind
   rw[e1,e2,e3]at v;refine By hp (nz3 hp (Ta.2 b hb (BA ab)) (Tb.2 a ha ab) (Tc.2 a ha ac)) (By hp dz dz) (z0' ((Cg.of ?_).trans (v.trans (Cg.of ?_))))
   .simp
   .unfold vI;simp
 obtain⟨k,el⟩:=nz;obtain⟨t,D,it,eD,iD,lD,pD⟩:=QR hp el;refine⟨D,_,_,_,iD,lD,Pz hp pD ?_,λx hx=>?_,nz3 hp (Ta.2 b hb (BA ab)) (Tb.2 a ha ab) (Tc.2 a ha ac),pD,λx hx=>by rw[<-P8];exact on x hx⟩
 .have tz:=Ta.2 b hb (BA ab);have tz':=Ta.2 c hc (BA ac);have uz:=Tb.2 a ha ab;have uz':=Tb.2 c hc (BA bc);have vz:=Tc.2 a ha ac;rw[qG];exact By hp (By hp (By hp dz dz) (By hp dz dz)) (By hp (by rcases hp with rfl|rfl|rfl|rfl<;>decide) (nz3 hp (nz3 hp tz uz vz) (nz3 hp tz' uz vz) (nz3 hp tz uz' vz)))
 obtain⟨d,dz,q⟩:=pD;have q:=ID (x:=x) (x':=x) q ⟨Cg.rfl,Cg.rfl,Cg.rfl⟩;rw[No]at q;rw[show vI D x%p=_ from q]
 exact(FW hp dz).mpr (on x hx)
end
section
variable{Y:Gam}{p:Ad}
theorem Lm{D Le Me l m A B G d1 d2 d3 e1 e2 e3 α β γ i:Ad}(hL:D*l=d1*G + -d2*B)(hM:D*m=d1*G + -d3*A)(hLe:D*Le=e3*(d1*e2-d2*e1))(hMe:D*Me=e2*(d1*e3-d3*e1))(hd:Cg p (α*(d1*d2)+β*(d1*d3)+γ*(d2*d3)) 0)(he:Cg p (α*(e1*e2)+β*(e1*e3)+γ*(e2*e3)) 0)(hi:Cg p (α*(D*D)*i) 1):Cg p (Me*l + -Le*m) (i*(d3*e3*(d1*e2-d2*e1))*(α*A+β*B+γ*G)):=by
 have e1':α*(D*D)*(Me*l + -Le*m)=α*((D*Me)*(D*l)-(D*Le)*(D*m)):=by clear hd he hi hL hM hLe hMe;grind
 rw[hL,hM,hLe,hMe]at e1';generalize hu:α*(d1*d2)+β*(d1*d3)+γ*(d2*d3)=vu at *;generalize hw:α*(e1*e2)+β*(e1*e3)+γ*(e2*e3)=vw at *;have e2':α*(D*D)*(Me*l + -Le*m)=d3*e3*(d1*e2-d2*e1)*(α*A+β*B+γ*G)-((B*(e2*e3)-G*(e1*e3))*vu+(G*(d1*d3)-B*(d2*d3))*vw):=by
  rw[e1',<-hu,<-hw];clear hd he hi hL hM hLe hMe e1' hu hw;grind
 have e3':Cg p (α*(D*D)*(Me*l + -Le*m)) (d3*e3*(d1*e2-d2*e1)*(α*A+β*B+γ*G)):=(Cg.of e2').trans ((Cg.rfl.sub ((Cg.rfl.mul hd).add (Cg.rfl.mul he))).trans (Cg.of (by simp)))
 exact(Kn hi).symm.trans ((Cg.of (by clear hd he hi hL hM hLe hMe e1' e2' e3' hu hw;grind)).trans ((Cg.rfl (a:=i).mul e3').trans (Cg.of (by clear hd he hi hL hM hLe hMe e1' e2' e3' hu hw;grind))))
theorem U_8(hp:P4 p){a b c d e:R3}{α β γ:Ad}(az:α%p≠0)(dz:Ak a b c%p≠0)(nd:Ak a b d%p≠0)(ne:Ak a b e%p≠0)(nc:Ak c d e%p≠0)(hd:(α*(Ak d b c*Ak a d c)+β*(Ak d b c*Ak a b d)+γ*(Ak a d c*Ak a b d))%p=0)(he:(α*(Ak e b c*Ak a e c)+β*(Ak e b c*Ak a b e)+γ*(Ak a e c*Ak a b e))%p=0):PrC p (Fc a b c d e) (pb ⟨0,0,0,α,β,γ⟩ (crs b c) (crs c a) (crs a b)):=by
 obtain⟨iv,hiv⟩:=V3 hp;have hi:=hiv _ (By hp az (By hp dz dz));have iz:iv (α*(Ak a b c*Ak a b c))%p≠0:=λz=>by
  have q:_%p=1%p:=hi;rw[Bg,z,Cw,Bt,AD (by decide) (by have:=hp.lo;omega)]at q
  exact absurd q (by decide)
 have gz:Ak d b c*Ak a e c-Ak a d c*Ak e b c=Ak a b c*Ak c d e:=gp3 a b c d e;refine⟨iv (α*(Ak a b c*Ak a b c))*(Ak a b d*Ak a b e*(Ak d b c*Ak a e c-Ak a d c*Ak e b c)),By hp iz (By hp (By hp nd ne) (by rw[gz];exact By hp dz nc)),?_⟩
 have hLe:Ak a b c*vI (prd (crs a b) (crs c d)) e=Ak a b e*(Ak d b c*Ak a e c-Ak a d c*Ak e b c):=by
  rw[Vi,NV,NV,gz];grind
 have hMe:Ak a b c*vI (prd (crs a c) (crs b d)) e=Ak a e c*(Ak d b c*Ak a b e-Ak a b d*Ak e b c):=by
  have g2:=gp2 a b c d e;have sw:Ak a c e=-Ak a e c:=by unfold Ak det;grind
  rw[Vi,NV,NV,sw];generalize Ak a b c=D at *;generalize Ak a b d=d3 at *;generalize Ak e b c=e1 at *;generalize Ak d b c=d1 at *;generalize Ak a b e=e3 at *;generalize Ak b d e=g at *;grind
 have L:=Zv a b c d;have M:=Zt a b c d;rw[Pi];unfold Fc;generalize vI (prd (crs a c) (crs b d)) e=Me at *;generalize vI (prd (crs a b) (crs c d)) e=Le at *;generalize prd (crs a b) (crs c d)=Lc at *;generalize prd (crs a c) (crs b d)=Mc at *;generalize prd (crs c a) (crs a b)=G at *;generalize prd (crs b c) (crs c a)=A at *;generalize prd (crs b c) (crs a b)=B at *;simp only[scC,lc2,C6.mk.injEq]at L M;obtain⟨l0,l1,l2,l3',l4,l5⟩:=L;obtain⟨m0,m1,m2,m3,m4,m5⟩:=M;exact⟨Lm l0 m0 hLe hMe (z0 hd) (z0 he) hi,Lm l1 m1 hLe hMe (z0 hd) (z0 he) hi,Lm l2 m2 hLe hMe (z0 hd) (z0 he) hi,Lm l3' m3 hLe hMe (z0 hd) (z0 he) hi,Lm l4 m4 hLe hMe (z0 hd) (z0 he) hi,Lm l5 m5 hLe hMe (z0 hd) (z0 he) hi⟩
theorem nd5{a b c d e:α}(h:[a,b,c,d,e].Nodup):(a≠b/\a≠c/\a≠d/\a≠e)/\(b≠c/\b≠d/\b≠e)/\(c≠d/\c≠e)/\d≠e:=by
 simpa only[BZ,At,AR,BO,DR,Hz,FK,Jl] using h
theorem yM(hm:Jc Y){a b c d e:R3}(hp:P4 p)(h:N3 p [a,b,c,d,e]):LS.run Y [.int p,AU [a,b,c,d,e]]=.ok .non:=by
 obtain⟨⟨n01,n02,n03,n04⟩,⟨n12,n13,n14⟩,⟨n23,n24⟩,n34⟩:=nd5 h.nd;have m:∀{x y z:R3},x∈[a,b,c,d,e]->y∈[a,b,c,d,e]->z∈[a,b,c,d,e]->Y.F 61 [.int p,Ao Aa x,Ao Aa y,Ao Aa z]=.ok (.int (Ak x y z%p)):=λhx hy hz=>hm p Aa _ _ _ hp.pos ((Cv hp (h.nf _ hx).1).b3 (by decide)) ((Cv hp (h.nf _ hy).1).b3 (by decide)) ((Cv hp (h.nf _ hz).1).b3 (by decide))
 have z:∀{x y u:R3}{q:Prop},x∈[a,b,c,d,e]->y∈[a,b,c,d,e]->u∈[a,b,c,d,e]->x≠y->x≠u->y≠u->¬ (Ak x y u%p=0/\q):=λhx hy hu n1 n2 n3 w=>h.n3 _ _ _ hx hy hu n1 n2 n3 w.1
 have ma:a∈[a,b,c,d,e]:=by simp
 have mb:b∈[a,b,c,d,e]:=by simp
 have mc:c∈[a,b,c,d,e]:=by simp
 have md:d∈[a,b,c,d,e]:=by simp
 have me:e∈[a,b,c,d,e]:=by simp
 rw[Pa];exact YX (m ma mb mc) (m ma mb md) (m ma mb me) (m ma mc md) (m ma mc me) (m mb mc md) (m mb mc me) (z ma mb mc n01 n02 n12) (z ma mb mc n01 n02 n12) (z ma mb md n01 n03 n13) (z ma mc md n02 n03 n23) (z mb mc md n12 n13 n23)
theorem yN(hj:VL Y)(hl:VJ Y)(hv:VH Y)(hc:Ny Y){a b c d e:R3}(hp:P4 p)(iC:InC p C)(lC:AS p C.l=Ab 1)(h:N3 p [a,b,c,d,e])(fp:PrC p (Fc a b c d e) C):LR.run Y [.int p,AU [a,b,c,d,e]]=.ok (BM C):=by
 obtain⟨⟨n01,n02,n03,n04⟩,⟨n12,n13,n14⟩,⟨n23,n24⟩,n34⟩:=nd5 h.nd;have na:=h.nf a (by simp)
 have nb:=h.nf b (by simp)
 have nc:=h.nf c (by simp)
 have nd:=h.nf d (by simp)
 have ne:=h.nf e (by simp)
 obtain⟨y01,i01,_,p01,e01⟩:=hj p a b hp na.1 nb.1 na.2 nb.2 n01;obtain⟨y23,i23,_,p23,e23⟩:=hj p c d hp nc.1 nd.1 nc.2 nd.2 n23;obtain⟨y02,i02,_,p02,e02⟩:=hj p a c hp na.1 nc.1 na.2 nc.2 n02;obtain⟨y13,i13,_,p13,e13⟩:=hj p b d hp nb.1 nd.1 nb.2 nd.2 n13;have pr:=(tL hp (UJ hp p01 p23) (UJ hp p02 p13) e).trans hp fp;obtain⟨l,el⟩:=cP hp lC pr;obtain⟨t,D,it,eD,iD,lD,pD⟩:=QR hp el;have ec:=hc p Af _ l t hp el it;rw[eD]at ec;have eq:=Pb hp iD iC lD lC (pD.trans hp pr);subst eq;have bd:∀ n:Ad,Bd 10 (n%p):=λn=>JM hp (AK _ (by have:=hp.pos;omega)) (AG _ hp.pos)
 rw[Pa];exact tK (Nl hp i01 i23) (Nl hp i02 i13) (bd _) (bd _) e01 e23 (hl p _ _ hp i01 i23) e02 e13 (hl p _ _ hp i02 i13) (hv p _ _ hp (Nl hp i02 i13) ne.1) (hv p _ _ hp (Nl hp i01 i23) ne.1) ec
def nK(Y:Gam):Prop:=∀(p:Ad)(C:C6)(a b c d e:R3),P4 p->InC p C->AS p C.l=Ab 1->N3 p [a,b,c,d,e]->PrC p (Fc a b c d e) C->Y.F 198 [.int p,AU [a,b,c,d,e]]=.ok (BM C)
end
section
variable{Y:Gam}{p:Ad}{pts:Ac R3}
theorem uE(hp:P4 p)(h:Hs p f0 f1 f2 f3):Led p (fr0 p f0 f1 f2 f3) (fr1 p f0 f1 f2 f3) (fr2 p f0 f1 f2 f3) e0R e1R e2R e3R f0 f1 f2 f3:=by
 obtain⟨h1,h2,h3,h4⟩:=h;have k0:Ak f3 f1 f2%p≠0:=by rw[show Ak f3 f1 f2=Ak f1 f2 f3 by unfold Ak det;grind];exact h4
 have k1:Ak f0 f3 f2%p≠0:=by rw[show Ak f0 f3 f2=-1*Ak f0 f2 f3 by unfold Ak det;grind];exact By hp hp.m1 h3
 refine⟨Pr.symm hp ⟨fk0 p f0 f1 f2 f3,Lh k0,CgR.of ?_⟩,Pr.symm hp ⟨fk1 p f0 f1 f2 f3,Lh k1,CgR.of ?_⟩,Pr.symm hp ⟨fk2 p f0 f1 f2 f3,Lh h2,CgR.of ?_⟩,Pr.symm hp ⟨Ak f0 f1 f2,h1,?_⟩⟩
 .unfold ap fr0 fr1 fr2 Bv Bq Bp fs0 fs1 fs2 e0R Ay AO;simp
 .unfold ap fr0 fr1 fr2 Bv Bq Bp fs0 fs1 fs2 e1R Ay AO;simp
 .unfold ap fr0 fr1 fr2 Bv Bq Bp fs0 fs1 fs2 e2R Ay AO;simp
 .have w:=Y_5 f0 f1 f2 f3;rw[w];have m0:Cg p (fk0 p f0 f1 f2 f3) (Ak f3 f1 f2):=Cg.md rfl;have m1:Cg p (fk1 p f0 f1 f2 f3) (Ak f0 f3 f2):=Cg.md rfl;have m2:Cg p (fk2 p f0 f1 f2 f3) (Ak f0 f1 f3):=Cg.md rfl;unfold ap fr0 fr1 fr2 Bv Bq Bp fs0 fs1 fs2 e3R Ay AO;simp only[DB];exact⟨((m0.mul Cg.rfl).add (m1.mul Cg.rfl)).add (m2.mul Cg.rfl),((m0.mul Cg.rfl).add (m1.mul Cg.rfl)).add (m2.mul Cg.rfl),((m0.mul Cg.rfl).add (m1.mul Cg.rfl)).add (m2.mul Cg.rfl)⟩
theorem Ur(hp:P4 p)(h:Hs p f0 f1 f2 f3):∃ a b c,GoodR p a b c/\Led p a b c e0R e1R e2R e3R f0 f1 f2 f3:=by
 obtain⟨l,t,_,_,tz,gd,l1⟩:=Sg hp (QQ hp h);obtain⟨q0,q1,q2,q3⟩:=uE hp h;have k:∀ x,Pr p (ap (fr0 p f0 f1 f2 f3) (fr1 p f0 f1 f2 f3) (fr2 p f0 f1 f2 f3) x) (ap (fmR p t (fr0 p f0 f1 f2 f3)) (fmR p t (fr1 p f0 f1 f2 f3)) (fmR p t (fr2 p f0 f1 f2 f3)) x):=λx=>Pr.symm hp (Pr.tab tz (E3 p t _) (E3 p t _) (E3 p t _))
 exact⟨_,_,_,gd,q0.trans hp (k _),q1.trans hp (k _),q2.trans hp (k _),q3.trans hp (k _)⟩
theorem dY(hk:Q2 Y)(hf:Ri Y)(hb:Nz Y)(ha:P6 Y){g0 g1 g2 g3:R3}(hp:P4 p)(F:Frm p f0 f1 f2 f3)(G:Frm p g0 g1 g2 g3):∃ a b c,GoodR p a b c/\Led p a b c f0 f1 f2 f3 g0 g1 g2 g3/\KD.run Y [.int p,Ev f0 f1 f2 f3,Ev g0 g1 g2 g3]=.ok (Ce a b c):=by
 obtain⟨a,b,c,T,L⟩:=Ur hp F.gen;obtain⟨a',b',c',T',L'⟩:=Ur hp G.gen;obtain⟨x,y,z,gT,l1,Ld⟩:=b6 hp T T' L L';refine⟨x,y,z,gT,Ld,?_⟩;obtain⟨⟨d0,n0,h0⟩,⟨d1,n1,h1⟩,⟨d2,n2,h2⟩,⟨d3,n3,h3⟩⟩:=Ld;exact kC hk hf hb ha gT.p4 gT.ia gT.ib gT.ic gT.nz l1 F.i0 F.i1 F.i2 F.i3 F.gen G.i0 G.i1 G.i2 G.i3 n0 n1 n2 n3 h0 h1 h2 h3
structure HC74 (Y:Gam):Prop where
 pc:∀ p,P4 p->Y.F 123 [.int p]=.ok (BM (pl p))
 po:∀ p C,P4 p->InC p C->Y.F 128 [.int p,BM C]=.ok (AU (N2 p C))
 mv:∀(p:Ad)(f0 f1 f2 f3 g0 g1 g2 g3:R3),P4 p->Frm p f0 f1 f2 f3->Frm p g0 g1 g2 g3->∃ a b c,GoodR p a b c/\Led p a b c f0 f1 f2 f3 g0 g1 g2 g3/\Y.F 112 [.int p,Ev f0 f1 f2 f3,Ev g0 g1 g2 g3]=.ok (Ce a b c)
 md:∀(p:Ad)(C:C6)(a b c:R3),InC p C->AS p C.l=Ab 1->GoodR p a b c->∃ E:C6,InC p E/\AS p E.l=Ab 1/\PrC p E (pb C (bk0 a b c) (bk1 a b c) (bk2 a b c))/\Y.F 133 [.int p,BM C,Ce a b c]=.ok (BM E)
 th:nK Y
theorem rV(h:HC74 Y)(hp:P4 p)(n3:N3 p pts)(hl:(pts.length:Ad)=p+1):∃ C:C6,InC p C/\AS p C.l=Ab 1/\Whl p C/\(∀ x∈pts,vI C x%p=0)/\J7.run Y [.int p,AU pts]=.ok (BM C):=by
 have ln:=MW pts;by_cases p3:p=3
 .subst p3;obtain⟨a,b,c,d,rfl⟩:=Rz (l:=pts) (by omega)
  have nd:=n3.nd;simp only[BZ,At,AR,BO,DR,Hz,FK,Jl]at nd;obtain⟨⟨n01,n02,n03⟩,⟨n12,n13⟩,n23⟩:=nd;have G:Frm 3 a b c d:=⟨(n3.nf _ (by simp)).1,(n3.nf _ (by simp)).1,(n3.nf _ (by simp)).1,(n3.nf _ (by simp)).1,n3.n3 _ _ _ (by simp) (by simp) (by simp) n01 n02 n12,n3.n3 _ _ _ (by simp) (by simp) (by simp) n01 n03 n13,n3.n3 _ _ _ (by simp) (by simp) (by simp) n02 n03 n23,n3.n3 _ _ _ (by simp) (by simp) (by simp) n12 n13 n23⟩
  have F:Frm 3 (0,0,1) (1,0,0) (1,1,1) (1,2,1):=⟨by unfold In3;decide,by unfold In3;decide,by unfold In3;decide,by unfold In3;decide,by unfold Hs;decide⟩
  have iC:InC 3 (pl 3):=by unfold InC;decide
  have lC:AS 3 (pl 3).l=Ab 1:=by decide
  have wC:Whl 3 (pl 3):=by unfold Whl;decide
  have po:=h.po 3 (pl 3) hp iC;rw[show N2 3 (pl 3)=[(0,0,1),(1,0,0),(1,1,1),(1,2,1)] by decide]at po
  obtain⟨x,y,z,gT,L,mv⟩:=h.mv 3 _ _ _ _ _ _ _ _ hp F G;obtain⟨E,iE,lE,pE,md⟩:=h.md 3 (pl 3) x y z iC lC gT;have zB:Ak (bk0 x y z) (bk1 x y z) (bk2 x y z)%3≠0:=by rw[K6];exact By hp gT.nz gT.nz
  have on:∀{f g:R3},vI (pl 3) f%3=0->Pr 3 g (ap x y z f)->vI E g%3=0:=λ{f g} hf hg=>by
   rw[VO hp hg];obtain⟨d,dz,q⟩:=pE;have q:=ID (x:=ap x y z f) (x':=ap x y z f) q ⟨Cg.rfl,Cg.rfl,Cg.rfl⟩;rw[No]at q;rw[show vI E (ap x y z f)%3=_ from q]
   refine(FW hp dz).mpr ?_;rw[QA,NU];exact(VO hp ⟨Ak x y z,gT.nz,CgR.rfl⟩).mpr hf
  refine⟨E,iE,lE,Pz hp pE (qL hp zB wC),λu hu=>?_,tB ln (by simp) (h.pc 3 hp) po mv md⟩
  simp only[At,AR,BO]at hu;rcases hu with rfl|rfl|rfl|rfl
  .exact on (by decide) L.h0
  .exact on (by decide) L.h1
  .exact on (by decide) L.h2
  .exact on (by decide) L.h3
 .have p5:5<=p:=by rcases hp with rfl|rfl|rfl|rfl<;>omega
  have sl:=Qx pts (i:=5) (by decide)
  obtain⟨a,b,c,d,e,e5⟩:=Ry (l:=pts.take 5) (by rw[E8];omega)
  have s5:N3 p [a,b,c,d,e]:=by rw[<-e5];exact n3.sub (Hw 5 pts)
  have mm:∀ x∈[a,b,c,d,e],x∈pts:=λx hx=>WP (e5 ▸ hx)
  obtain⟨⟨n01,n02,n03,n04⟩,⟨n12,n13,n14⟩,⟨n23,n24⟩,n34⟩:=nd5 s5.nd;have ma:=mm a (by simp)
  have mb:=mm b (by simp)
  have mc:=mm c (by simp)
  have md:=mm d (by simp)
  have me:=mm e (by simp)
  obtain⟨C,α,β,γ,iC,lC,wC,on,az,pC,q⟩:=yO hp n3 hl ma mb mc n01 n02 n12;have th:=h.th p C _ _ _ _ _ hp iC lC s5 ((U_8 hp az (n3.n3 _ _ _ ma mb mc n01 n02 n12) (n3.n3 _ _ _ ma mb md n01 n03 n13) (n3.n3 _ _ _ ma mb me n01 n04 n14) (n3.n3 _ _ _ mc md me n23 n24 n34) (q d md) (q e me)).trans hp (PrC.symm hp pC));rw[<-e5]at th;exact⟨C,iC,lC,wC,on,sY ln (by omega) sl th⟩
end
noncomputable def Oh:Df:=⟨12,Af,(.cons (.asg 3 Aa (.lst (.cons (.lst (.cons (.int 1) (.cons (.int 0) (.cons (.int 0) .nil)))) (.cons (.lst (.cons (.int 0) (.cons (.int 1) (.cons (.int 0) .nil)))) (.cons (.lst (.cons (.int 0) (.cons (.int 0) (.cons (.int 1) .nil)))) .nil))))) (.cons (.fors 4 (.rng (.int 14)) HP) (.cons (.asg 8 Af (.bin .Add (.int 1) (.bin .Mod (.call 228 (.cons (.var 1) (.cons (.bin .Add (.var 2) (.int 14)) .nil))) (.bin .Sub (.var 0) (.int 1))))) (.cons (.put 3 (.int 0) (.comp Os 11 (.e (.idx (.var 3) (.int 0))) Cu)) (.cons (.ret (.var 3)) .nil)))))⟩
theorem rF(hm:JJ Y 228 ns)(p at_:Ad)(hp:P4 p)(ha:0<=at_):∃ a b c,GoodR p a b c/\Oh.run Y [.int p,scr ns,.int at_]=.ok (Fd a b c):=by
 have p0:=hp.pos;have g0:GoodR p e0R e1R e2R:=(kY hp).1;have rg:CP 0 14=.ok (CS 0 14):=rfl;obtain⟨U',e,a,b,c,s4,s5,s6,s7,s8,g,rfl⟩:=Ps (body:=BH Y 4 HP) (λU=>∃ a b c s4 s5 s6 s7 s8,GoodR p a b c/\U=[si p,sh (scr ns),si at_,Ab (.lst (L3 a b c),Aa),s4,s5,s6,s7,s8,Ae,Ae,Ae]) (CS 0 14) [si p,sh (scr ns),si at_,Ab (.lst (L3 e0R e1R e2R),Aa),Ae,Ae,Ae,Ae,Ae,Ae,Ae,Ae] ⟨_,_,_,_,_,_,_,_,g0,rfl⟩ (by
  rintro x hx U ⟨a,b,c,s4,s5,s6,s7,s8,g,rfl⟩;obtain⟨k,_,rfl⟩:=TW hx;obtain⟨a',b',c',v5,v6,v7,v8,g',e⟩:=iI (s4:=s4) (s5:=s5) (s6:=s6) (s7:=s7) (s8:=s8) hm g ha (k:=0+(k:Ad)) (by omega)
  exact⟨_,e,a',b',c',_,_,_,_,_,g',rfl⟩)
 obtain⟨m,m0,e2⟩:=hm (at_+14) (by omega)
 have q1:0<p-1:=by have:=hp.lo;omega
 have q2:1<p:=by have:=hp.lo;omega
 have t0:0<1+m%(p-1):=by have:=AK m (b:=p-1) (by omega);omega
 have t1:1+m%(p-1)<p:=by have:=AG m q1;omega
 generalize ht:1+m%(p-1)=t at t0 t1;have tz:t%p≠0:=by rw[AD (by omega) t1];omega
 have mt:∀ x,DW t x=Aa:=λx=>HS (by omega) (by have:=hp.hi;omega)
 refine⟨scR p t a,b,c,g.of (k:=t) tz (YN p t a b c) ⟨yR p0 _ _,g.ib,g.ic⟩,?_⟩;have cp:BQ (cG Y [si p,sh (scr ns),si at_,Ab (.lst (L3 a b c),Aa),s4,s5,s6,s7,si t,Ae,Ae,Ae] 11 Cu) (cF Y [si p,sh (scr ns),si at_,Ab (.lst (L3 a b c),Aa),s4,s5,s6,s7,si t,Ae,Ae,Ae] 11 Os) [.int a.1,.int a.2.1,.int a.2.2]=.ok [.int (a.1*t%p),.int (a.2.1*t%p),.int (a.2.2*t%p)]:=by
  refine J4 (φ:=λx=>x*t%p) [a.1,a.2.1,a.2.2] λx _=>⟨rfl,?_⟩
  simp[cF,Os,mt,p0,BK]
 have e':C8 (BH Y 4 HP) (CS 0 14) [si p,sh (scr ns),si at_,Ab (.lst [.lst [.int 1,.int 0,.int 0],.lst [.int 0,.int 1,.int 0],.lst [.int 0,.int 0,.int 1]],Aa),Ae,Ae,Ae,Ae,Ae,Ae,Ae,Ae]=_:=e;have g0':Ds (L3 a b c) 0=.ok (.lst [.int a.1,.int a.2.1,.int a.2.2]):=rfl;have pl:plD (L3 a b c).length 0=Ab 0:=rfl;have out:D.lst ((L3 a b c).set 0 (.lst [.int (a.1*t%p),.int (a.2.1*t%p),.int (a.2.2*t%p)]))=Fd (scR p t a) b c:=rfl
 clear e
 rw[<-out]
 clear out
 generalize L3 a b c=LL at *;generalize CS 0 14=RL at *;generalize scr ns=S at *;simp[Oh,Df.run,BJ,DL,rg,e',e2,q1,q2,ht,Nb,C7,g0',pl,cp]
noncomputable def MO:Df:=⟨8,Af,(.cons (.asgT [2,3,4,5,6,7] (.var 1)) (.cons (.ret (.lst (.cons (.lst (.cons (.bin .Mod (.bin .Mult (.int 2) (.var 2)) (.var 0)) (.cons (.var 5) (.cons (.var 6) .nil)))) (.cons (.lst (.cons (.var 5) (.cons (.bin .Mod (.bin .Mult (.int 2) (.var 3)) (.var 0)) (.cons (.var 7) .nil)))) (.cons (.lst (.cons (.var 6) (.cons (.var 7) (.cons (.bin .Mod (.bin .Mult (.int 2) (.var 4)) (.var 0)) .nil)))) .nil))))) .nil))⟩
noncomputable def Oq:E:=(.bin .Mult (.var 7) (.var 8))
noncomputable def ME:Df:=⟨9,Af,(.cons (.asgT [3,4,5] (.var 2)) (.cons (.asg 6 Af (.tup (.cons (.bin .Mult (.var 3) (.var 3)) (.cons (.bin .Mult (.var 4) (.var 4)) (.cons (.bin .Mult (.var 5) (.var 5)) (.cons (.bin .Mult (.var 3) (.var 4)) (.cons (.bin .Mult (.var 3) (.var 5)) (.cons (.bin .Mult (.var 4) (.var 5)) .nil)))))))) (.cons (.ret (.bin .Mod (.bi .sum (.cons (.compT Oq [7,8] (.zip (.var 1) (.var 6)) Cu) .nil)) (.var 0))) .nil)))⟩
noncomputable def Mt:E:=(.cmp .Eq (.call 247 (.cons (.var 0) (.cons (.var 2) (.cons (.var 4) .nil)))) (.int 0))
noncomputable def LJ:Df:=⟨5,Af,(.cons (.ife (.or (.cons (.cmp .NotEq (.bi .len (.cons (.var 1) .nil)) (.bin .Add (.var 0) (.int 1))) (.cons (.no (.call 237 (.cons (.var 0) (.cons (.var 2) (.cons (.int 6) .nil))))) .nil))) (.cons (.ret (.bl Af)) .nil) .nil) (.cons (.asg 3 Af (.call 246 (.cons (.var 0) (.cons (.var 2) .nil)))) (.cons (.ife (.cmp .Eq (.call 233 (.cons (.var 0) (.cons (.call 232 (.cons (.var 0) (.cons (.idx (.var 3) (.int 0)) (.cons (.idx (.var 3) (.int 1)) .nil)))) (.cons (.idx (.var 3) (.int 2)) .nil)))) (.int 0)) (.cons (.ret (.bl Af)) .nil) .nil) (.cons (.ret (.bi .all (.cons (.comp Mt 4 (.e (.var 1)) Cu) .nil))) .nil))))⟩
section
variable{Y:Gam}{p:Ad}{pts:Ac R3}{ns:Ac Ad}
theorem qJ(nd:pts.Nodup)(h:z0_ p pts=Ab d):∃ x y z,x∈pts/\y∈pts/\z∈pts/\x≠y/\x≠z/\y≠z/\Ak x y z%p=0/\d=.tup [Ao Aa x,Ao Aa y,Ao Aa z]:=by
 unfold z0_ at h;obtain⟨i,hi,h⟩:=Cn h;unfold z1_ at h;obtain⟨m,hm,h⟩:=Cn h;unfold z2_ at h;obtain⟨n,hn,h⟩:=Cn h;have a:=A3.mp hi;have b:=A3.mp hm;have c:=A3.mp hn;have mem:∀{k:Ag},k<pts.length->atZ pts k∈pts:=λ{k} hk=>by
  rw[Jd hk];exact CB hk
 have ne:∀{k l:Ag},k<l->l<pts.length->atZ pts k≠atZ pts l:=λ{k l} h1 h2 z=>by
  rw[Jd (by omega),Jd h2]at z
  have:=(HI nd).mp z;omega
 unfold z3_ at h;split at h
 .rename_i z;cases h;exact⟨_,_,_,mem (by omega),mem (by omega),mem (by omega),ne (by omega) (by omega),ne (by omega) (by omega),ne (by omega) (by omega),z,rfl⟩
 .cases h
end
section
variable{Y:Gam}{p:Ad}{pts:Ac R3}{ns:Ac Ad}
noncomputable def tr0(p:Ad)(C:C6):R3:=(2*C.c0%p,C.c3,C.c4)
noncomputable def tr1(p:Ad)(C:C6):R3:=(C.c3,2*C.c1%p,C.c5)
noncomputable def tr2(p:Ad)(C:C6):R3:=(C.c4,C.c5,2*C.c2%p)
def nJ(Y:Gam):Prop:=∀(p:Ad)(C:C6),P4 p->Y.F 246 [.int p,BM C]=.ok (Fd (tr0 p C) (tr1 p C) (tr2 p C))
theorem jX(C:C6)(hp:P4 p):MO.run Y [.int p,BM C]=.ok (Fd (tr0 p C) (tr1 p C) (tr2 p C)):=by
 obtain⟨c0,c1,c2,c3,c4,c5⟩:=C;have p0:=hp.pos;have m:∀ x,DW 2 x=Aa:=λx=>HS (by decide) (by decide)
 have as:∀ U:Rho,Ji [2,3,4,5,6,7] (BM ⟨c0,c1,c2,c3,c4,c5⟩) U=.ok ((((((U.set 2 (si c0)).set 3 (si c1)).set 4 (si c2)).set 5 (si c3)).set 6 (si c4)).set 7 (si c5)):=λ_=>rfl
 have e:Fd (tr0 p ⟨c0,c1,c2,c3,c4,c5⟩) (tr1 p ⟨c0,c1,c2,c3,c4,c5⟩) (tr2 p ⟨c0,c1,c2,c3,c4,c5⟩)=.lst [.lst [.int (2*c0%p),.int c3,.int c4],.lst [.int c3,.int (2*c1%p),.int c5],.lst [.int c4,.int c5,.int (2*c2%p)]]:=rfl;rw[e];generalize BM ⟨c0,c1,c2,c3,c4,c5⟩=X at *;simp[MO,Df.run,BJ,as,m,p0]
def nN(Y:Gam):Prop:=∀(p:Ad)(C:C6)(x:R3),P4 p->InC p C->In3 p x->Y.F 247 [.int p,BM C,Ao Aa x]=.ok (.int (vI C x%p))
theorem kE(C:C6)(x:R3)(hp:P4 p)(iC:InC p C)(ix:In3 p x):ME.run Y [.int p,BM C,Ao Aa x]=.ok (.int (vI C x%p)):=by
 have p0:=hp.pos;have bC:=iC.b hp;have bx:=Cv hp ix;have k:∀ {u v},Bd 10 u->Bd 10 v->EO u v=Aa:=λhu hv=>Gg hu hv (by decide) (by decide)
 have k2:∀ {u v w},Bd 10 u->Bd 10 v->Bd 10 w->EO u (v*w)=Aa:=λhu hv hw=>Gg hu (hv.mul hw) (by decide) (by decide)
 obtain⟨c0,c1,c2,c3,c4,c5⟩:=C;obtain⟨x0,x1,x2⟩:=x;have q00:=k bx.1 bx.1;have q11:=k bx.2.1 bx.2.1;have q22:=k bx.2.2 bx.2.2;have q01:=k bx.1 bx.2.1;have q02:=k bx.1 bx.2.2;have q12:=k bx.2.1 bx.2.2;have m0:=k2 bC.b0 bx.1 bx.1;have m1:=k2 bC.b1 bx.2.1 bx.2.1;have m2:=k2 bC.b2 bx.2.2 bx.2.2;have m3:=k2 bC.b3 bx.1 bx.2.1;have m4:=k2 bC.b4 bx.1 bx.2.2;have m5:=k2 bC.b5 bx.2.1 bx.2.2;simp only at q00 q11 q22 q01 q02 q12 m0 m1 m2 m3 m4 m5;have sC:CC (BM ⟨c0,c1,c2,c3,c4,c5⟩)=.ok [.int c0,.int c1,.int c2,.int c3,.int c4,.int c5]:=rfl;have as:∀ U:Rho,Ji [3,4,5] (Ao Aa (x0,x1,x2)) U=.ok (((U.set 3 (si x0)).set 4 (si x1)).set 5 (si x2)):=λ_=>rfl
 have ev:vI ⟨c0,c1,c2,c3,c4,c5⟩ (x0,x1,x2)=c0*(x0*x0)+c1*(x1*x1)+c2*(x2*x2)+c3*(x0*x1)+c4*(x0*x2)+c5*(x1*x2):=by
  unfold vI;simp only;grind
 rw[ev];generalize BM ⟨c0,c1,c2,c3,c4,c5⟩=cC at *;generalize Ao Aa (x0,x1,x2)=xx at *;generalize hz0:x0*x0=z0 at *;generalize hz1:x1*x1=z1 at *;generalize hz2:x2*x2=z2 at *;generalize hz3:x0*x1=z3 at *;generalize hz4:x0*x2=z4 at *;generalize hz5:x1*x2=z5 at *;have cp:BQ (cGT Y [si p,sh cC,sh xx,si x0,si x1,si x2,sh (.tup [.int z0,.int z1,.int z2,.int z3,.int z4,.int z5]),Ae,Ae] [7,8] Cu) (cFT Y [si p,sh cC,sh xx,si x0,si x1,si x2,sh (.tup [.int z0,.int z1,.int z2,.int z3,.int z4,.int z5]),Ae,Ae] [7,8] Oq) (E5 [.int c0,.int c1,.int c2,.int c3,.int c4,.int c5] [.int z0,.int z1,.int z2,.int z3,.int z4,.int z5])=.ok [.int (c0*z0),.int (c1*z1),.int (c2*z2),.int (c3*z3),.int (c4*z4),.int (c5*z5)]:=by
  simp[BQ,cGT,cFT,E5,Oq,Cu,m0,m1,m2,m3,m4,m5]
 generalize hs:c0*z0+c1*z1+c2*z2+c3*z3+c4*z4+c5*z5=s;have sm:GQ 0 [.int (c0*z0),.int (c1*z1),.int (c2*z2),.int (c3*z3),.int (c4*z4),.int (c5*z5)]=.ok s:=by rw[<-hs];simp[GQ]
 simp[ME,Df.run,BJ,as,q00,q11,q22,q01,q02,q12,hz0,hz1,hz2,hz3,hz4,hz5,sC,cp,sm,p0]
theorem sZ{T C RW R0 R1 R2 L:D}{n:Ad}{xs BB:Ac D}(ln:biD .len [T]=.ok (.int n))(hn:n=p+1)(ef:Y.F 237 [.int p,C,.int 6]=.ok (.bl Aa))(et:Y.F 246 [.int p,C]=.ok RW)(x0:CF RW (.int 0)=.ok R0)(x1:CF RW (.int 1)=.ok R1)(x2:CF RW (.int 2)=.ok R2)(ec:Y.F 232 [.int p,R0,R1]=.ok L)(es:Y.F 233 [.int p,L,R2]=.ok (.int v))(vz:v≠0)(sq:CC T=.ok xs)(cp:BQ (cG Y [si p,sh T,sh C,sh RW,Ae] 4 Cu) (cF Y [si p,sh T,sh C,sh RW,Ae] 4 Mt) xs=.ok BB)(al:Gj BB=.ok Aa):LJ.run Y [.int p,T,C]=.ok (.bl Aa):=by
 subst hn;simp[LJ,Df.run,BJ,ln,ef,et,x0,x1,x2,ec,es,vz,sq,cp,al]
theorem vF(L:Ac α):Gj (L.map λ_=>D.bl Aa)=.ok Aa:=by
 induction L with
 |nil=>rfl
 |cons x L ih=>rw[BP];show (Gj (L.map λ_=>D.bl Aa)).bind _=_;rw[ih];rfl
theorem kJ(hf:US Y)(ht:nJ Y)(hv:nN Y)(hc:J8 Y)(hs:JF Y)(hp:P4 p)(np:∀ x∈pts,NF p x)(hl:(pts.length:Ad)=p+1)(iC:InC p C)(lC:AS p C.l=Ab 1)(wC:Whl p C)(on:∀ x∈pts,vI C x%p=0):LJ.run Y [.int p,AU pts,BM C]=.ok (.bl Aa):=by
 have p0:=hp.pos;have ef:Y.F 237 [.int p,BM C,.int 6]=.ok (.bl Aa):=hf p C.l p0 iC lC;have et:=ht p C hp;have md:∀ n:Ad,0<=n%p/\n%p<p:=λn=>⟨AK _ (by omega),AG _ p0⟩
 have i3:=iC C.c3 (by simp[C6.l])
 have i4:=iC C.c4 (by simp[C6.l])
 have i5:=iC C.c5 (by simp[C6.l])
 have b0:B3 (tr0 p C):=(Cv hp (show In3 p (tr0 p C) from ⟨md _,i3,i4⟩)).b3 (by decide)
 have b1:B3 (tr1 p C):=(Cv hp (show In3 p (tr1 p C) from ⟨i3,md _,i5⟩)).b3 (by decide)
 have b2:B3 (tr2 p C):=(Cv hp (show In3 p (tr2 p C) from ⟨i4,i5,md _⟩)).b3 (by decide)
 have ec:=hc p Af Af (tr0 p C) (tr1 p C) p0 b0 b1;have es:=hs p Aa Af (mdR p (crs (tr0 p C) (tr1 p C))) (tr2 p C) p0 ((Cv hp (NC p0 _)).b3 (by decide)) b2
 have q:Ay (mdR p (crs (tr0 p C) (tr1 p C))) (tr2 p C)%p≠0:=by
  have c:=FX (CgR.md (p:=p) (a:=mdR p (crs (tr0 p C) (tr1 p C))) _root_.rfl) (CgR.rfl (a:=tr2 p C));have d:Ay (crs (tr0 p C) (tr1 p C)) (tr2 p C)=Ak (tr0 p C) (tr1 p C) (tr2 p C):=by unfold Ay crs Ak det;grind
  rw[d]at c;have m:∀ n:Ad,Cg p (n%p) n:=λn=>AQ n (Bs p)
  exact G2 (c.trans (Kd (a':=tw0 C) (b':=tw1 C) (c':=tw2 C) ⟨m _,Cg.rfl,Cg.rfl⟩ ⟨Cg.rfl,m _,Cg.rfl⟩ ⟨Cg.rfl,Cg.rfl,m _⟩)) wC
 have cp:=Tt (g:=cG Y [si p,sh (AU pts),sh (BM C),sh (Fd (tr0 p C) (tr1 p C) (tr2 p C)),Ae] 4 Cu) (f:=cF Y [si p,sh (AU pts),sh (BM C),sh (Fd (tr0 p C) (tr1 p C) (tr2 p C)),Ae] 4 Mt) (Ao Aa) (λ_=>Aa) (λ_=>D.bl Aa) pts λx hx=>⟨rfl,λ_=>by
  have e:=hv p C x hp iC (np x hx).1;rw[on x hx]at e;generalize AU pts=T;generalize BM C=cC at *;generalize Fd (tr0 p C) (tr1 p C) (tr2 p C)=RR;generalize Ao Aa x=X at *;simp[cF,Mt,e]⟩
 exact sZ (MW pts) hl ef et rfl rfl rfl ec es q rfl cp (vF _)
theorem tG(hz:pts.length<=1000):CP 0 (pts.length:Ad)=.ok (CS 0 pts.length):=by
 have k:∀(N:Ad)(n:Ag),N=n->N<=1000->CP 0 N=.ok (CS 0 n):=λN n h1 h2=>by
  have:=MT (lo:=0) (hi:=N) (by decide) (by decide) (by omega) (by omega)
  rwa [Gw,show N.toNat=n by omega]at this
 exact k _ _ rfl (by omega)
end
section
variable{p:Ad}{pts:Ac R3}
theorem qM(α β γ:Ad)(a b c x:R3):vI (pb ⟨0,0,0,α,β,γ⟩ (crs b c) (crs c a) (crs a b)) x=α*(Ak x b c*Ak a x c)+β*(Ak x b c*Ak a b x)+γ*(Ak a x c*Ak a b x):=by
 have e1:Ay (crs b c) x=Ak x b c:=by unfold Ay crs Ak det;simp only;grind
 have e2:Ay (crs c a) x=Ak a x c:=by unfold Ay crs Ak det;simp only;grind
 have e3:Ay (crs a b) x=Ak a b x:=by unfold Ay crs Ak det;simp only;grind
 rw[QA];unfold ap;rw[e1,e2,e3];unfold vI;simp only;grind
theorem Vg(hp:P4 p)(wQ:Whl p Q){a b c:R3}(dz:Ak a b c%p≠0)(ha:vI Q a%p=0)(hb:vI Q b%p=0)(hc:vI Q c%p=0):∃ α β γ,α%p≠0/\β%p≠0/\γ%p≠0/\PrC p Q (pb ⟨0,0,0,α,β,γ⟩ (crs b c) (crs c a) (crs a b)):=by
 have t:=ZS (Q:=Q) ha hb hc;rw[<-Pi]at t;generalize bI Q a b=α at *;generalize bI Q a c=β at *;generalize bI Q b c=γ at *;have pr:PrC p (pb ⟨0,0,0,α,β,γ⟩ (crs b c) (crs c a) (crs a b)) Q:=⟨_,By hp dz dz,t.symm⟩;have w:=Pz hp pr wQ;rw[Qs]at w;have e:Ak (tw0 ⟨0,0,0,α,β,γ⟩) (tw1 ⟨0,0,0,α,β,γ⟩) (tw2 ⟨0,0,0,α,β,γ⟩)=2*(α*β*γ):=by unfold tw0 tw1 tw2 Ak det;simp only;grind
 rw[e]at w;have z:∀{u v:Ad},u%p=0->(u*v)%p=0:=λh=>by rw[Bg,h,FB,Bt]
 have z':∀{u v:Ad},v%p=0->(u*v)%p=0:=λh=>by rw[Bg,h,Cw,Bt]
 exact⟨α,β,γ,λh=>w (z' (z' (z (z h)))),λh=>w (z' (z' (z (z' h)))),λh=>w (z' (z' (z' h))),PrC.symm hp pr⟩
theorem Qa(hp:P4 p){α β γ:Ad}{a b c x:R3}(pQ:PrC p Q (pb ⟨0,0,0,α,β,γ⟩ (crs b c) (crs c a) (crs a b)))(h:vI Q x%p=0):(α*(Ak x b c*Ak a x c)+β*(Ak x b c*Ak a b x)+γ*(Ak a x c*Ak a b x))%p=0:=by
 rw[<-qM];obtain⟨d,dz,q⟩:=pQ;have q:=ID (x:=x) (x':=x) q ⟨Cg.rfl,Cg.rfl,Cg.rfl⟩;rw[No]at q;rw[show vI Q x%p=_ from q]at h
 exact(FW hp dz).mp h
theorem ZP(hp:P4 p)(n3:N3 p pts)(hl:(pts.length:Ad)=p+1){C E:C6}(iC:InC p C)(lC:AS p C.l=Ab 1)(wC:Whl p C)(oC:∀ x∈pts,vI C x%p=0)(iE:InC p E)(lE:AS p E.l=Ab 1)(wE:Whl p E)(oE:∀ x∈pts,vI E x%p=0):C=E:=by
 by_cases p3:p=3
 .subst p3;obtain⟨a,b,c,d,rfl⟩:=Rz (l:=pts) (by omega)
  have nd:=n3.nd;simp only[BZ,At,AR,BO,DR,Hz,FK,Jl]at nd;obtain⟨⟨n01,n02,n03⟩,⟨n12,n13⟩,n23⟩:=nd;have dz:=n3.n3 a b c (by simp) (by simp) (by simp) n01 n02 n12
  have d1:=n3.n3 d b c (by simp) (by simp) (by simp) (BA n13) (BA n23) n12
  have d2:=n3.n3 a d c (by simp) (by simp) (by simp) n03 n02 (BA n23)
  have d3:=n3.n3 a b d (by simp) (by simp) (by simp) n01 n03 n13
  have key:∀{Q:C6},Whl 3 Q->(∀ x∈[a,b,c,d],vI Q x%3=0)->PrC 3 Q (pb ⟨0,0,0,Ak d b c*Ak a d c,Ak d b c*Ak a b d,Ak a d c*Ak a b d⟩ (crs b c) (crs c a) (crs a b)):=λ{Q} w o=>by
   obtain⟨α,β,γ,z1,z2,z3,pQ⟩:=Vg hp w dz (o a (by simp)) (o b (by simp)) (o c (by simp))
   have at_:=Qa hp pQ (o d (by simp))
   refine pQ.trans hp ⟨α*(Ak d b c*Ak a d c),By hp z1 (By hp d1 d2),?_⟩;have k:∀ u v w e f g:Ad,u%3≠0->v%3≠0->w%3≠0->e%3≠0->f%3≠0->g%3≠0->(u*(e*f)+v*(e*g)+w*(f*g))%3=0->Cg 3 u (u*(e*f)*(e*f))/\Cg 3 v (u*(e*f)*(e*g))/\Cg 3 w (u*(e*f)*(f*g)):=by
    have sq:∀ e:Ad,e%3≠0->Cg 3 (e*e) 1:=λe h=>by
     show e*e%3=1%3;have:e%3=1\/e%3=2:=by omega
     rw[Bg];rcases this with h|h<;>rw[h]<;>rfl
    intro u v w e f g hu hv hw he hf hg h;have eq3:∀ x y z:Ad,x%3≠0->y%3≠0->z%3≠0->(x+y+z)%3=0->x%3=y%3/\x%3=z%3:=λx y z h1 h2 h3 h4=>by omega
    obtain⟨q1,q2⟩:=eq3 _ _ _ (By hp hu (By hp he hf)) (By hp hv (By hp he hg)) (By hp hw (By hp hf hg)) h;have q1:Cg 3 (u*(e*f)) (v*(e*g)):=q1;have q2:Cg 3 (u*(e*f)) (w*(f*g)):=q2;have sqq:∀ x s t:Ad,s%3≠0->t%3≠0->Cg 3 x (x*(s*t)*(s*t)):=λx s t hs ht=>((Cg.of (by grind:x*(s*t)*(s*t)=x*((s*s)*(t*t)))).trans ((Cg.rfl.mul ((sq s hs).mul (sq t ht))).trans (Cg.of (by simp)))).symm
    exact⟨sqq u e f he hf,(sqq v e g he hg).trans (q1.symm.mul Cg.rfl),(sqq w f g hf hg).trans (q2.symm.mul Cg.rfl)⟩
   obtain⟨k1,k2,k3⟩:=k α β γ _ _ _ z1 z2 z3 d1 d2 d3 at_;rw[<-QI];exact Ln ⟨Cg.of (by simp[scC]),Cg.of (by simp[scC]),Cg.of (by simp[scC]),k1,k2,k3⟩ CgR.rfl CgR.rfl CgR.rfl
  exact Pb hp iC iE lC lE ((key wC oC).trans hp (PrC.symm hp (key wE oE)))
 .have p5:5<=p:=by rcases hp with rfl|rfl|rfl|rfl<;>omega
  obtain⟨a,b,c,d,e,e5⟩:=Ry (l:=pts.take 5) (by rw[E8];omega)
  have s5:N3 p [a,b,c,d,e]:=by rw[<-e5];exact n3.sub (Hw 5 pts)
  have mm:∀ x∈[a,b,c,d,e],x∈pts:=λx hx=>WP (e5 ▸ hx)
  obtain⟨⟨n01,n02,n03,n04⟩,⟨n12,n13,n14⟩,⟨n23,n24⟩,n34⟩:=nd5 s5.nd;have ma:=mm a (by simp)
  have mb:=mm b (by simp)
  have mc:=mm c (by simp)
  have md:=mm d (by simp)
  have me:=mm e (by simp)
  have dz:=n3.n3 _ _ _ ma mb mc n01 n02 n12;have key:∀{Q:C6},Whl p Q->(∀ x∈pts,vI Q x%p=0)->PrC p (Fc a b c d e) Q:=λ{Q} w o=>by
   obtain⟨α,β,γ,z1,z2,z3,pQ⟩:=Vg hp w dz (o a ma) (o b mb) (o c mc);exact(U_8 hp z1 dz (n3.n3 _ _ _ ma mb md n01 n03 n13) (n3.n3 _ _ _ ma mb me n01 n04 n14) (n3.n3 _ _ _ mc md me n23 n24 n34) (Qa hp pQ (o d md)) (Qa hp pQ (o e me))).trans hp (PrC.symm hp pQ)
  exact Pb hp iC iE lC lE ((PrC.symm hp (key wC oC)).trans hp (key wE oE))
end
noncomputable def JY:Ss:=(.cons (.asg 5 Af (.bin .Mod (.call 228 (.cons (.var 0) (.cons (.bin .Add (.var 1) (.var 4)) .nil))) (.bin .Add (.bi .len (.cons (.var 3) .nil)) (.int 1)))) (.cons (.asg 3 Aa (.bin .Add (.bin .Add (.sl (.var 3) .non (.var 5)) (.lst (.cons (.idx (.var 2) (.var 4)) .nil))) (.sl (.var 3) (.var 5) .non))) .nil))
noncomputable def J5:Df:=⟨6,Aa,(.cons (.asg 3 Aa (.lst .nil)) (.cons (.fors 4 (.rng (.bi .len (.cons (.var 2) .nil))) JY) (.cons (.ret (.var 3)) .nil)))⟩
noncomputable def KN:Df:=⟨4,Af,(.cons (.expr (.call 194 (.cons (.var 1) .nil))) (.cons (.asg 2 Af (.call 65 (.cons (.var 0) (.cons (.var 1) .nil)))) (.cons (.ife (.cmp .IsNot (.var 2) .non) (.cons (.ret (.tup (.cons (.str (AN "line")) (.cons (.var 2) .nil)))) .nil) .nil) (.cons (.ife (.cmp .Eq (.bi .len (.cons (.var 1) .nil)) (.bin .Add (.var 0) (.int 1))) (.cons (.ret (.tup (.cons (.str (AN "curve")) (.cons (.call 224 (.cons (.var 0) (.cons (.var 1) .nil))) .nil)))) .nil) .nil) (.cons (.expr (.bi .len .nil)) .nil)))))⟩
noncomputable def LQ:E:=(.call 231 (.cons (.var 1) (.cons (.var 9) .nil)))
noncomputable def Kg:E:=(.bin .Mod (.call 228 (.cons (.var 0) (.cons (.bin .Add (.int 40) (.var 10)) .nil))) (.bi .len (.cons (.var 5) .nil)))
noncomputable def Je:S:=(.ife (.and (.cons (.cmp .Eq (.var 4) (.int 1)) (.cons (.cmp .NotIn (.var 3) (.var 2)) .nil))) (.cons (.put 2 (.bin .Mod (.call 228 (.cons (.var 0) (.cons (.int 11) .nil))) (.bi .len (.cons (.var 2) .nil))) (.var 3)) .nil) .nil)
noncomputable def Kh:S:=(.ife (.cmp .Eq (.var 4) (.int 2)) (.cons (.asg 5 Aa (.comp LQ 9 (.rng (.bin .Add (.bin .Add (.bin .Mult (.var 1) (.var 1)) (.var 1)) (.int 1))) Cu)) (.cons (.cpop 2 5 10 (.rng (.bin .Add (.var 1) (.int 1))) Kg) .nil)) .nil)
noncomputable def KW:Df:=⟨11,Af,(.cons (.asg 1 Af (.call 229 (.cons (.var 0) .nil))) (.cons (.asg 2 Aa (.call 251 (.cons (.var 0) (.cons (.int 20) (.cons (.call 290 (.cons (.var 1) (.cons (.call 250 (.cons (.var 1) (.cons (.var 0) (.cons (.int 100) .nil)))) .nil))) .nil))))) (.cons (.asg 3 Af (.call 231 (.cons (.var 1) (.cons (.call 228 (.cons (.var 0) (.cons (.int 9) .nil))) .nil)))) (.cons (.asg 4 Af (.bin .Mod (.call 228 (.cons (.var 0) (.cons (.int 10) .nil))) (.int 3))) (.cons Je (.cons Kh (.cons (.asg 6 Af (.bi .list (.cons (.var 2) .nil))) (.cons (.asg 7 Af (.call 227 (.cons (.var 1) (.cons (.var 6) .nil)))) (.cons (.ife (.or (.cons (.no (.isi (.var 7) [.tuple])) (.cons (.cmp .NotEq (.bi .len (.cons (.var 7) .nil)) (.int 2)) (.cons (.cmp .NotEq (.var 6) (.var 2)) .nil)))) (.cons (.ret (.bl Af)) .nil) .nil) (.cons (.asg 8 Af (.call 234 (.cons (.var 1) (.cons (.var 2) .nil)))) (.cons (.ife (.cmp .IsNot (.var 8) .non) (.cons (.ret (.cmp .Eq (.var 7) (.tup (.cons (.str (AN "line")) (.cons (.var 8) .nil))))) .nil) .nil) (.cons (.ife (.or (.cons (.cmp .NotEq (.idx (.var 7) (.int 0)) (.str (AN "curve"))) (.cons (.no (.call 248 (.cons (.var 1) (.cons (.var 2) (.cons (.idx (.var 7) (.int 1)) .nil))))) .nil))) (.cons (.ret (.bl Af)) .nil) .nil) (.cons (.ret (.cmp .Eq (.call 227 (.cons (.var 1) (.cons (.bi .rvs (.cons (.var 2) .nil)) .nil))) (.var 7))) .nil)))))))))))))⟩
noncomputable def Nd:Df:=⟨3,Af,(.cons (.asg 2 Af (.call 65 (.cons (.var 0) (.cons (.var 1) .nil)))) (.cons (.ife (.cmp .IsNot (.var 2) .non) (.cons (.rais 118 (.cons (.var 2) .nil)) .nil) .nil) .nil))⟩
section
variable{Y:Gam}{p:Ad}{pts:Ac R3}{ns:Ac Ad}
theorem kL(e:Y.F 65 [.int p,PP]=.ok .non):Nd.run Y [.int p,PP]=.ok .non:=by
 simp[Nd,Df.run,BJ,e]
theorem pW{S TL T1 T2 X:D}{i:Ad}{M3 M4:Ac D}(e:Y.F 228 [S,.int (at_+k)]=.ok (.int m))(ln:(M.length:Ad)=N)(lp:0<N+1)(hi:m%(N+1)=i)(s1:slD (.lst M) Ae (Ab i)=.ok T1)(s2:slD (.lst M) (Ab i) Ae=.ok T2)(g:CF TL (.int k)=.ok X)(a1:C1 .Add T1 (.lst [X])=.ok (.lst M3))(a2:C1 .Add (.lst M3) T2=.ok (.lst M4)):BH Y 4 JY (.int k) [sh S,si at_,sh TL,Ab (.lst M,Aa),s4,s5]=.next [sh S,si at_,sh TL,Ab (.lst M4,Aa),si k,si i]:=by
 simp[BH,JY,e,ln,lp,hi,slE,s1,s2,g,a1,a2,DL]
theorem cW(hm:JJ Y 228 ns){M:Ac R3}(ha:0<=at_)(hx:L[n]?=Ab x)(h5:M.length<=60):∃(M':Ac R3)(v5:Sl),M'.Perm (M++[x])/\BH Y 4 JY (.int (n:Ad)) [sh (scr ns),si at_,sh (AU L),Ab (.lst (M.map (Ao Aa)),Aa),s4,s5]=.next [sh (scr ns),si at_,sh (AU L),Ab (.lst (M'.map (Ao Aa)),Aa),si n,v5]:=by
 obtain⟨m,m0,e⟩:=hm (at_+(n:Ad)) (by omega)
 have q0:=AK m (b:=(M.length:Ad)+1) (by omega)
 have q1:=AG m (b:=(M.length:Ad)+1) (by omega)
 have lp:(0:Ad)<(M.length:Ad)+1:=by omega
 generalize hi:m%((M.length:Ad)+1)=i at *;have s1:=Qx M q0;have s2:=gY M q0 (by omega)
 have g:=eT hx;have a1:=SR (M.take i.toNat) [x] (by simp;omega)
 have a2:=SR (M.take i.toNat++[x]) (M.drop i.toNat) (by simp;omega)
 refine⟨(M.take i.toNat++[x])++M.drop i.toNat,si i,?_,?_⟩
 .have p1:((M.take i.toNat++[x])++M.drop i.toNat).Perm (x::(M.take i.toNat++M.drop i.toNat)):=by
   rw[List.append_assoc];exact List.perm_middle
  rw[Gs]at p1;exact p1.trans (List.perm_append_singleton x M).symm
 .exact pW e (by rw[AZ]) lp hi s1 s2 g a1 a2
theorem cV{S TL:D}{RL:Ac D}(ln:biD .len [TL]=.ok (.int N))(rg:CP 0 N=.ok RL)(e:C8 (BH Y 4 JY) RL [sh S,si at_,sh TL,Ab (.lst [],Aa),Ae,Ae]=.next [sh S,si at_,sh TL,Ab (.lst M,Aa),s4,s5]):J5.run Y [S,.int at_,TL]=.ok (.lst M):=by
 have e1:evSs Y [sh S,si at_,sh TL,Ae,Ae,Ae] J5.body=F2 Y (.cons (.ret (.var 3)) .nil) (C8 (BH Y 4 JY) RL [sh S,si at_,sh TL,Ab (.lst [],Aa),Ae,Ae]):=by
  simp[J5,ln,rg,DL]
 show O.ans Aa (evSs Y [sh S,si at_,sh TL,Ae,Ae,Ae] J5.body)=_;rw[e1,e];simp
theorem rL(hm:JJ Y 228 ns)(at_:Ad)(L:Ac R3)(ha:0<=at_)(hL:L.length<=60):∃ M:Ac R3,M.Perm L/\J5.run Y [scr ns,.int at_,AU L]=.ok (AU M):=by
 have lp:=OR (body:=BH Y 4 JY) (λn U=>∃(M:Ac R3)(s4 s5:Sl),M.Perm (L.take n)/\U=[sh (scr ns),si at_,sh (AU L),Ab (.lst (M.map (Ao Aa)),Aa),s4,s5]) (CS 0 L.length) 0 [sh (scr ns),si at_,sh (AU L),Ab (.lst [],Aa),Ae,Ae] ⟨[],Ae,Ae,by simp,rfl⟩ (by
  rintro n y hy U ⟨M,s4,s5,pm,rfl⟩;obtain⟨hn,rfl⟩:=Pp hy;rw[FC]at pm;rw[C9,FC];have hx:L[n]?=Ab L[n]:=BS hn;obtain⟨M',v5,pm',e⟩:=cW (s4:=s4) (s5:=s5) hm ha hx (M:=M) (by rw[pm.length_eq];simp;omega)
  refine⟨_,e,M',_,_,?_,rfl⟩;rw[List.take_succ,hx];exact pm'.trans (pm.append_right _))
 obtain⟨U',e,M,s4,s5,pm,rfl⟩:=lp;rw[FC,LP,List.take_length]at pm;exact⟨M,pm,cV (cO L) (tG (by omega)) e⟩
theorem xI{S:D}{ds:Ac D}(h0:EE U 0=.ok S)(h1:EE U 10=.ok (.int k))(h2:EE U 5=.ok (.lst ds))(em:Y.F 228 [S,.int (40+k)]=.ok (.int m))(hl:0<(ds.length:Ad)):evE Y U Kg=.ok (.int (m%(ds.length:Ad))):=by
 have hl':0<ds.length:=by omega
 simp[Kg,h0,h1,h2,em,hl'];exact λ_=>rfl
theorem Vb{α β:Type}(f:α->β):∀(L:Ac α)(j:Ag),(L.map f).eraseIdx j=(L.eraseIdx j).map f
 |[],_=>rfl
 |_::_,0=>rfl
 |x::L,j+1=>by
  show f x::(L.map f).eraseIdx j=f x::(L.eraseIdx j).map f;rw[Vb f L j]
theorem UY{α:Type}:∀(L:Ac α)(j:Ag)(h:j<L.length),(L[j]::L.eraseIdx j).Perm L
 |[],_,h=>absurd h (Ft _)
 |_::_,0,_=>WA _
 |x::L,j+1,h=>(List.Perm.swap x (L[j]'(WU h)) _).trans (Wz x (UY L j (WU h)))
theorem UK(hm:JJ Y 228 ns){f:D->Ac D->R D}(hf:∀(k m:Ad)(ds:Ac D),Y.F 228 [scr ns,.int (40+k)]=.ok (.int m)->0<(ds.length:Ad)->f (.int k) ds=.ok (.int (m%(ds.length:Ad)))):∀(n:Ag)(k:Ag)(L:Ac R3),n<=L.length->∃ ys rest:Ac R3,(ys++rest).Perm L/\ys.length=n/\G8 f (CS k n) (L.map (Ao Aa))=.ok (ys.map (Ao Aa),rest.map (Ao Aa))
 |0,k,L,h=>⟨[],L,WA _,rfl,rfl⟩
 |n+1,k,L,h=>by
  obtain⟨m,_,em⟩:=hm (40+(k:Ad)) (by omega)
  have ll:((L.map (Ao Aa)).length:Ad)=L.length:=by rw[AZ]
  have e:=hf k m (L.map (Ao Aa)) em (by omega)
  rw[ll]at e;have b0:=AK m (show (L.length:Ad)≠0 by omega)
  have b1:=AG m (show (0:Ad)<(L.length:Ad) by omega)
  have hi:(m%(L.length:Ad)).toNat<L.length:=by omega
  have hp:plD (L.map (Ao Aa)).length (m%(L.length:Ad))=Ab (m%(L.length:Ad)).toNat:=by
   unfold plD;rw[AI b0,AI (by omega)]
  generalize (m%(L.length:Ad)).toNat=j at *;have hx:L[j]?=Ab L[j]:=BS hi;have hg:(L.map (Ao Aa))[j]?=Ab (Ao Aa L[j]):=by rw[DH,hx];rfl
  have er:(L.map (Ao Aa)).eraseIdx j=(L.eraseIdx j).map (Ao Aa):=Vb _ L j;obtain⟨ys,rest,pm,hy,ih⟩:=UK hm hf n (k+1) (L.eraseIdx j) (by rw[List.length_eraseIdx_of_lt hi];omega)
  refine⟨L[j]::ys,rest,?_,by rw[BU,hy],?_⟩
  .exact(Wz _ pm).trans (UY L j hi)
  .rw[aU];show (f (.int (k:Ad)) (L.map (Ao Aa))).bind _=_;rw[e,R.bind_ok];show (EQ (.int (m%(L.length:Ad)))).bind _=_;rw[MR,R.bind_ok,hp];dsimp only;rw[hg];dsimp only;rw[er];have ih':G8 f (CS ((k:Ad)+1) n) ((L.eraseIdx j).map (Ao Aa))=_:=ih;rw[ih'];rfl
end
section
variable{Y:Gam}{p:Ad}{pts:Ac R3}{ns:Ac Ad}
theorem V5{S X:D}(h:w≠1):evS Y [sh S,si p,Ab (.lst M,Aa),sh X,si w,Ae,Ae,Ae,Ae,Ae,Ae] Je=.next [sh S,si p,Ab (.lst M,Aa),sh X,si w,Ae,Ae,Ae,Ae,Ae,Ae]:=by
 simp[Je,h]
theorem zZ{S X:D}(h:w=1)(fX:flD 5 X=Aa)(fl:∀ x∈M,flD 5 x=Aa)(hn:∃ x∈M,eqD x X=Aa):evS Y [sh S,si p,Ab (.lst M,Aa),sh X,si w,Ae,Ae,Ae,Ae,Ae,Ae] Je=.next [sh S,si p,Ab (.lst M,Aa),sh X,si w,Ae,Ae,Ae,Ae,Ae,Ae]:=by
 have hn':¬ ∀ x∈M,eqD x X=Af:=λz=>by
  obtain⟨x,hx,e⟩:=hn;rw[z x hx]at e;cases e
 simp[Je,h,fX,hn'];exact fl
theorem tV{S X:D}(h:w=1)(fX:flD 5 X=Aa)(fl:∀ x∈M,flD 5 x=Aa)(hn:∀ x∈M,eqD x X=Af)(e:Y.F 228 [S,.int 11]=.ok (.int m))(hl:0<M.length)(hj:plD M.length (m%(M.length:Ad))=Ab j):evS Y [sh S,si p,Ab (.lst M,Aa),sh X,si w,Ae,Ae,Ae,Ae,Ae,Ae] Je=.next [sh S,si p,Ab (.lst (M.set j X),Aa),sh X,si w,Ae,Ae,Ae,Ae,Ae,Ae]:=by
 have iF:(∀ x,x∈M->flD 5 x=Aa)=GL:=Ly fl;have iN:(∀ x,x∈M->eqD x X=Af)=GL:=Ly hn;simp[Je,h,fX,iF,iN,Nb,C7,e,hl,hj]
theorem QO{S X:D}(h:w≠2):evS Y [sh S,si p,Ab (.lst M,Aa),sh X,si w,Ae,Ae,Ae,Ae,Ae,Ae] Kh=.next [sh S,si p,Ab (.lst M,Aa),sh X,si w,Ae,Ae,Ae,Ae,Ae,Ae]:=by
 simp[Kh,h]
theorem bt{S X:D}{M AL RL ys rest:Ac D}(hN:p+1=N)(rg:CP 0 N=.ok RL)(hp:G8 (λx ds=>evE Y (([sh S,si p,Ab (.lst M,Aa),sh X,si w,Ab (.lst AL,Aa),Ae,Ae,Ae,Ae,Ae].set 5 (Ab (.lst ds,Aa))).set 10 (Ab (x,Af))) Kg) RL AL=.ok (ys,rest))(sz:Di AL.length=Aa):evS Y [sh S,si p,Ab (.lst M,Aa),sh X,si w,Ab (.lst AL,Aa),Ae,Ae,Ae,Ae,Ae] (.cpop 2 5 10 (.rng (.bin .Add (.var 1) (.int 1))) Kg)=.next [sh S,si p,Ab (.lst ys,Aa),sh X,si w,Ab (.lst rest,Aa),Ae,Ae,Ae,Ae,Ae]:=by
 have hi:Fe Y [sh S,si p,Ab (.lst M,Aa),sh X,si w,Ab (.lst AL,Aa),Ae,Ae,Ae,Ae,Ae] (.rng (.bin .Add (.var 1) (.int 1)))=.ok RL:=by
  simp[hN,rg]
 rw[eW];unfold cpD;rw[show C7 [sh S,si p,Ab (.lst M,Aa),sh X,si w,Ab (.lst AL,Aa),Ae,Ae,Ae,Ae,Ae] 5=.ok AL from rfl,O.of_ok,hi,O.of_ok,hp]
 show (if (Aa&&Di AL.length)=Aa then _ else _)=_
 rw[sz];rfl
theorem tU{S X:D}{M AL RL RA ys rest:Ac D}{NA:Ad}(h:w=2)(mm:DW p p=Aa)(hA:p*p+p+1=NA)(rA:CP 0 NA=.ok RA)(cp:BQ (cG Y [sh S,si p,Ab (.lst M,Aa),sh X,si w,Ae,Ae,Ae,Ae,Ae,Ae] 9 Cu) (cF Y [sh S,si p,Ab (.lst M,Aa),sh X,si w,Ae,Ae,Ae,Ae,Ae,Ae] 9 LQ) RA=.ok AL)(hN:p+1=N)(rg:CP 0 N=.ok RL)(hp:G8 (λx ds=>evE Y (([sh S,si p,Ab (.lst M,Aa),sh X,si w,Ab (.lst AL,Aa),Ae,Ae,Ae,Ae,Ae].set 5 (Ab (.lst ds,Aa))).set 10 (Ab (x,Af))) Kg) RL AL=.ok (ys,rest))(sz:Di AL.length=Aa):evS Y [sh S,si p,Ab (.lst M,Aa),sh X,si w,Ae,Ae,Ae,Ae,Ae,Ae] Kh=.next [sh S,si p,Ab (.lst ys,Aa),sh X,si w,Ab (.lst rest,Aa),Ae,Ae,Ae,Ae,Ae]:=by
 have c:=bt (Y:=Y) (S:=S) (X:=X) (M:=M) (w:=w) hN rg hp sz;have e1:evS Y [sh S,si p,Ab (.lst M,Aa),sh X,si w,Ae,Ae,Ae,Ae,Ae,Ae] (.asg 5 Aa (.comp LQ 9 (.rng (.bin .Add (.bin .Add (.bin .Mult (.var 1) (.var 1)) (.var 1)) (.int 1))) Cu))=.next [sh S,si p,Ab (.lst M,Aa),sh X,si w,Ab (.lst AL,Aa),Ae,Ae,Ae,Ae,Ae]:=by
  simp[mm,hA,rA,cp,DL]
 subst h;unfold Kh;rw[lU];have t:(top [sh S,si p,Ab (.lst M,Aa),sh X,si 2,Ae,Ae,Ae,Ae,Ae,Ae] (.cmp .Eq (.var 4) (.int 2)) (evE Y [sh S,si p,Ab (.lst M,Aa),sh X,si 2,Ae,Ae,Ae,Ae,Ae,Ae] (.cmp .Eq (.var 4) (.int 2)))).bind CD=.ok Aa:=by simp
 rw[t,O.of_ok,AI rfl,JI,e1,Uo,JI,c];rfl
structure HP72 (Y:Gam) (ns:Ac Ad):Prop where
 mix:JJ Y 228 ns
 pt:Q1 Y
theorem uU(h:HP72 Y ns)(hp:P4 p)(nf:∀ x∈L,NF p x)(nd:L.Nodup)(hl:(L.length:Ad)=p+1)(nx:NF p x):∃(l:Ac R3)(M:Ac D)(s5:Sl),(∀ y∈l,NF p y)/\l.Nodup/\(l.length:Ad)=p+1/\evS Y [sh (scr ns),si p,Ab (.lst (L.map (Ao Aa)),Aa),sh (Ao Aa x),si w,Ae,Ae,Ae,Ae,Ae,Ae] Je=.next [sh (scr ns),si p,Ab (.lst M,Aa),sh (Ao Aa x),si w,Ae,Ae,Ae,Ae,Ae,Ae]/\evS Y [sh (scr ns),si p,Ab (.lst M,Aa),sh (Ao Aa x),si w,Ae,Ae,Ae,Ae,Ae,Ae] Kh=.next [sh (scr ns),si p,Ab (.lst (l.map (Ao Aa)),Aa),sh (Ao Aa x),si w,s5,Ae,Ae,Ae,Ae,Ae]:=by
 have ph:=hp.hi;have pl:=hp.lo;by_cases w2:w=2
 .have N1:0<=p*p+p+1/\p*p+p+1<=1000:=by rcases hp with rfl|rfl|rfl|rfl<;>decide
  have rk:∀ N:Ad,0<=N->N<=1000->CP 0 N=.ok (CS 0 N.toNat):=λN h1 h2=>by
   have:=MT (lo:=0) (hi:=N) (by decide) (by decide) (by omega) (by omega)
   rwa [Gw]at this
  have mm:DW p p=Aa:=HS (by omega) (by omega)
  have cp:=vR (U:=[sh (scr ns),si p,Ab (.lst (L.map (Ao Aa)),Aa),sh (Ao Aa x),si w,Ae,Ae,Ae,Ae,Ae,Ae]) (k:=9) (q:=Cu) (e:=LQ) h.pt hp λn hn=>⟨rfl,by
   generalize L.map (Ao Aa)=T;generalize Ao Aa x=X;generalize scr ns=S;simp[cF,LQ];cases Y.F 231 [.int p,.int (n:Ad)]<;>rfl⟩
  have al:(El p).length<=133:=nH hp;have al':(p+1).toNat<=(El p).length:=by
   unfold El;rw[AZ,Hv];have:0<=p*p:=GY (by omega) (by omega)
   omega
  obtain⟨ys,rest,pm,hy,hpop⟩:=UK h.mix (f:=λx' ds=>evE Y (([sh (scr ns),si p,Ab (.lst (L.map (Ao Aa)),Aa),sh (Ao Aa x),si w,Ab (.lst ((El p).map (Ao Aa)),Aa),Ae,Ae,Ae,Ae,Ae].set 5 (Ab (.lst ds,Aa))).set 10 (Ab (x',Af))) Kg) (λk m ds em hd=>xI rfl rfl rfl em hd) (p+1).toNat 0 (El p) al'
  have nd':=(pm.nodup_iff.mpr (S8 hp));exact⟨ys,_,Ab (.lst (rest.map (Ao Aa)),Aa),λy hy'=>(Kc hp).mp (pm.mem_iff.mp (Gz _ hy')),(WR.mp nd').1,by rw[hy];omega,V5 (by omega),tU w2 mm rfl (rk _ N1.1 N1.2) cp rfl (rk _ (by omega) (by omega)) hpop (EU (by rw[AZ];omega))⟩
 .have fl:∀ y∈L.map (Ao Aa),flD 5 y=Aa:=λy hy=>by
   obtain⟨z,_,rfl⟩:=BL.mp hy;rfl
  by_cases w1:w=1
  .by_cases hx:x∈L
   .exact⟨L,_,Ae,nf,nd,hl,zZ w1 rfl fl ⟨Ao Aa x,List.mem_map_of_mem hx,by rw[Ni];simp⟩,QO w2⟩
   .obtain⟨m,_,em⟩:=h.mix 11 (by decide)
    have b0:=AK m (show ((L.map (Ao Aa)).length:Ad)≠0 by rw[AZ];omega)
    have b1:=AG m (show (0:Ad)<((L.map (Ao Aa)).length:Ad) by rw[AZ];omega)
    have hj:plD (L.map (Ao Aa)).length (m%((L.map (Ao Aa)).length:Ad))=Ab (m%((L.map (Ao Aa)).length:Ad)).toNat:=by
     unfold plD;rw[AI b0,AI b1]
    have st:=tV (Y:=Y) (p:=p) (S:=scr ns) (X:=Ao Aa x) (M:=L.map (Ao Aa)) (w:=w) w1 rfl fl (λy hy=>by
     obtain⟨z,hz,rfl⟩:=BL.mp hy;rw[Ni];exact CM λe=>hx (e ▸ hz)) em (by rw[AZ];omega) hj
    generalize (m%((L.map (Ao Aa)).length:Ad)).toNat=j at *;rw[<-List.map_set]at st;refine⟨L.set j x,_,Ae,λy hy=>?_,?_,by rw[Bj];exact hl,st,QO w2⟩
    .rcases WQ hy with h|h
     .exact nf y h
     .rw[h];exact nx
    .rw[WS,WT]at nd ⊢;intro i k hi hk hik;rw[Bj]at hi hk;rw[WH,WH];have n1:∀ i (h:i<L.length),L[i]≠x:=λi h e=>hx (e ▸ CB h)
     split<;>split
     .omega
     .exact λe=>n1 k hk e.symm
     .exact n1 i hi
     .exact nd i k hi hk hik
  .exact⟨L,_,Ae,nf,nd,hl,V5 w1,QO w2⟩
theorem mM{X:D}(h:Y.F 194 [T]=.ok .non)(e:Y.F 65 [.int p,T]=.ok X)(iX:Cf .IsNot X .non=.ok (.bl Aa)):KN.run Y [.int p,T]=.ok (.tup [.str (AN "line"),X]):=by
 simp[KN,Df.run,BJ,h,e,iX]
theorem mO{C:D}{n:Ad}(h:Y.F 194 [T]=.ok .non)(e:Y.F 65 [.int p,T]=.ok .non)(ln:biD .len [T]=.ok (.int n))(hn:n=p+1)(ec:Y.F 224 [.int p,T]=.ok C):KN.run Y [.int p,T]=.ok (.tup [.str (AN "curve"),C]):=by
 subst hn;simp[KN,Df.run,BJ,h,e,ln,ec]
section
variable{S X TB OV:D}{L M PL:Ac D}{s5:Sl}{m9 m10:Ad}(e1:Y.F 229 [S]=.ok (.int p))(et:Y.F 250 [.int p,S,.int 100]=.ok TB)(eo:Y.F 290 [.int p,TB]=.ok OV)(er:Y.F 251 [S,.int 20,OV]=.ok (.lst L))(fr:Y.fr 251=Aa)(cl:Ie Aa (.lst L)=Aa)(e9:Y.F 228 [S,.int 9]=.ok (.int m9))(ex:Y.F 231 [.int p,.int m9]=.ok X)(e10:Y.F 228 [S,.int 10]=.ok (.int m10))
 (h1:evS Y [sh S,si p,Ab (.lst L,Aa),sh X,si (m10%3),Ae,Ae,Ae,Ae,Ae,Ae] Je=.next [sh S,si p,Ab (.lst M,Aa),sh X,si (m10%3),Ae,Ae,Ae,Ae,Ae,Ae])
 (h2:evS Y [sh S,si p,Ab (.lst M,Aa),sh X,si (m10%3),Ae,Ae,Ae,Ae,Ae,Ae] Kh=.next [sh S,si p,Ab (.lst PL,Aa),sh X,si (m10%3),s5,Ae,Ae,Ae,Ae,Ae])
 (qP:eqDs PL PL=Aa) (fP:∀ x∈PL,flD 4 x=Aa)
include e1 et eo er fr cl e9 ex e10 h1 h2 qP fP
theorem sW(e4:Y.F 227 [.int p,.lst PL]=.ok (.tup [.str (AN "line"),d]))(e3:Y.F 234 [.int p,.lst PL]=.ok d)(id:Cf .IsNot d .non=.ok (.bl Aa))(fd:flD 4 d=Aa)(qd:eqD d d=Aa)(cd:∀ b,Ie b d=Aa):KW.run Y [S]=.ok (.bl Aa):=by
 have lP:biD .list [.lst PL]=.ok (.lst PL):=rfl;have iP:(∀ x,x∈PL->flD 4 x=Aa)=GL:=Ly fP;have fW:flD 5 (.tup [.str (AN "line"),d])=Aa:=by show (Aa&&(flD 4 d&&Aa))=Aa;rw[fd];rfl
 have qW:eqD (.tup [.str (AN "line"),d]) (.tup [.str (AN "line"),d])=Aa:=by
  show (eqD (.str (AN "line")) (.str (AN "line"))&&(eqD d d&&Aa))=Aa;rw[qd];decide
 have lw:biD .len [.tup [.str (AN "line"),d]]=.ok (.int 2):=rfl;have iw:G3 Y.up [.tuple] (.tup [.str (AN "line"),d])=.ok (.bl Aa):=rfl;simp[KW,Df.run,BJ,e1,et,eo,er,fr,cl,e9,ex,e10,h1,h2,qP,iP,lP,e4,e3,id,fd,qd,cd,lw,iw,DL]
theorem tD{C:D}(e4:Y.F 227 [.int p,.lst PL]=.ok (.tup [.str (AN "curve"),C]))(e3:Y.F 234 [.int p,.lst PL]=.ok .non)(e5:Y.F 248 [.int p,.lst PL,C]=.ok (.bl Aa))(e6:Y.F 227 [.int p,.lst PL.reverse]=.ok (.tup [.str (AN "curve"),C]))(fd:flD 4 C=Aa)(qd:eqD C C=Aa):KW.run Y [S]=.ok (.bl Aa):=by
 have lP:biD .list [.lst PL]=.ok (.lst PL):=rfl;have rP:biD .rvs [.lst PL]=.ok (.lst PL.reverse):=rfl;have iP:(∀ x,x∈PL->flD 4 x=Aa)=GL:=Ly fP;have x0:CF (.tup [.str (AN "curve"),C]) (.int 0)=.ok (.str (AN "curve")):=rfl;have x1:CF (.tup [.str (AN "curve"),C]) (.int 1)=.ok C:=rfl;have lw:biD .len [.tup [.str (AN "curve"),C]]=.ok (.int 2):=rfl;have iw:G3 Y.up [.tuple] (.tup [.str (AN "curve"),C])=.ok (.bl Aa):=rfl;have fW:flD 5 (.tup [.str (AN "curve"),C])=Aa:=by show (Aa&&(flD 4 C&&Aa))=Aa;rw[fd];rfl
 have qW:eqD (.tup [.str (AN "curve"),C]) (.tup [.str (AN "curve"),C])=Aa:=by
  show (eqD (.str (AN "curve")) (.str (AN "curve"))&&(eqD C C&&Aa))=Aa;rw[qd];decide
 have cn:∀ b,Ie b .non=Aa:=λ_=>rfl
 have cb:∀ b,Ie b (.bl Aa)=Aa:=λ_=>rfl
 generalize D.tup [.str (AN "curve"),C]=W at *;generalize PL.reverse=RP at *;simp[KW,Df.run,BJ,e1,et,eo,er,fr,cl,e9,ex,e10,h1,h2,qP,iP,lP,rP,e4,e3,e5,e6,cn,cb,fW,qW,x0,x1,lw,iw,DL]
end
theorem zK(l:Ac R3):(∀ x∈l.map (Ao Aa),flD 4 x=Aa)/\eqDs (l.map (Ao Aa)) (l.map (Ao Aa))=Aa:=by
 have h:∀ x∈l.map (Ao Aa),flD 4 x=Aa:=λx hx=>by
  obtain⟨r,_,rfl⟩:=BL.mp hx;rfl
 exact⟨h,M2 5 (.lst (l.map (Ao Aa))) (List.all_eq_true.mpr h)⟩
structure H72 (Y:Gam) (ns:Ac Ad):Prop where
 pr:∃ p,P4 p/\Y.F 229 [scr ns]=.ok (.int p)
 hp:HP72 Y ns
 tb:nL Y ns
 ov:vG Y
 ord:nM Y ns
 fr:Y.fr 251=Aa
 th:∀(p:Ad)(pts:Ac R3),P4 p->(∀ x∈pts,NF p x)->pts.length<=1000->Y.F 234 [.int p,AU pts]=.ok ((z0_ p pts).getD .non)
 ll:∀(p:Ad)(pts:Ac R3)(d:D),P4 p->(∀ x∈pts,NF p x)->pts.Nodup->pts.length<=1000->z0_ p pts=Ab d->Y.F 227 [.int p,AU pts]=.ok (.tup [.str (AN "line"),d])
 lc:∀(p:Ad)(pts:Ac R3),P4 p->N3 p pts->z0_ p pts=Ae->(pts.length:Ad)=p+1->∃ C:C6,InC p C/\AS p C.l=Ab 1/\Whl p C/\(∀ x∈pts,vI C x%p=0)/\Y.F 227 [.int p,AU pts]=.ok (.tup [.str (AN "curve"),BM C])
 sc:∀(p:Ad)(pts:Ac R3)(C:C6),P4 p->(∀ x∈pts,NF p x)->(pts.length:Ad)=p+1->InC p C->AS p C.l=Ab 1->Whl p C->(∀ x∈pts,vI C x%p=0)->Y.F 248 [.int p,AU pts,BM C]=.ok (.bl Aa)
theorem tM(h:H72 Y ns):KW.run Y [scr ns]=.ok (.bl Aa):=by
 obtain⟨p,hp,e1⟩:=h.pr;have ph:=hp.hi;obtain⟨a,b,c,G,et⟩:=h.tb p 100 hp (by decide)
 have eo:=h.ov p a b c G;have ll:((FY p).map λx=>nrm p (ap a b c x)).length<=60:=by rw[AZ];exact(cT hp).2
 have nO:∀ x∈((FY p).map λx=>nrm p (ap a b c x)),NF p x:=λx hx=>by
  obtain⟨w,hw,rfl⟩:=BL.mp hx;obtain⟨_,l,el⟩:=M6 hp hw;obtain⟨k,ek⟩:=L6 hp G.nz el CgR.rfl;exact(KQ hp ek).1
 have dO:=jF hp G.nz;have lO:(((FY p).map λx=>nrm p (ap a b c x)).length:Ad)=p+1:=by
  rw[AZ];rcases hp with rfl|rfl|rfl|rfl<;>decide
 obtain⟨L,pm,er⟩:=h.ord 20 _ (by decide) ll
 generalize ((FY p).map λx=>nrm p (ap a b c x))=OL at *
 obtain⟨m9,_,e9⟩:=h.hp.mix 9 (by decide)
 obtain⟨m10,_,e10⟩:=h.hp.mix 10 (by decide)
 have ex:=h.hp.pt p m9 hp;have nx:NF p (ptI p (m9%(p*p+p+1))):=sA hp m9;generalize ptI p (m9%(p*p+p+1))=x at *;obtain⟨l,M,s5,nf,nd,hl,h1,h2⟩:=uU h.hp hp (L:=L) (λy hy=>nO y (pm.mem_iff.mp hy)) (pm.nodup_iff.mpr dO) (by rw[pm.length_eq];exact lO) nx (w:=m10%3)
 obtain⟨fP,qP⟩:=zK l;have e3:=h.th p l hp nf (by omega)
 cases z:z0_ p l with
 |some d=>
  rw[z]at e3;have e4:=h.ll p l d hp nf nd (by omega) z
  obtain⟨x',y',u',_,_,_,_,_,_,_,rfl⟩:=qJ nd z;exact sW e1 et eo er h.fr (Ui L) e9 ex e10 h1 h2 qP fP e4 e3 rfl rfl (M2 5 _ rfl) (λ_=>rfl)
 |none=>
  rw[z]at e3;have n3:=n3Z nd nf z;obtain⟨C,iC,lC,wC,on,e4⟩:=h.lc p l hp n3 z hl;have n3':N3 p l.reverse:=n3.perm (List.reverse_perm l);have z':z0_ p l.reverse=Ae:=xB n3'.nd λx hx y hy u hu=>n3'.n3 x y u hx hy hu
  obtain⟨E,iE,lE,wE,onE,e6⟩:=h.lc p l.reverse hp n3' z' (by rw[GV];exact hl)
  have eq:=ZP hp n3 hl iC lC wC on iE lE wE (λy hy=>onE y (List.mem_reverse.mpr hy))
  subst eq;have e5:=h.sc p l C hp nf hl iC lC wC on;have e6':Y.F 227 [.int p,.lst (l.map (Ao Aa)).reverse]=.ok (.tup [.str (AN "curve"),BM C]):=by rw[<-List.map_reverse];exact e6
  exact tD e1 et eo er h.fr (Ui L) e9 ex e10 h1 h2 qP fP e4 e3 e5 e6' rfl (M2 5 _ rfl)
end
noncomputable def Y_6:Ag->Ac Ag:=λ_=>[]
noncomputable def Y_4:Ag->Ac D->R Ex:=λ_ _=>.bad
noncomputable def Q72:Prg:=⟨Aa,fun
 |1=>Qv
 |9=>Mw
 |17=>MG
 |23=>O1
 |57=>Qo
 |61=>O6
 |65=>KH
 |194=>MY
 |109=>Nd
 |69=>SF
 |104=>O8
 |91=>O5
 |78=>OW
 |98=>OH
 |105=>PX
 |106=>OD
 |122=>OX
 |123=>Mx
 |126=>L4
 |128=>MN
 |131=>OI
 |132=>PN
 |133=>Nc
 |110=>Pw
 |111=>ON
 |112=>KD
 |195=>LS
 |196=>Op
 |197=>LR
 |198=>MD
 |224=>J7
 |227=>KN
 |228=>LI
 |229=>Oj
 |288=>OM
 |231=>ZB
 |232=>OG
 |233=>O7
 |234=>Og
 |250=>Oh
 |289=>OE
 |290=>Mz
 |251=>J5
 |236=>Oi
 |237=>OF
 |246=>MO
 |247=>ME
 |248=>LJ
 |249=>KW
 | _=>⟨0,Af,.nil⟩,λ_=>.non,Y_6,Y_4⟩
theorem zS(ns:Ac Ad)(hl:ns.length<=63):(gam Q72 9).F 249 [scr ns]=.ok (.bl Aa):=by
 have gF:∀ n i ds,(gam Q72 (n+1)).F i ds=(Q72.defs i).run (gam Q72 n) ds:=λ_ _ _=>rfl
 have d65:Q72.defs 65=KH:=rfl;have d109:Q72.defs 109=Nd:=rfl;have d112:Q72.defs 112=KD:=rfl;have d123:Q72.defs 123=Mx:=rfl;have d128:Q72.defs 128=MN:=rfl;have d133:Q72.defs 133=Nc:=rfl;have d194:Q72.defs 194=MY:=rfl;have d195:Q72.defs 195=LS:=rfl;have d197:Q72.defs 197=LR:=rfl;have d198:Q72.defs 198=MD:=rfl;have d224:Q72.defs 224=J7:=rfl;have d227:Q72.defs 227=KN:=rfl;have d234:Q72.defs 234=Og:=rfl;have d251:Q72.defs 251=J5:=rfl;have d290:Q72.defs 290=Mz:=rfl;have d248:Q72.defs 248=LJ:=rfl;have d246:Q72.defs 246=MO:=rfl;have d247:Q72.defs 247=ME:=rfl;have fa:∀ n i,(gam Q72 n).fr i=(Q72.defs i).fr:=λn i=>by cases n<;>rfl
 have rs:∀ n,Iz (gam Q72 (n+1)):=λn p m hp=>rH (gam Q72 n) p m hp
 have mi:∀ n,JJ (gam Q72 (n+1)) 228 ns:=λn k hk=>rO (gam Q72 n) ns hl k hk
 have tu:∀ n,O9 (gam Q72 (n+2)):=λn p m hp z=>aY (rs n) p m hp z
 have fo:∀ n,Nf (gam Q72 (n+3)):=λn p b xs l t hp e it=>kF (rs (n+1)) (tu n) hp e it
 have me:∀ n,Jc (gam Q72 (n+2)):=λn p q a b c hp ha hb hc=>kD (rs n) p q a b c hp ha hb hc
 have jo:∀ n,VL (gam Q72 (n+4)):=λn p a b hp ia ib la lb ne=>rR (λa b ha hb ne=>SX (gam Q72 (n+2)) a b ha hb ne) (fo n) p a b hp ia ib la lb ne
 have tr:∀ n p,P4 p->(gam Q72 (n+1)).F 69 [.int p]=.ok (AU (El p)):=λn p hp=>yL (gam Q72 n) p hp
 have fi:∀ n (p:Ad) (pts:Ac R3),P4 p->(∀ x∈pts,NF p x)->pts.length<=1000->(gam Q72 (n+3)).F 65 [.int p,AU pts]=.ok ((z0_ p pts).getD .non):=λn p pts hp np hz=>by rw[gF,d65];exact eA (me n) hp (λx hx=>(np x hx).1) (by show pts.length<20000;omega)
 have tf:∀ n,Nx (gam Q72 (n+4)):=λn p t q a b c hp ha hb hc z l u e it=>tI (me (n+1)) (fo n) p t q a b c hp ha hb hc z l u e it
 have co:∀ n,Mg (gam Q72 (n+1)):=λn=>rS _
 have su:∀ n,Qr (gam Q72 (n+2)):=λn=>rG (rs n)
 have cr:∀ n,UT (gam Q72 (n+2)):=λn=>kK (SX _)
 have ba:∀ n,Nz (gam Q72 (n+5)):=λn=>rW (cr (n+2)) (co (n+3)) (tf n)
 have af:∀ n,P6 (gam Q72 (n+5)):=λn=>kM (co (n+3)) (su (n+2)) (tf n)
 have fq:∀ n,Ri (gam Q72 (n+5)):=λn=>YW (me (n+2)) (dW _) (co (n+3)) (tf n)
 have f4:∀ n,fL (gam Q72 (n+3)):=λn p a b c d hp ha hb hc hd h=>by rw[gF,d65,kH (me n) p a b c d hp ha hb hc hd h]
 have ask:∀ n,Q2 (gam Q72 (n+4)):=λn p a b c d hp ha hb hc hd h=>by rw[gF,d109,kL (f4 n p a b c d hp ha hb hc hd h)]
 have cf:∀ n,Ny (gam Q72 (n+4)):=λn p b xs l t hp e it=>rT (rs (n+2)) (fo n) hp e it
 have va:∀ n,P5 (gam Q72 (n+2)):=λn=>jV (rs n)
 have vb:∀ n,VH (gam Q72 (n+2)):=λn=>tH (rs n)
 have tw:∀ n,UP (gam Q72 (n+2)):=λn=>jW (rs n)
 have lm:∀ n,VJ (gam Q72 (n+1)):=λn=>rQ _
 have mx:∀ n,VI (gam Q72 (n+3)):=λn=>rN (tw n) (su n)
 have un5:∀(pts:Ac R3),pts.Nodup->(gam Q72 5).F 194 [AU pts]=.ok .non:=λpts nd=>VT (Y:=gam Q72 4) pts nd
 have cok:HC74 (gam Q72 6):=by
  refine⟨λp hp=>?_,λp C hp iC=>?_,λp f0 f1 f2 f3 g0 g1 g2 g3 hp F G=>?_,λp C a b c iC lC T=>?_,λp C a b c d e hp iC lC h fp=>?_⟩
  .rw[gF,d123,dX (cf 1) p hp]
  .rw[gF,d128,jZ (λp hp=>tr 4 p hp) (va 3) p C hp iC]
  .obtain⟨a,b,c,T,L,e⟩:=dY (ask 1) (fq 0) (ba 0) (af 0) hp F G;exact⟨a,b,c,T,L,by rw[gF,d112,e]⟩
  .obtain⟨E,i,l,q,e⟩:=kB (ba 0) (co 4) (va 3) (mx 2) (cf 1) p C a b c iC lC T;exact⟨E,i,l,q,by rw[gF,d133,e]⟩
  .have e1:=un5 _ h.nd;have e2:(gam Q72 5).F 195 [.int p,AU [a,b,c,d,e]]=.ok .non:=by rw[gF,d195];exact yM (me 2) hp h
   have e3:(gam Q72 5).F 197 [.int p,AU [a,b,c,d,e]]=.ok (BM C):=by rw[gF,d197];exact yN (jo 0) (lm 3) (vb 2) (cf 0) hp iC lC h fp
   rw[gF,d198];rw[Pa]at e1 e2 e3 ⊢;exact tJ e1 e2 e3
 have sm:∀ n,JF (gam Q72 (n+1)):=λn p q q' a x p0 ha hx=>dU (gam Q72 n) p q q' a x p0 ha hx
 have cs:∀ n,J8 (gam Q72 (n+1)):=λn p q q' a x p0 ha hx=>eF (gam Q72 n) p q q' a x p0 ha hx
 have fm:∀ n,UR (gam Q72 (n+1)):=λn p b xs l t hp e it=>kG (gam Q72 n) hp e it
 have le:∀ n,Um (gam Q72 (n+2)):=λn p t q q' a b c x G hx lx=>dZ (sm n) (fm n) p t q q' a b c x G hx lx
 have pt:∀ n,Q1 (gam Q72 (n+1)):=λn p m hp=>rJ (gam Q72 n) p m hp
 have th:∀ n (p:Ad) (pts:Ac R3),P4 p->(∀ x∈pts,NF p x)->pts.length<=1000->(gam Q72 (n+2)).F 234 [.int p,AU pts]=.ok ((z0_ p pts).getD .non):=λn p pts hp np hz=>by rw[gF,d234];exact dS (cs n) (sm n) hp (λx hx=>(np x hx).1) hz
 have rq:∀ n,UQ (gam Q72 (n+1)):=λn p xs hx=>jY (gam Q72 n) p xs hx
 have fd6:∀ n,US (gam Q72 (n+2)):=λn p xs p0 hx l1=>kI (rq n) p xs p0 hx l1
 have un:∀(pts:Ac R3),pts.Nodup->(gam Q72 7).F 194 [AU pts]=.ok .non:=λpts nd=>VT (Y:=gam Q72 6) pts nd
 refine tM (Y:=gam Q72 8) ⟨kA (mi 6),⟨mi 7,pt 7⟩,λp at_ hp ha=>rF (mi 6) p at_ hp ha,λp a b c G=>by rw[gF 7,d290];exact rK (le 5) p a b c G,λat_ L ha hL=>?_,by rw[fa];rfl,λp pts hp np hz=>th 6 p pts hp np hz,λp pts d hp np nd hz z=>?_,λp pts hp n3 z hl=>?_,λp pts C hp np hl iC lC wC on=>?_⟩
 .obtain⟨M,pm,e⟩:=rL (mi 6) at_ L ha hL;exact⟨M,pm,by rw[gF 7,d251];exact e⟩
 .have e:=fi 4 p pts hp np hz;rw[z]at e;obtain⟨x,_,y,_,u,_,rfl⟩:=xC z;rw[gF 7,d227];exact mM (un pts nd) e rfl
 .have e:=fi 4 p pts hp n3.nf (by have:=hp.hi;omega)
  rw[z]at e;obtain⟨C,iC,lC,wC,on,eC⟩:=rV cok hp n3 hl;refine⟨C,iC,lC,wC,on,?_⟩;rw[gF 7,d227];exact mO (un pts n3.nd) e (MW pts) hl (by rw[gF 6,d224];exact eC)
 .rw[gF 7,d248];exact kJ (fd6 5) (λp C hp=>by rw[gF 6,d246];exact jX C hp) (λp C x hp iC ix=>by rw[gF 6,d247];exact kE C x hp iC ix) (cs 6) (sm 6) hp np hl iC lC wC on
end OvC
namespace OvC
open PySem PySem.Spec PyProof.Rows Ov L2
variable{l:F6}
noncomputable def VV:Ac (Al×Ag×Ag):=([("rest",1,2),("turned_over",9,2),("one_form",17,2),("crossed",23,2),("join",57,3),("measure",61,4),("first_three",65,2),("ask_unlike",194,1),("ask_no_three",109,2),("triples",69,1),("columns",104,1),("sums_by",91,3),("table_of",78,2),("crossed_rows",98,1),("after",105,3),("table_back",106,2),("curve_of",122,2),("plain_curve",123,1),("value",126,3),("points_of",128,2),("twice_table",131,2),("mixed",132,4),("moved",133,3),("scaled",110,2),("frame_table",111,2),("frame_move",112,3),("first_four",195,2),("lines_multiplied",196,2),("five_curve",197,2),("curve_through",198,2)]:Ac (Al×Ag×Ag))++([("curve_on",224,2),("look",227,2),("_law_mixed",228,2),("_law_prime",229,1),("_law_form",288,2),("_law_point",231,2),("_law_cross",232,3),("_law_sum",233,3),("_law_three",234,2),("_law_table",250,3),("_law_led",289,3),("_law_oval",290,2),("_law_order",251,3),("_law_rests",236,3),("_law_formed",237,3),("_law_twice",246,2),("_law_value",247,3),("_law_curve_stands",248,3),("law",249,1)]:Ac (Al×Ag×Ag))
noncomputable def RO:Ac Al:=["all", "any", "bool", "enumerate", "int", "isinstance", "len", "list", "max", "min", "range", "reversed", "sum", "tuple", "zip"]
noncomputable def VR:Ac (Al×Ag):=[]
noncomputable def VY:Ac (Al×Ag):=[]
noncomputable def V6:Ac (Al×Ag):=[]
noncomputable abbrev C72(h:Aj)(n:Ag)(N:Ac Al)(i d:Ag):Aj:=Ig 80 h VV RO VR VY V6 (N.take n) N (tp72 i) (Q72.defs d)
theorem wF:C72 Af 2 ["p", "n"] 10 1=Aa:=by decide+kernel
theorem wD:C72 Af 2 ["p", "n", "turned"] 11 9=Aa:=by decide+kernel
theorem wB:C72 Af 2 ["p", "numbers", "rests", "first", "factor", "#5", "#6"] 13 17=Aa:=by decide+kernel
theorem wA:C72 Af 2 ["one", "other"] 14 23=Aa:=by decide+kernel
theorem vZ:C72 Af 3 ["p", "one", "other"] 18 57=Aa:=by decide+kernel
theorem vY:C72 Af 4 ["p", "one", "other", "third"] 19 61=Aa:=by decide+kernel
theorem vX:C72 Af 2 ["p", "points", "i", "one", "j", "k"] 20 65=Aa:=by decide+kernel
theorem vW:C72 Af 1 ["points", "place", "point"] 21 194=Aa:=by decide+kernel
theorem vV:C72 Af 2 ["p", "points", "three"] 22 109=Aa:=by decide+kernel
theorem vU:C72 Af 1 ["p", "told", "z", "y", "#4"] 23 69=Aa:=by decide+kernel
theorem nE:C72 Af 1 ["rows"] 25 104=Aa:=by decide+kernel
theorem nC:C72 Af 3 ["p", "rows", "numbers", "#3"] 26 91=Aa:=by decide+kernel
theorem nB:C72 Af 2 ["p", "rows", "nine"] 27 78=Aa:=by decide+kernel
theorem mZ:C72 Af 1 ["table"] 28 98=Aa:=by decide+kernel
theorem mY:C72 Af 3 ["p", "one", "other", "sides", "#4"] 29 105=Aa:=by decide+kernel
theorem mX:C72 Af 2 ["p", "table"] 30 106=Aa:=by decide+kernel
theorem mW:C72 Af 2 ["p", "numbers", "rests", "#3"] 32 122=Aa:=by decide+kernel
theorem mV:C72 Af 1 ["p"] 33 123=Aa:=by decide+kernel
theorem oW:C72 Af 3 ["p", "curve", "point", "squares", "products"] 34 126=Aa:=by decide+kernel
theorem oV:C72 Af 2 ["p", "curve", "#2"] 35 128=Aa:=by decide+kernel
theorem oU:C72 Af 2 ["p", "curve"] 36 131=Aa:=by decide+kernel
theorem oS:C72 Af 4 ["p", "curve", "one", "other", "sums"] 37 132=Aa:=by decide+kernel
theorem oR:C72 Af 3 ["p", "curve", "table", "sides", "squares", "products", "#6"] 38 133=Aa:=by decide+kernel
theorem oQ:C72 Af 2 ["factor", "point", "#2"] 40 110=Aa:=by decide+kernel
theorem oP:C72 Af 2 ["p", "four", "sides"] 41 111=Aa:=by decide+kernel
theorem oO:C72 Af 3 ["p", "four", "goals"] 42 112=Aa:=by decide+kernel
theorem oN:C72 Af 2 ["p", "points", "place", "four"] 44 195=Aa:=by decide+kernel
theorem oM:C72 Af 2 ["one", "other"] 45 196=Aa:=by decide+kernel
theorem oK:C72 Af 2 ["p", "points", "one", "other", "by_one", "by_other", "#6", "#7"] 46 197=Aa:=by decide+kernel
theorem oJ:C72 Af 2 ["p", "points", "four"] 47 198=Aa:=by decide+kernel
theorem oH:C72 Af 2 ["p", "points", "plain"] 52 224=Aa:=by decide+kernel
theorem oG:C72 Af 2 ["p", "points", "three", "left"] 55 227=Aa:=by decide+kernel
theorem oF:C72 Af 2 ["_law_script", "_law_k", "_law_cell", "_law_step"] 57 228=Aa:=by decide+kernel
theorem oD:C72 Af 1 ["_law_script"] 58 229=Aa:=by decide+kernel
theorem nZ:C72 Af 2 ["_law_p", "_law_numbers", "_law_rests_here", "_law_first", "_law_back", "#5", "#6", "#7", "#8"] 59 288=Aa:=by decide+kernel
theorem nY:C72 Af 2 ["_law_p", "_law_number"] 60 231=Aa:=by decide+kernel
theorem nX:C72 Af 3 ["_law_p", "_law_one", "_law_other", "_law_x", "_law_y", "_law_z"] 61 232=Aa:=by decide+kernel
theorem nW:C72 Af 3 ["_law_p", "_law_one", "_law_other"] 62 233=Aa:=by decide+kernel
theorem nV:C72 Af 2 ["_law_p", "_law_points", "_law_i", "_law_j", "_law_line", "_law_k"] 63 234=Aa:=by decide+kernel
theorem nU:C72 Af 3 ["_law_p", "_law_script", "_law_at", "_law_rows", "_law_k", "_law_number", "_law_i", "_law_j", "_law_many", "#9", "#10", "#11"] 65 250=Aa:=by decide+kernel
theorem nS:C72 Af 3 ["_law_p", "_law_rows", "_law_point_here", "#3"] 66 289=Aa:=by decide+kernel
theorem nR:C72 Af 2 ["_law_p", "_law_rows", "_law_points", "_law_t"] 67 290=Aa:=by decide+kernel
theorem nQ:C72 Af 3 ["_law_script", "_law_at", "_law_things", "_law_told", "_law_k", "_law_spot"] 68 251=Aa:=by decide+kernel
theorem nP:C72 Af 3 ["_law_p", "_law_found", "_law_many", "#3"] 69 236=Aa:=by decide+kernel
theorem kX:C72 Af 3 ["_law_p", "_law_found", "_law_many", "#3"] 70 237=Aa:=by decide+kernel
theorem kW:C72 Af 2 ["_law_p", "_law_curve", "_law_a", "_law_b", "_law_c", "_law_d", "_law_e", "_law_f"] 71 246=Aa:=by decide+kernel
theorem kU:C72 Af 3 ["_law_p", "_law_curve", "_law_point_here", "_law_x", "_law_y", "_law_z", "_law_parts", "#7", "#8"] 72 247=Aa:=by decide+kernel
theorem kT:C72 Af 3 ["_law_p", "_law_points", "_law_curve", "_law_rows", "#4"] 73 248=Aa:=by decide+kernel
theorem U_7:C72 Af 1 ["_law_script", "_law_p", "_law_points", "_law_new", "_law_way", "_law_left", "_law_handed", "_law_found", "_law_three_here", "#9", "#10"] 74 249=Aa:=by decide+kernel
set_option maxHeartbeats 0 in
theorem all72{w:AE}{K:Fg}{h:AJ}{mg:Al->Ap Ai}{fa f0 f1 f2 f3 f4 f5 f6 f7 f8 f9 f10 f11 f12 f13 f14 f15 f16 f17 f18 f19 f20 f21 f22 f23 f24 f25 f26 f27 f28 f29 f30 f31 f32 f33 f34 f35 f36 f37 f38 f39 f40 f41 f42 f43 f44 f45 f46 f47 f48:Am}(X:K.In h)(G:h.Ns Bf mg)(hfa:mg "law" = Ab (.ref fa))(a0:FnI K f0 "rest" (tp72 10))(a1:FnI K f1 "turned_over" (tp72 11))(a2:FnI K f2 "one_form" (tp72 13))(a3:FnI K f3 "crossed" (tp72 14))(a4:FnI K f4 "join" (tp72 18))(a5:FnI K f5 "measure" (tp72 19))(a6:FnI K f6 "first_three" (tp72 20))(a7:FnI K f7 "ask_unlike" (tp72 21))(a8:FnI K f8 "ask_no_three" (tp72 22))(a9:FnI K f9 "triples" (tp72 23))(a10:FnI K f10 "columns" (tp72 25))(a11:FnI K f11 "sums_by" (tp72 26))(a12:FnI K f12 "table_of" (tp72 27))(a13:FnI K f13 "crossed_rows" (tp72 28))(a14:FnI K f14 "after" (tp72 29))(a15:FnI K f15 "table_back" (tp72 30))(a16:FnI K f16 "curve_of" (tp72 32))(a17:FnI K f17 "plain_curve" (tp72 33))(a18:FnI K f18 "value" (tp72 34))(a19:FnI K f19 "points_of" (tp72 35))(a20:FnI K f20 "twice_table" (tp72 36))(a21:FnI K f21 "mixed" (tp72 37))(a22:FnI K f22 "moved" (tp72 38))(a23:FnI K f23 "scaled" (tp72 40))(a24:FnI K f24 "frame_table" (tp72 41))(a25:FnI K f25 "frame_move" (tp72 42))(a26:FnI K f26 "first_four" (tp72 44))(a27:FnI K f27 "lines_multiplied" (tp72 45))(a28:FnI K f28 "five_curve" (tp72 46))(a29:FnI K f29 "curve_through" (tp72 47))(a30:FnI K f30 "curve_on" (tp72 52))(a31:FnI K f31 "look" (tp72 55))(a32:FnI K f32 "_law_mixed" (tp72 57))(a33:FnI K f33 "_law_prime" (tp72 58))(a34:FnI K f34 "_law_form" (tp72 59))(a35:FnI K f35 "_law_point" (tp72 60))(a36:FnI K f36 "_law_cross" (tp72 61))(a37:FnI K f37 "_law_sum" (tp72 62))(a38:FnI K f38 "_law_three" (tp72 63))(a39:FnI K f39 "_law_table" (tp72 65))(a40:FnI K f40 "_law_led" (tp72 66))(a41:FnI K f41 "_law_oval" (tp72 67))(a42:FnI K f42 "_law_order" (tp72 68))(a43:FnI K f43 "_law_rests" (tp72 69))(a44:FnI K f44 "_law_formed" (tp72 70))(a45:FnI K f45 "_law_twice" (tp72 71))(a46:FnI K f46 "_law_value" (tp72 72))(a47:FnI K f47 "_law_curve_stands" (tp72 73))(a48:FnI K f48 "law" (tp72 74))(z0:BY K Bf "all" = Ab Ae)(z1:BY K Bf "any" = Ab Ae)(z2:BY K Bf "bool" = Ab Ae)(z3:BY K Bf "enumerate" = Ab Ae)(z4:BY K Bf "int" = Ab Ae)(z5:BY K Bf "isinstance" = Ab Ae)(z6:BY K Bf "len" = Ab Ae)(z7:BY K Bf "list" = Ab Ae)(z8:BY K Bf "max" = Ab Ae)(z9:BY K Bf "min" = Ab Ae)(z10:BY K Bf "range" = Ab Ae)(z11:BY K Bf "reversed" = Ab Ae)(z12:BY K Bf "sum" = Ab Ae)(z13:BY K Bf "tuple" = Ab Ae)(z14:BY K Bf "zip" = Ab Ae):
    ∃ fd:Cs,(∀(s:As)(v:Ai),HB s fd ⟨[v],[]⟩ [("_law_script",v)])/\∀ base:AJ,K.In base->base.Ns Bf mg->FnOk l.prog w K mg base (CXR l.prog w) 9 fa fd ["_law_script"] (Mm K):=by
  obtain⟨_,F,e⟩:=a48;obtain⟨_,_,_,_,_,_,_,_,_,rfl,_,_⟩:=F.ex;cases hfa.symm.trans (Jp X G e);have T:Tab K mg (λ_=>Ae) VV RO VR VY V6 Q72 80:=⟨iB λ_ _=>rfl,all_cons (BF X G z0) (all_cons (BF X G z1) (all_cons (BF X G z2) (all_cons (BF X G z3) (all_cons (BF X G z4) (all_cons (BF X G z5) (all_cons (BF X G z6) (all_cons (BF X G z7) (all_cons (BF X G z8) (all_cons (BF X G z9) (all_cons (BF X G z10) (all_cons (BF X G z11) (all_cons (BF X G z12) (all_cons (BF X G z13) (all_cons (BF X G z14) (PY))))))))))))))),PY,all_cons (Ea 2 1 X G a0 rfl wF λ_ _ _ _ _ _ _ _=>rfl) (all_cons (Ea 2 9 X G a1 rfl wD λ_ _ _ _ _ _ _ _=>rfl) (all_cons (Ea 2 17 X G a2 rfl wB λ_ _ _ _ _ _ _ _=>rfl) (all_cons (Ea 2 23 X G a3 rfl wA λ_ _ _ _ _ _ _ _=>rfl) (all_cons (Gm 3 57 X G a4 rfl vZ λ_ _ _ _ _ _ _ _ _=>rfl) (all_cons (RJ 4 61 X G a5 rfl vY λ_ _ _ _ _ _ _ _ _ _=>rfl) (all_cons (Ea 2 65 X G a6 rfl vX λ_ _ _ _ _ _ _ _=>rfl) (all_cons (Ks 1 194 X G a7 rfl vW λ_ _ _ _ _ _ _=>rfl) (all_cons (Ea 2 109 X G a8 rfl vV λ_ _ _ _ _ _ _ _=>rfl) (all_cons (Ks 1 69 X G a9 rfl vU λ_ _ _ _ _ _ _=>rfl) (all_cons (Ks 1 104 X G a10 rfl nE λ_ _ _ _ _ _ _=>rfl) (all_cons (Gm 3 91 X G a11 rfl nC λ_ _ _ _ _ _ _ _ _=>rfl) (all_cons (Ea 2 78 X G a12 rfl nB λ_ _ _ _ _ _ _ _=>rfl) (all_cons (Ks 1 98 X G a13 rfl mZ λ_ _ _ _ _ _ _=>rfl) (all_cons (Gm 3 105 X G a14 rfl mY λ_ _ _ _ _ _ _ _ _=>rfl) (all_cons (Ea 2 106 X G a15 rfl mX λ_ _ _ _ _ _ _ _=>rfl) (all_cons (Ea 2 122 X G a16 rfl mW λ_ _ _ _ _ _ _ _=>rfl) (all_cons (Ks 1 123 X G a17 rfl mV λ_ _ _ _ _ _ _=>rfl) (all_cons (Gm 3 126 X G a18 rfl oW λ_ _ _ _ _ _ _ _ _=>rfl) (all_cons (Ea 2 128 X G a19 rfl oV λ_ _ _ _ _ _ _ _=>rfl) (all_cons (Ea 2 131 X G a20 rfl oU λ_ _ _ _ _ _ _ _=>rfl) (all_cons (RJ 4 132 X G a21 rfl oS λ_ _ _ _ _ _ _ _ _ _=>rfl) (all_cons (Gm 3 133 X G a22 rfl oR λ_ _ _ _ _ _ _ _ _=>rfl) (all_cons (Ea 2 110 X G a23 rfl oQ λ_ _ _ _ _ _ _ _=>rfl) (all_cons (Ea 2 111 X G a24 rfl oP λ_ _ _ _ _ _ _ _=>rfl) (all_cons (Gm 3 112 X G a25 rfl oO λ_ _ _ _ _ _ _ _ _=>rfl) (all_cons (Ea 2 195 X G a26 rfl oN λ_ _ _ _ _ _ _ _=>rfl) (all_cons (Ea 2 196 X G a27 rfl oM λ_ _ _ _ _ _ _ _=>rfl) (all_cons (Ea 2 197 X G a28 rfl oK λ_ _ _ _ _ _ _ _=>rfl) (all_cons (Ea 2 198 X G a29 rfl oJ λ_ _ _ _ _ _ _ _=>rfl) (all_cons (Ea 2 224 X G a30 rfl oH λ_ _ _ _ _ _ _ _=>rfl) (all_cons (Ea 2 227 X G a31 rfl oG λ_ _ _ _ _ _ _ _=>rfl) (all_cons (Ea 2 228 X G a32 rfl oF λ_ _ _ _ _ _ _ _=>rfl) (all_cons (Ks 1 229 X G a33 rfl oD λ_ _ _ _ _ _ _=>rfl) (all_cons (Ea 2 288 X G a34 rfl nZ λ_ _ _ _ _ _ _ _=>rfl) (all_cons (Ea 2 231 X G a35 rfl nY λ_ _ _ _ _ _ _ _=>rfl) (all_cons (Gm 3 232 X G a36 rfl nX λ_ _ _ _ _ _ _ _ _=>rfl) (all_cons (Gm 3 233 X G a37 rfl nW λ_ _ _ _ _ _ _ _ _=>rfl) (all_cons (Ea 2 234 X G a38 rfl nV λ_ _ _ _ _ _ _ _=>rfl) (all_cons (Gm 3 250 X G a39 rfl nU λ_ _ _ _ _ _ _ _ _=>rfl) (all_cons (Gm 3 289 X G a40 rfl nS λ_ _ _ _ _ _ _ _ _=>rfl) (all_cons (Ea 2 290 X G a41 rfl nR λ_ _ _ _ _ _ _ _=>rfl) (all_cons (Gm 3 251 X G a42 rfl nQ λ_ _ _ _ _ _ _ _ _=>rfl) (all_cons (Gm 3 236 X G a43 rfl nP λ_ _ _ _ _ _ _ _ _=>rfl) (all_cons (Gm 3 237 X G a44 rfl kX λ_ _ _ _ _ _ _ _ _=>rfl) (all_cons (Ea 2 246 X G a45 rfl kW λ_ _ _ _ _ _ _ _=>rfl) (all_cons (Gm 3 247 X G a46 rfl kU λ_ _ _ _ _ _ _ _ _=>rfl) (all_cons (Gm 3 248 X G a47 rfl kT λ_ _ _ _ _ _ _ _ _=>rfl) (all_cons (Ks 1 249 X G ⟨_,F,e⟩ rfl U_7 λ_ _ _ _ _ _ _=>rfl) (PY)))))))))))))))))))))))))))))))))))))))))))))))))⟩
  exact⟨_,λs v=>.of_eq rfl,λbase _ _=>mR (Ve T (Qj T 8) (V7 F) rfl U_7) zS⟩
theorem walk72{q:AT}{loose:Ac Al}{XP:(Al->Ap Ai)->AJ->Prop}{YP:AE->AJ->Prop}{d:DefRec}{K:LF->Fg}(hn:l.most=Ab 63)(hdf:d.params.defaults=[])(hY:∀(w:AE)(h:AJ),YP w h->(K w.params).In h)(F:∀(w:AE)(mg:Al->Ap Ai)(fa:Am)(h:AJ),(K w.params).In h->h.Ns Bf mg->mg d.name=Ab (.ref fa) ->
   ∃ fd:Cs,(∀(s:As)(u:Ai),HB s fd ⟨[u],[]⟩ [("_law_script",u)])/\∀ base:AJ,(K w.params).In base->base.Ns Bf mg->FnOk l.prog w (K w.params) mg base (CXR l.prog w) 9 fa fd ["_law_script"] (Mm (K w.params))):Ym q loose XP YP l.row.toRowW d [] (λf vs=>Ky f vs):=
 L2.walk_of (n:=63) (k:=9) (x := "_law_script") (CX:=λw=>CXR l.prog w) (sp:=λw=>Mm (K w.params)) hn (by decide) hdf ⟨rfl,by decide,by decide,rfl⟩ hY F (λ_ H a ns hl _ hS=>⟨a,ns,rfl,hl,hS,λ_ _ z=>z⟩) λ_ _ _ _ _ z=>vP z
end OvC
open PySem PySem.W PyProof.Rows
set_option hygiene false
set_option maxRecDepth 100000 in
set_option maxHeartbeats 0 in
theorem PySem.Challenge.cw_ovalfield_k72_whole_curve_of_a_set_holds : PySem.Challenge.rw_ovalfield_k72_whole_curve_of_a_set.Holds := by
 refine OvC.hold72.go OvC.reck72_1 OvC.reck72_2 OvC.reck72_3 OvC.reck72_4 OvC.reck72_5 OvC.reck72_6 OvC.reck72_7 OvC.reck72_8 OvC.reck72_9 OvC.reck72_10 OvC.reck72_11 ?_;intro said;refine OvC.walk72 (l:=PySem.Challenge.rw_ovalfield_k72_whole_curve_of_a_set) rfl rfl (λw h Y_=>Yo Y_) ?F
 case F=>
  intro w mg fa h KX G hmg
  refine' OvC.all72 KX G hmg ?a0 ?a1 ?a2 ?a3 ?a4 ?a5 ?a6 ?a7 ?a8 ?a9 ?a10 ?a11 ?a12 ?a13 ?a14 ?a15 ?a16 ?a17 ?a18 ?a19 ?a20 ?a21 ?a22 ?a23 ?a24 ?a25 ?a26 ?a27 ?a28 ?a29 ?a30 ?a31 ?a32 ?a33 ?a34 ?a35 ?a36 ?a37 ?a38 ?a39 ?a40 ?a41 ?a42 ?a43 ?a44 ?a45 ?a46 ?a47 ?a48 ?z0 ?z1 ?z2 ?z3 ?z4 ?z5 ?z6 ?z7 ?z8 ?z9 ?z10 ?z11 ?z12 ?z13 ?z14
  case a0|a1|a2|a3|a4|a5|a6|a7|a8|a9|a10|a11|a12|a13|a14|a15|a16|a17|a18|a19|a20|a21|a22|a23|a24|a25|a26|a27|a28|a29|a30|a31|a32|a33|a34|a35|a36|a37|a38|a39|a40|a41|a42|a43|a44|a45|a46|a47|a48=>(refine' Ov.fni ?a ?l ?c ?k;(case a=>k_is);(case l=>k_is);(case c=>k_is);(case k=>k_is))
  case z0|z1|z2|z3|z4|z5|z6|z7|z8|z9|z10|z11|z12|z13|z14=>k_is
import PyProof.Rows.All
import Wide.All
import OpenK.AllK
import Wide.FinOn
import PyProof.EqAt
import KE.KSortTup
import PyProof.EqKinds
import PyProof.TupleCall
import Lean
import KE.KRevIter
import PyProof.ListRange
import PyProof.CollectIter
import PySem.Challenge.RW_ovalfield_k93_papers_that_stand
set_option autoImplicit true
set_option Elab.async false
set_option linter.all false
set_option maxRecDepth 100000
set_option maxHeartbeats 4000000
open Bool renaming true→Aa,false→Ae,and_eq_true→Ap,false_ne_true→AX,not_eq_true'→Cz,eq_iff_iff→Dj,or_eq_true→DH,or_false→FU,false_eq_true→Gd,and_false→Hu,and_true→ZJ
open Option renaming some→Ab,none→Af,bind_eq_some_iff→Ec,map_some→Ff,map→Hb,getD_none→aT,getD_some→aU
open _root_ renaming List→Ac,Int→Ad,Nat→Ag,Bool→Al,Option→As,if_pos→AC,if_neg→AH,Array→AO,decide_eq_true_eq→AW,decide_eq_true→Bo,decide_eq_false→Bw,of_decide_eq_true→By,False→BV,or_false→Ca,beq_iff_eq→Cb,dif_neg→C0,String→Du,beq_eq_false_iff_ne→DJ,not_or→DR,decide_eq_false_iff_not→E8,beq_self_eq_true→GX,if_false→HK,Decidable→HP,True→Jj,if_true→JQ,Unit→JY,and_true→LS,bne_iff_ne→L6,not_false_eq_true→Waa,of_decide_eq_false→Wab
open PySem renaming wpAny_bind→Ah,Value→Aj,Addr→Am,Str→An,Expr→Aq,Shared→At,wpAny_pure→Az,wpAny→AD,World→AM,starEach→AN,Heap→AS,Program→A6,Pos→Bf,Around→Bm,mainGlobals→Bt,wpAny_field→Bv,Stmt→BQ,wpAny_seqItems→Cf,wpAny_setField_rec→Cs,wpAny_callSpecial?_slot→Cy,cLine→CF,wpAny_holding→CG,rawInt→CJ,sizeLine_eq→CN,Scope→CP,binaryOp→CQ,FuncData→CY,wpAny_call_entry→CZ,wpAny_mono→C3,wpAny_newObj_type→C4,backTo→C8,compareOp→Da,wpAny_truthy_bool→Db,Env→Dc,mem_of_lookup→Dd,Obj→Dr,bootBuiltins→Dt,foldedSetIterable→DF,assignEach→DS,cellsFrom→DZ,CmpOp→D0,codeAny_builtin→D6,wpAny_onRaise→D9,Tok→Ea,pyNext→Ek,swapsWith→EL,NameKind→EV,wpAny_pyIter_tuple→Fh,wpAny_pyIter_list→Fv,IsPair→FB,builtinLookup_eq_fast→FD,intKind→FE,GenState→FN,IsTupleKey→FO,plainId_quiet→FW,wpAny_attempt→FX,Keyword→FY,codeAny→F0,sliceBounds→F1,wpAny_letGo→F2,wpAny_passesOwn→Ga,wpAny_specialOf→Gb,wpAny_updateSeq→Gc,wpAny_setField→Gr,swappedStores→GN,Operator→GP,IsZip→He,codeAny_mono→Hg,letOwnedTupleGo→Hh,typeLookup_type→Hi,wpAny_rule→Hj,wpAny_updateSeq_pair→Hk,wpAny_newTuple→Hy,pushCells→HR,wpAny_Call_Name_kw→HS,Sem→HU,behindInMarks→HV,swapsWithSole→HW,wpAny_setState_of→Ip,typeLookup→Ir,BindsTo→Iu,callerA→Iw,IsPart→IH,Paired→II,wpAny_isInstance→IJ,PassesOwn→Jf,pushCells_keeps→Jh,updateSeq→Ji,OsState→JJ,isSubtype_type→JM,isTrue→JN,newFunctionEnv→JO,notedBy→JP,Drawn→JT,bindC→JV,bindL→JW,builtinsNs→JX,Comprehension→Kj,attributeBase→Km,wpAny_standAt→Kn,Result→Kq,callType_new→Kx,concat_meets→Ky,lastMarks→Kz,noteFrame→KA,preSum→KB,pyIter→KC,seqIndex_neg→KD,Model→K9,UnaryOp→La,getItem→Lb,standAt→Lf,hashByValue→Lk,keywordEach→Ll,seqIndex_of→Lm,call→LZ,sysModules→L4,wpAny_Name→L5,IntMulOk→Nj,Params→Nk,SetTable→Nl,backToKw→Nn,bindArgs→No,callType_codes→eU,call_sum_walkG→eV,checkBuiltinCall→eW,codeAny_of_tree→eX,firstArgMember→eY,isSubtype_stop→eZ,noFill_tuple_add→fC,recursionLimit→fD,slot_list_getitem→fF,wpAny_assign_Name→fG,wpAny_comprehension_free→fH,wpAny_eqBool_int→fJ,wpAny_execs_nil→fK,wpAny_pyIter_enum→fL,wpAny_pyIter_zip→fM,wpAny_runValue→fN
open PySem.Str renaming ofString→Ao
open PySem.Heap renaming get?_push_of_some→Ar,get?_push_size→AB,lt_size→AE,size_push→Bg,get?_update_other→Ch,get?_update_self→Ck,SameBut→FA,get?_push_ne→Gz,get?_none_of_le→Hd,size_update→IG,ExtBut→dH,get?_push_cases→dJ
open List renaming mem_cons_of_mem→Av,mem_cons→Aw,mem_cons_self→Ax,length_map→AG,size_toArray→AJ,range→AK,mem_singleton→AQ,getElem?_eq_getElem→AR,not_mem_nil→A2,getD_eq_getElem?_getD→A5,mem_map→A7,mem_range→A9,getElem?_eq_some_iff→Br,map_cons→BA,length_append→BE,mem_append_right→BH,mem_filter→BJ,nodup_cons→BO,toArray→BP,length_cons→BS,length_set→BW,length_erase_of_mem→B9,lookup_cons→Cq,exists_of_findSome?_eq_some→CH,getElem_mem→CI,map_congr_left→CM,mem_append→C5,findSome?_eq_none_iff→C7,map_map→Do,getElem?_set_self→DL,all_eq_true→DT,map_append→D4,mem_of_getElem?→D5,getElem?_map→D7,getElem_of_mem→Ed,forIn_nil→Ee,take_of_length_le→Eg,append_nil→Eo,forIn_cons→Ep,length_singleton→Er,isEmpty_eq_false_iff→ED,mem_append_left→EE,pairwise_iff_getElem→EF,any_eq_true→EO,filter_cons→EQ,length_take→ER,length_reverse→EY,getElem?_cons_succ→E0,getElem?_cons_zero→E4,all_cons→E9,pairwise_cons→Fb,range_succ_eq_map→Fi,length_range→Fs,nodup_append→Ft,getElem?_toArray→Fw,length_dropLast→FK,mem_reverse→FM,getElem?_append_left→F7,getElem?_set_self'→Gs,filter_congr→Gw,reverse_cons→Gx,take_sublist→Gy,zipIdx_cons→GO,dropLast_sublist→GY,getElem?_eq_none→GZ,take_append_drop→G0,getElem?_set_ne→G6,map_nil→G7,mem_erase_of_ne→G8,zipIdx_nil→G9,filterMap_cons→Hr,findSome?_cons→Hs,nodup_nil→Hv,replicate→Hw,zip_cons_cons→HQ,ext_getElem?→Ii,getElem?_set→Ik,reverse_perm→Il,getElem_inj→IB,isEmpty_iff→IC,map→ID,of_mem_zip→Jd,drop_zero→JI,any_cons→Kf,map_take→Kg,range'→Lh,all_map→ZS,any_eq_false→ZT,any_map→ZU,contains_eq_mem→ZV,drop_eq_getElem_cons→ZW,drop_eq_nil_of_le→ZX,exists_mem_of_length_pos→ZY,ext_getElem→ZZ,filter_eq_self→Z_0,filter_filter→Z_1,getElem?_append_right→Z_2,getElem?_of_mem→Z_4,getElem?_replicate→Z_5,length_drop→Z_6,length_pos_of_mem→Z_7,length_replicate→Z_8,lookup→Z_9,lookup_cons_self→aA,map_id→aC,mem_map_of_mem→aD,mem_of_mem_take→aE,pairwise_map→aF,pairwise_singleton→aG,range_succ→aH,set_set→aI,take_left'→aJ
open Nat renaming lt_of_lt_of_le→AF,le_refl→AT,ne_of_lt→AZ,lt_irrefl→BK,le_trans→BZ,lt_of_le_of_lt→Ce,ne_of_gt→Cm,lt_succ_of_lt→CA,zero_le→CC,le_add_right→DU,le_of_lt→Ei,le_of_ble_eq_true→Et,le_of_lt_succ→EA,pow_le_pow_right→EG,ble→EM,lt_succ_self→ES,lt_of_le_of_ne→Fd,not_lt→Fe,zero_add→Fx,not_lt_zero→F8,lt_or_gt_of_ne→Ge,lt_trans→Gf,ble_eq_true_of_le→G1,le_of_eq→Ha,add_le_add_left→Ht,le_succ→HM,sub_zero→IE,min_eq_left→Je,one_pos→Li,ble_eq→LU,sub_le→LV,sub_lt→LW,add_sub_cancel'→aK,le_antisymm→aL,le_of_sub_eq_zero→aM,le_pred_of_lt→aN,lt_of_not_le→aO,min_eq_right→aP,min_self→aQ,pow_succ→aR,sub_lt_sub_right→aS
open Int renaming emod_eq_of_lt→AI,emod_lt_of_pos→AV,emod_emod_of_dvd→AY,emod_nonneg→A3,mul_emod→Be,zero_emod→Bp,dvd_refl→BD,mul_comm→Cd,mul_zero→CT,one_mul→CW,zero_add→Dm,mul_one→DK,zero_mul→EN,toNat_natCast→Fq,mul_assoc→GK,sub_zero→G5,le_refl→HL,add_emod→IA,mul_nonneg→JG,mul_pos→Lg,dvd_neg→ZK,dvd_of_emod_eq_zero→ZL,emod_eq_zero_of_dvd→ZM,mul_le_mul→ZN,ne_of_gt→ZO,sub_emod→ZP,toNat_of_nonneg→ZQ,zero_sub→ZR
open Ne renaming symm→A8
open PySem.Builtin.SmallTypes renaming nextOf→Ba,ownedTupleIsFree→Bb,ownedTupleHandOut→Dp
open PySem.W.Fast renaming te10274390034422433532→Bh,te14082659384304107361→Bi,te14289696077712309145→Bj,te14364793385576792824→Bk,te1435165496053646825→Bs
open Prod renaming ext→Bq
open PySem.Obj renaming mapSeq→Bx,data_mapFields→DX,isFreed_of_fields→FC,mapFields→GL,cls_mapFields→dL
open PySem.W renaming mg_none_of→BU,nsIn→Cn,fencedOpening→Dz,emptyDict→DE,keepIn→DY,fnOf→Ej,instObj→Eu,openEnds→Fj,topFrom→FZ,codeIn→Gp,findIn→Gq,OpenLaw→GJ,kasC_bind→G3,methodObj→Io,lookIn→JL,kas_item→JU,mg_of→Kl,kasC_pure→Ku,kas_count→Kv,kas_st→Kw,kas_rev→L7,kasC_cons→Ng,kasC_get→Nm,WalkO→eO,cellsFrom_some→eP,kIn_of→eQ,kitOne→eR,plainGet→eS,subIn→eT
open Option.some renaming inj→BX,injEq→CB
open Classical renaming byContradiction→B5,choose_spec→DW,choose→Iz
open PyProof.Rows renaming callWith_type1→B7,seqObj→CO,envOfC→FV,AllBare→Go,boot_tuple→Gv,boot_list→GH,IntsAre→G2,failedOf→Hx,Call_→Iq,arrOf→JS,IsTup→K8,pendingOf→Nc,sortRuns'→Nd,SortSt→Nh,boot_zip→aW,callWith_builtin1→aX,slicePart_none→aY,slot_tuple_getitem→aZ,subscriptTail_builtinR→bA
open List.Nodup renaming mem_erase_iff→B8
open Array renaming getElem?_eq_getElem→Cp,getElem?_eq_some_iff→CS,length_toList→C1,getD_eq_getD_getElem?→Eh,getElem?_toList→En,toArray_toList→G4,getElem?_push→Hq,forIn_toList→HN,getD→ZE,getElem_mem→ZF,size_push→ZG,toList→ZH,toList_inj→ZI
open PySem.Value renaming none→Cv,type→C2,ref→Ds,int→Jg,bool→eH,str→eI
open PySem.NameKind renaming cell→Cw,free→Ew
open PySem.F renaming slot_zip_next→CU,slot_tuple_iterator_next→Ev,args_zip_next_1→EB,entry_zip_next→EU,plain_extend_loop→EZ,args_object_init_2→cU,args_tuple_add_2→cV,args_tuple_iterator_next_1→cW,called_zip→cX,entry_extend_loop→cY,entry_tuple_add→cZ,entry_tuple_iterator_next→dA,entry_zip_new→dB,plainAttrs_list→dC,plain_list_iadd→dD,plain_tuple_new→dE,slot_tuple_add→dF,slot_zip_iter→dG
open PySem.Builtin.Tuple renaming tupleExact→Dq
open PySem.Around renaming under_plainId→DA
open PySem.Builtin.List renaming listExtendWith→DI,listSameRef→ET,listTooLong→Gg,listItems→bD,listLengthHint→bE,listUpdate→bF
open PySem.SetTable renaming insertAt→D8,bits→GM,below→JK,fits→Kk,has→Kt,runEnd→dR,slot→dS
open False renaming elim→EC
open PySem.Builtin.Slice renaming slicePlaces→EH,sliceAdjust→F9,sliceApplied→bG
open ForInStep renaming yield→Fa
open PySem.Calls renaming spliced_nil→Fu,spliced_cons→Gh,Name_function_global→bH
open PySem.Heap.SameBut renaming update→F3
open PyProof.Rows.F renaming plain_set_update_loop→Gu,entry_set_update_loop→aV
open PySem.Shared renaming heap→GI,TypeIs→dU
open PyProof.Rows.SortSt renaming mk'→Hc
open PySem.SeqAt renaming EqAt→Hf,RcNeAt→Ks,RcAt→LX
open Function renaming comp_def→Ih
open PySem.SetTable.probe renaming go→Im
open Sum renaming inl→Ix,inr→Iy
open Nat.succ renaming inj→IF
open List.cons renaming injEq→Jc
open List.Perm renaming cons→JH
open Eq renaming trans→JR,symm→Oj
open Prod.mk renaming injEq→Kh
open PyProof.Rows.IsTup renaming new→Ko
open PySem.Walks renaming tuple→Lj,list→LY
open NeZero renaming ne→Nb
open PySem.Data renaming cell→Nf,seq→Ni
open PySem.Builtin.Int renaming intBits→bB
open PySem.EntryCells renaming newEntry→bJ
open PySem.Expr renaming Attribute→bK,BinOp→bO,BoolOp→bQ,Call→bS,Compare→bU,Constant→bW,List→cA,ListComp→cE,Name→cI,Slice→cK,Subscript→cO,Tuple→cQ,UnaryOp→cS
open PySem.Expr.Attribute renaming elim→bN
open PySem.Expr.BinOp renaming elim→bP
open PySem.Expr.BoolOp renaming elim→bR
open PySem.Expr.Call renaming elim→bT
open PySem.Expr.Compare renaming elim→bV
open PySem.Expr.Constant renaming elim→bX
open PySem.Expr.List renaming elim→cB
open PySem.Expr.ListComp renaming elim→cH
open PySem.Expr.Name renaming elim→cJ
open PySem.Expr.Slice renaming elim→cN
open PySem.Expr.Subscript renaming elim→cP
open PySem.Expr.Tuple renaming elim→cR
open PySem.Expr.UnaryOp renaming elim→cT
open PySem.Heap.IsRevIter renaming typeIs→dI
open PySem.Paired renaming length→dN
open PySem.SeqAt.EqAt renaming of_refs→dP,same→dQ
open PySem.Stmt renaming Assign→dW,Expr→dY,Return→eF
open PySem.Stmt.Assign renaming elim→dX
open PySem.Stmt.Expr renaming elim→dZ
open PySem.Stmt.For renaming elim→eA
open PySem.Stmt.If renaming elim→eE
open PySem.Stmt.Return renaming elim→eG
open PySem.W.WData renaming int→eJ
open PySem.W.WShape renaming has→eK
abbrev Fg:=PySem.W.Frag
abbrev Pn:=Ac (PySem.Addr×PySem.Obj)
abbrev Vq:=PySem.Value->PySem.Shared->Prop
set_option genSizeOfSpec false
section
open PySem PySem.W PyProof.Rows
namespace OvC
set_option genInjectivity false in
structure Eleven (P:Prop) where
 (α1 α2 α3 α4 α5 α6 α7 α8 α9 α10 α11:Type)
 (l1 r1:AM->α1)
 (l2 r2:AM->α2)
 (l3 r3:AM->α3)
 (l4 r4:AM->α4)
 (l5 r5:AM->α5)
 (l6 r6:AM->α6)
 (l7 r7:AM->α7)
 (l8 r8:AM->α8)
 (l9 r9:AM->α9)
 (l10 r10:AM->α10)
 (l11 r11:AM->α11)
 X:Prop
 go:(∀ w,l1 w=r1 w)->(∀ w,l2 w=r2 w)->(∀ w,l3 w=r3 w)->(∀ w,l4 w=r4 w)->(∀ w,l5 w=r5 w)->(∀ w,l6 w=r6 w)->(∀ w,l7 w=r7 w)->(∀ w,l8 w=r8 w)->(∀ w,l9 w=r9 w)->(∀ w,l10 w=r10 w)->(∀ w,l11 w=r11 w)->X->P
theorem map_pair{Y α β:Type}{A:Y->α}{B:Y->β}{r:As Y}{a:α}{b:β}(h1:Hb A r=Ab a)(h2:Hb B r=Ab b):Hb (λs=>(A s,B s)) r=Ab (a,b):=by
 cases r with
 |none=>cases h1
 |some s=>cases h1;cases h2;rfl
theorem map_take{Y α:Type}{B:Y->Ac α}{r:As Y}{v:Ac α}(n:Ag)(h1:Hb (λs=>(B s).take n) r=Ab (v.take n))(h2:Hb (λs=>(B s).drop n) r=Ab (v.drop n)):Hb B r=Ab v:=by
 cases r with
 |none=>cases h1
 |some s=>
  have e1:(B s).take n=v.take n:=by injection h1
  have e2:(B s).drop n=v.drop n:=by injection h2
  show Ab (B s)=Ab v;rw[<-G0 n (B s),<-G0 n v,e1,e2]
end OvC
namespace OvC
noncomputable def tp93(i:Ag):BQ:=PySem.Challenge.pw_ovalfield_k93_papers_that_stand.main.body.getD i (.Pass ⟨0,0,0,0⟩)
end OvC
noncomputable def OvC.view93:PySem.Program:={ PySem.Challenge.pw_ovalfield_k93_papers_that_stand with main:={PySem.Challenge.pw_ovalfield_k93_papers_that_stand.main with body:=[OvC.tp93 1,OvC.tp93 2,OvC.tp93 3,OvC.tp93 4,OvC.tp93 5,OvC.tp93 6,OvC.tp93 7,OvC.tp93 8,OvC.tp93 10,OvC.tp93 11,OvC.tp93 13,OvC.tp93 14,OvC.tp93 15,OvC.tp93 17,OvC.tp93 18,OvC.tp93 19,OvC.tp93 20,OvC.tp93 21,OvC.tp93 22,OvC.tp93 23,OvC.tp93 25,OvC.tp93 26,OvC.tp93 27,OvC.tp93 28,OvC.tp93 29,OvC.tp93 30,OvC.tp93 32,OvC.tp93 33,OvC.tp93 34,OvC.tp93 35,OvC.tp93 36,OvC.tp93 37,OvC.tp93 38,OvC.tp93 39,OvC.tp93 41,OvC.tp93 42,OvC.tp93 43,OvC.tp93 44,OvC.tp93 45,OvC.tp93 46,OvC.tp93 47,OvC.tp93 48,OvC.tp93 49,OvC.tp93 50,OvC.tp93 52,OvC.tp93 53,OvC.tp93 54,OvC.tp93 56,OvC.tp93 57,OvC.tp93 58,OvC.tp93 59,OvC.tp93 61,OvC.tp93 62,OvC.tp93 63,OvC.tp93 64,OvC.tp93 65,OvC.tp93 66,OvC.tp93 67,OvC.tp93 69,OvC.tp93 70,OvC.tp93 71,OvC.tp93 72,OvC.tp93 73,OvC.tp93 74,OvC.tp93 75,OvC.tp93 76,OvC.tp93 77,OvC.tp93 78,OvC.tp93 79,OvC.tp93 80,OvC.tp93 81,OvC.tp93 82,OvC.tp93 83,OvC.tp93 84,OvC.tp93 85,OvC.tp93 86,OvC.tp93 87,OvC.tp93 88,OvC.tp93 89,OvC.tp93 90,OvC.tp93 91,OvC.tp93 92]} }
set_option hygiene false
local macro_rules | `(tactic| o_head $H)=>`(tactic| refine holds_open (q:=OvC.view93) (loose:=[]) (Xt:=fun s=>xlAt OvC.view93 [] s&&recOk (RowW.records (OpenRow.toRowW (PySem.Challenge.rw_ovalfield_k93_papers_that_stand.row))) s) (XP:=XL OvC.view93 []) (Yf:=Hook.obs $H) (Ya:=Hook.val $H) (YP:=Hook.says $H) (N:=8158) ?hl (Hook.of $H) (Hook.keeps $H) (fun s e=>xl_of s (Bool.and_eq_true_iff.mp e).1) XL.keeps (by rfl) (by rfl) (by rfl) (fun s e=>recFacts_of (Bool.and_eq_true_iff.mp e).2) (by rfl) (by first|assumption|decide +kernel) (by decide +kernel) ⟨rfl,rfl,rfl,rfl,rfl,by decide +kernel⟩ ?hw ?hc)
set_option maxRecDepth 100000 in
set_option maxHeartbeats 0 in
noncomputable def OvC.hold93:OvC.Eleven PySem.Challenge.rw_ovalfield_k93_papers_that_stand.Holds:=by
 refine' ⟨_,_,_,_,_,_,_,_,_,_,_,_,_,_,_,_,_,_,_,_,_,_,_,_,_,_,_,_,_,_,_,_,_,_,λg1 g2 g3 g4 g5 g6 g7 g8 g9 g10 g11 x=>_⟩
 rotate_right
 w_on;refine holds_law (by decide+kernel) λĒ=>?_;k_head
 (case hl=>intro w;refine OvC.map_pair ?p1 (OvC.map_take 100 ?p2 ?p3);(case p1=>rw[PySem.W.Fast.te4187177175401517315];unfold PySem.W.Fast.tw4187177175401517315 openGood;refine OvC.map_pair ?q1 (OvC.map_pair ?q2 (OvC.map_pair ?q3 (OvC.map_pair ?q4 (OvC.map_pair ?q5 (OvC.map_pair ?q6 (OvC.map_pair ?q7 (OvC.map_pair ?q8 ?q9)))))));(case q1=>unfold Fj Dz FZ;rw[Bh,Bk,Bs,Bj,Bi];exact g1 w);(case q2=>unfold Fj Dz FZ;rw[Bh,Bk,Bs,Bj,Bi];exact g2 w);(case q3=>unfold Fj Dz FZ;rw[Bh,Bk,Bs,Bj,Bi];exact g3 w);(case q4=>unfold Fj Dz FZ;rw[Bh,Bk,Bs,Bj,Bi];exact g4 w);(case q5=>unfold Fj Dz FZ;rw[Bh,Bk,Bs,Bj,Bi];exact g5 w);(case q6=>unfold Fj Dz FZ;rw[Bh,Bk,Bs,Bj,Bi];exact g6 w);(case q7=>unfold Fj Dz FZ;rw[Bh,Bk,Bs,Bj,Bi];exact g7 w);(case q8=>unfold Fj Dz FZ;rw[Bh,Bk,Bs,Bj,Bi];exact g8 w);(case q9=>unfold Fj Dz FZ;rw[Bh,Bk,Bs,Bj,Bi];exact g9 w);skip);(case p2=>unfold Fj Dz FZ;rw[Bh,Bk,Bs,Bj,Bi];exact g10 w);(case p3=>unfold Fj Dz FZ;rw[Bh,Bk,Bs,Bj,Bi];exact g11 w))
 (case hw=>w_witness2)
 k_fill
 revert Ē
 exact x
theorem OvC.reck93_1(w:AM):OvC.hold93.l1 w=OvC.hold93.r1 w:=by kernel_rfl
theorem OvC.reck93_2(w:AM):OvC.hold93.l2 w=OvC.hold93.r2 w:=by kernel_rfl
theorem OvC.reck93_3(w:AM):OvC.hold93.l3 w=OvC.hold93.r3 w:=by kernel_rfl
theorem OvC.reck93_4(w:AM):OvC.hold93.l4 w=OvC.hold93.r4 w:=by kernel_rfl
theorem OvC.reck93_5(w:AM):OvC.hold93.l5 w=OvC.hold93.r5 w:=by kernel_rfl
theorem OvC.reck93_6(w:AM):OvC.hold93.l6 w=OvC.hold93.r6 w:=by kernel_rfl
theorem OvC.reck93_7(w:AM):OvC.hold93.l7 w=OvC.hold93.r7 w:=by kernel_rfl
theorem OvC.reck93_8(w:AM):OvC.hold93.l8 w=OvC.hold93.r8 w:=by kernel_rfl
theorem OvC.reck93_9(w:AM):OvC.hold93.l9 w=OvC.hold93.r9 w:=by kernel_rfl
theorem OvC.reck93_10(w:AM):OvC.hold93.l10 w=OvC.hold93.r10 w:=by kernel_rfl
theorem OvC.reck93_11(w:AM):OvC.hold93.l11 w=OvC.hold93.r11 w:=by kernel_rfl
end
namespace L2
open PySem PySem.Spec PyProof.Rows
variable{a b:Am}{i k n:Ag}{ch:Ac Am}{x:An}{M:K9}{u:Aj}{Q:JY->At->Prop}{e tg:Aq}{s:At}{pos p:Bf}{pI:Pn}{es:Ac Aq}{g:Ad->Ad->Ad}{op:D0}
abbrev Key:=Sum Ad An
noncomputable def Zs:Key->Aj->Al
 |.inl k,v=>Value.isInt k v
 |.inr x,v=>Value.isStrOf x v
noncomputable def mP(w:AM):Key->Ad
 |.inl k=>hashInt k
 |.inr x=>hashStr w x
theorem JZ:∀{k:Key}{v:Aj},Zs k v=Aa->(∃ i t,k=Ix i/\v=Jg i t)\/(∃ x t,k=Iy x/\v=eI x t)
 |.inl i,v,h=>by
  obtain⟨t,e⟩:=Value.isInt_shape (k:=i) (v:=v) h;exact .inl ⟨i,t,rfl,e⟩
 |.inr x,v,h=>by
  obtain⟨t,e⟩:=Value.isStrOf_shape (x:=x) (v:=v) h;exact .inr ⟨x,t,rfl,e⟩
theorem yx(a b:Ad):decide ((Ix a:Key)=Ix b)=(a==b):=by
 by_cases e:a=b
 .subst e;simp
 .have h:¬ (Ix a:Key)=Ix b:=λq=>e (Sum.inl.inj q)
  rw[Bw h];exact(DJ.mpr e).symm
theorem vi(a b:An):decide ((Iy a:Key)=Iy b)=decide (a=b):=by
 by_cases e:a=b
 .subst e;simp
 .have h:¬ (Iy a:Key)=Iy b:=λq=>e (Sum.inr.inj q)
  rw[Bw h,Bw e]
theorem vk(a:Ad)(b:An):decide ((Ix a:Key)=Iy b)=Ae:=Bw (λq=>nomatch q)
theorem vj(a:An)(b:Ad):decide ((Iy a:Key)=Ix b)=Ae:=Bw (λq=>nomatch q)
noncomputable def Te(prog:A6)(w:AM):PySem.KeyKind prog w Key where
 is:=Zs
 hash:=mP w
 inj:=λv a b ha hb=>by
  rcases JZ ha with ⟨i,t,rfl,rfl⟩|⟨x,t,rfl,rfl⟩
  .rcases JZ hb with ⟨j,u,rfl,e⟩|⟨y,u,rfl,e⟩
   .injection e with e1 _;rw[e1]
   .exact nomatch e
  .rcases JZ hb with ⟨j,u,rfl,e⟩|⟨y,u,rfl,e⟩
   .exact nomatch e
   .injection e with e1 _;rw[e1]
 byValue:=λk v h=>by
  rcases JZ h with ⟨i,t,rfl,rfl⟩|⟨x,t,rfl,rfl⟩<;>rfl
 pyHash:=λhv h=>by
  rcases JZ hv with ⟨i,t,rfl,rfl⟩|⟨x,t,rfl,rfl⟩
  .exact wpAny_pyHash_int h
  .exact wpAny_pyHash_str h
 eqBool:=λhu hv h=>by
  rcases JZ hu with ⟨i,t,rfl,rfl⟩|⟨x,t,rfl,rfl⟩
  .rcases JZ hv with ⟨j,u,rfl,rfl⟩|⟨y,u,rfl,rfl⟩
   .rw[yx]at h;exact fJ h
   .rw[vk]at h;exact SeqAt.EqAt.int_str i t y u _ _ _ _ h
  .rcases JZ hv with ⟨j,u,rfl,rfl⟩|⟨y,u,rfl,rfl⟩
   .rw[vj]at h;exact SeqAt.EqAt.str_int x t j u _ _ _ _ h
   .rw[vi]at h;exact wpAny_eqBool_str h
 «strs»:=λk x t v h=>by
  rcases JZ h with ⟨i,u,rfl,e⟩|⟨y,u,rfl,e⟩
  .exact nomatch e
  .injection e with e1 _
   subst e1;cases v<;>rfl
inductive V where
 |O|bl (b:Al)|int (i:Ad)|str (x:An)|byt (b:AO UInt8)|flt (b:UInt64)|ref (a:Am)|ty (n:Du)
 deriving DecidableEq
variable{v:V}
def Co:V->Aj->Prop
 |.O,u=>u=Cv
 |.bl b,u=>u=eH b
 |.int i,u=>∃ t,u=Jg i t
 |.str x,u=>∃ t,u=eI x t
 |.byt b,u=>∃ t,u=Value.bytes b t
 |.flt b,u=>∃ t,u=Value.float b t
 |.ref a,u=>u=Ds a
 |.ty n,u=>u=C2 n
noncomputable abbrev Bl:Ac V->Ac Aj->Prop:=II Co
theorem Bl.length(r:Bl xs us):xs.length=us.length:=dN r
theorem Bl.get:∀{xs:Ac V}{us:Ac Aj}{i:Ag}{x:V},Bl xs us->xs[i]?=Ab x->∃ u,us[i]?=Ab u/\Co x u
 |_,_,_,_,.nil,e=>by simp at e
 |_,_,0,_,.cons r _,e=>by simp at e;subst e;exact⟨_,rfl,r⟩
 |_,_,i+1,x,.cons _ t,e=>by
  obtain⟨u,h1,h2⟩:=Bl.get (i:=i) (x:=x) t (by simpa using e)
  exact⟨u,by simpa using h1,h2⟩
theorem Bl.set{x:V}{u:Aj}(r:Co x u):∀{xs:Ac V}{us:Ac Aj}(i:Ag),Bl xs us->Bl (xs.set i x) (us.set i u)
 |_,_,_,.nil=>.nil
 |_,_,0,.cons _ t=>.cons r t
 |_,_,i+1,.cons q t=>.cons q (Bl.set r i t)
theorem Bl.append:∀{xs ys:Ac V}{us ws:Ac Aj},Bl xs us->Bl ys ws->Bl (xs++ys) (us++ws)
 |_,_,_,_,.nil,s=>s
 |_,_,_,_,.cons r t,s=>.cons r (Bl.append t s)
theorem Bl.take:∀{xs:Ac V}{us:Ac Aj}(n:Ag),Bl xs us->Bl (xs.take n) (us.take n)
 |_,_,0,_=>.nil
 |_,_,_+1,.nil=>.nil
 |_,_,n+1,.cons r t=>.cons r (Bl.take n t)
theorem Bl.drop:∀{xs:Ac V}{us:Ac Aj}(n:Ag),Bl xs us->Bl (xs.drop n) (us.drop n)
 |_,_,0,r=>r
 |_,_,_+1,.nil=>.nil
 |_,_,n+1,.cons _ t=>Bl.drop n t
def UX:As V->As Aj->Prop
 |some v,Ab u=>Co v u
 |none,Af=>Jj
 |_,_=>BV
def KV{κ:Type}:Ac (κ×V)->Ac (κ×Aj)->Prop:=II fun(p:κ×V)(q:κ×Aj)=>p.1=q.1/\Co p.2 q.2
noncomputable def kV:Key->V
 |.inl i=>.int i
 |.inr x=>.str x
inductive HO where
 |L (xs:Ac V)
 |H (xs:Ac V)
 |dK (kvs:Ac (Key×V))|dT (kvs:Ac (Ac Key×V))
 |set (S:Ad->Al) (n:Ag)
 |ins (C dx:Am) (fs:Ac (An×V))
 |own (x:Am)
 |xd (fs:Ac (An×V))
 |met (f x:Am)
 |rng (lo hi:Ad)
 |frz (o:Dr) (u:HO)
 |tbl (ps:AO Aj)
 |ext (φ:AS->Prop)
abbrev Hp:=Am->As HO
noncomputable def upd(H:Hp)(a:Am)(o:HO):Hp:=λb=>if b=a then Ab o else H b
theorem J3:upd H a o a=Ab o:=by unfold upd;rw[AC rfl]
theorem DM(h:b≠a):upd H a o b=H b:=by unfold upd;rw[AH h]
theorem GQ{H:Hp}(h:H a=Ab o)(h':H b=Af):a≠b:=by
 intro e;subst e;rw[h]at h';cases h'
section
variable(P:A6)(w:AM)
def ObjOk(H:Hp)(h:AS)(a:Am):HO->Prop
  |.L xs=>xs.length<=sizeLine/\∃(Z9:Ac Aj)(n:Ag),Bl xs Z9/\h.get? a=Ab { cls:=.type "list",data:=.seq Z9.toArray n }
  |.H xs=>xs.length<=sizeLine/\∃ Z9:Ac Aj,Bl xs Z9/\K8 h a Z9.toArray
  |.dK kvs=>kvs.length<=sizeLine/\(a==L4)=Ae/\∃ vs,KV kvs vs/\h.DictOf (Te P w) a vs
  |.dT kvs=>kvs.length<=sizeLine/\(a==L4)=Ae/\∃ xs:Ac (Ac Key×Am×Aj),
      II (fun(p:Ac Key×V)(q:Ac Key×Am×Aj)=>p.1=q.1/\H q.2.1=Ab (.H (p.1.map kV))/\Co p.2 q.2.2) kvs xs /\
      ∃ o es ep,h.get? a=Ab o/\o.ExactDict/\o.data=.dict es ep/\es.toList=xs.map (entryOfKey (tupleKind (Te P w)))/\(xs.map (·.1)).Nodup
  |.set S n=>h.SetOf (FE P w) a S n
  |.ins C dx fs=>H dx=Ab (.own a)/\fs.length<=1000/\dx≠a/\h.get? a=Ab (Eu C dx) /\
      ∃ mA,h.Ns1 dx mA/\(∀ f,UX (fs.lookup f) (mA f))/\PySem.Within mA (fs.map (·.1))
  |.own _=>∃ o,h.get? a=Ab o
  |.xd fs=>∃ mA,h.Ns1 a mA/\∀ f,UX (fs.lookup f) (mA f)
  |.rng lo hi=>∃ t u v,h.get? a=Ab { cls:=.type "range",data:=.fields #[.int lo t,.int hi u,.int 1 v] }
  |.frz o u=>h.get? a=Ab o/\ObjOk H h a u
  |.tbl ps=>h.get? a=Ab {cls:=.none,data:=.fields ps}
  |.met f x=>h.get? a=Ab (Io (.ref f) (.ref x))
  |.ext φ=>φ h/\(∃ o,h.get? a=Ab o)/\∀ h1 h2:AS,φ h1->(∀ o,h1.get? a=Ab o->h2.get? a=Ab o)->φ h2
def ì(H:Hp)(h:AS):Prop:=∀ a o,H a=Ab o->ObjOk P w H h a o
end
section
variable{a:Am}
theorem ObjOk.lt(x:ObjOk P w H h a o):a<h.objs.size:=by
 cases o with
 |L xs=>obtain⟨_,_,_,_,e⟩:=x;exact AE e
 |H xs=>obtain⟨_,_,_,p⟩:=x;exact p.lt
 |dK kvs=>obtain⟨_,_,_,_,o,_,_,e,_⟩:=x;exact AE e
 |dT kvs=>obtain⟨_,_,_,_,o,_,_,e,_⟩:=x;exact AE e
 |set S n=>obtain⟨o,_,_,_,e,_⟩:=x;exact AE e
 |ins C dx fs=>obtain⟨_,_,_,e,_⟩:=x;exact AE e
 |own y=>obtain⟨_,e⟩:=x;exact AE e
 |xd fs=>obtain⟨_,⟨_,_,_,e,_⟩,_⟩:=x;exact AE e
 |rng lo hi=>obtain⟨_,_,_,e⟩:=x;exact AE e
 |frz ob u=>obtain⟨e,_⟩:=x;exact AE e
 |tbl ps=>exact AE (show h.get? a=Ab _ from x)
 |met f y=>exact AE (show h.get? a=Ab _ from x)
 |ext φ=>obtain⟨_,⟨_,e⟩,_⟩:=x;exact AE e
theorem II.mapP:∀{l₁:Ac α}{l₂:Ac β},II F l₁ l₂->(∀ a b,F a b->G a b)->II G l₁ l₂
 |_,_,.nil,_=>.nil
 |_,_,.cons r t,f=>.cons (f _ _ r) (II.mapP t f)
theorem ObjOk.stay(x:ObjOk P w H h a o)(k:∀ b u,(b=a\/H b=Ab (.own a))->h.get? b=Ab u->h'.get? b=Ab u)(ho:∀ b,H b=Ab (.own a)->H' b=Ab (.own a))(ht:∀ b xs,H b=Ab (.H xs)->H' b=Ab (.H xs)):ObjOk P w H' h' a o:=by
 induction o with
 |L xs=>obtain⟨z,Z9,n,r,e⟩:=x;exact⟨z,Z9,n,r,k _ _ (.inl rfl) e⟩
 |H xs=>obtain⟨z,Z9,r,ob,e,c⟩:=x;exact⟨z,Z9,r,ob,k _ _ (.inl rfl) e,c⟩
 |dK kvs=>obtain⟨z,y,vs,r,ob,es,ep,e,c⟩:=x;exact⟨z,y,vs,r,ob,es,ep,k _ _ (.inl rfl) e,c⟩
 |dT kvs=>
  obtain⟨z,y,xs,r,ob,es,ep,e,c⟩:=x;exact⟨z,y,xs,II.mapP r λp q z=>⟨z.1,ht _ _ z.2.1,z.2.2⟩,ob,es,ep,k _ _ (.inl rfl) e,c⟩
 |set S n=>obtain⟨ob,es,ep,t,e,c⟩:=x;exact⟨ob,es,ep,t,k _ _ (.inl rfl) e,c⟩
 |ins C dx fs=>
  obtain⟨d,z,ne,e,mA,⟨od,es,ep,e2,c⟩,r⟩:=x;exact⟨ho _ d,z,ne,k _ _ (.inl rfl) e,mA,⟨od,es,ep,k _ _ (.inr d) e2,c⟩,r⟩
 |own y=>obtain⟨ob,e⟩:=x;exact⟨ob,k _ _ (.inl rfl) e⟩
 |xd fs=>obtain⟨mA,⟨od,es,ep,e,c⟩,r⟩:=x;exact⟨mA,⟨od,es,ep,k _ _ (.inl rfl) e,c⟩,r⟩
 |rng lo hi=>obtain⟨t,u,v,e⟩:=x;exact⟨t,u,v,k _ _ (.inl rfl) e⟩
 |frz ob u ih=>obtain⟨e,q⟩:=x;exact⟨k _ _ (.inl rfl) e,ih q⟩
 |tbl ps=>
  have e:h.get? a=Ab {cls:=.none,data:=.fields ps}:=x;show h'.get? a=Ab {cls:=.none,data:=.fields ps};exact k a _ (.inl rfl) e
 |met f y=>
  have e:h.get? a=Ab (Io (.ref f) (.ref y)):=x;show h'.get? a=Ab (Io (.ref f) (.ref y));exact k a _ (.inl rfl) e
 |ext φ=>obtain⟨p,⟨o,e⟩,st⟩:=x;exact⟨st _ _ p λo q=>k _ _ (.inl rfl) q,⟨o,k _ _ (.inl rfl) e⟩,st⟩
theorem ì.lt(x:ì P w H h)(e:H a=Ab o):a<h.objs.size:=(x a o e).lt
theorem ì.fresh(x:ì P w H h)(e:h.objs.size<=a):H a=Af:=by
 cases q:H a with
 |none=>rfl
 |some u=>exact absurd (AF (x.lt q) e) (BK _)
theorem ì.kept(x:ì P w H h)(k:∀ b u,h.get? b=Ab u->h'.get? b=Ab u):ì P w H h':=λa o e=>
 (x a o e).stay (λb u _ q=>k b u q) (λ_ q=>q) λ_ _ q=>q
theorem ì.laid(x:ì P w H h)(k:∀ b u,h.get? b=Ab u->h'.get? b=Ab u)(hp:h.objs.size<=a)(new:ObjOk P w (upd H a o) h' a o):ì P w (upd H a o) h':=λb u e=>by
 have hn:=x.fresh hp;by_cases hb:b=a
 .subst hb;rw[J3]at e;cases e;exact new
 .rw[DM hb]at e;exact(x b u e).stay (λc v _ q=>k c v q) (λc q=>by rw[DM (GQ q hn)];exact q) λc xs q=>by rw[DM (GQ q hn)];exact q
end
def Rd(H:Hp)(a:Am)(u:HO):Prop:=H a=Ab u\/∃ o,H a=Ab (.frz o u)
theorem Rd.ok{u:HO}(r:Rd H a u)(x:ì P w H h):ObjOk P w H h a u:=by
 rcases r with r|⟨o,r⟩
 .exact x a u r
 .obtain⟨_,q⟩:=x a _ r;exact q
def Mut:As HO->Prop
 |some (.L _)=>Jj
 |some (.dK _)=>Jj
 |some (.dT _)=>Jj
 |some (.set _ _)=>Jj
 |some (.ins _ _ _)=>Jj
 |some (.ext _)=>Jj
 |_=>BV
theorem ì.write{P:A6}{w:AM}{H:Hp}{h h':AS}{x e:Am}{o':HO}(ok:ì P w H h)(mu:Mut (H x))(he:e=x\/H e=Ab (.own x))(k:∀ b u,b≠e->h.get? b=Ab u->h'.get? b=Ab u)(Ĩ:∃ u,h'.get? e=Ab u)(new:ObjOk P w (upd H x o') h' x o'):ì P w (upd H x o') h':=λb u q=>by
 have č:∀ c y,H c=Ab (.own y)->c≠x:=λc y r z=>by subst z;rw[r]at mu;exact mu
 have ntup:∀ c xs,H c=Ab (.H xs)->c≠x:=λc xs r z=>by subst z;rw[r]at mu;exact mu
 by_cases hb:b=x
 .subst hb;rw[J3]at q;cases q;exact new
 .rw[DM hb]at q;by_cases hbe:b=e
  .have q':H b=Ab (.own x):=by
    rcases he with z|z
    .exact absurd (hbe.trans z) hb
    .rw[hbe];exact z
   rw[q]at q';cases q';obtain⟨v,hv⟩:=Ĩ;exact⟨v,by rw[hbe];exact hv⟩
  .refine(ok b u q).stay (λc v hc r=>k c v ?_ r) (λc r=>by rw[DM (č c b r)];exact r) λc xs r=>by rw[DM (ntup c xs r)];exact r
   rcases hc with rfl|hc
   .exact hbe
   .rintro rfl;rcases he with z|z
    .exact č c b hc z
    .rw[hc]at z;cases z;exact hb rfl
structure Un (fs ex:Ac Am) (H H':Hp) (h h':AS):Prop where
 keep:∀ b o,h.get? b=Ab o->H b=Af->b∉fs->b∉ex->h'.get? b=Ab o
 slot:∀ b o,h.get? b=Ab o->H b=Af->b∈fs->b∉ex->∃ sl,h'.get? b=Ab {o with slots:=sl}
 free:∀ b o,h.get? b=Ab o->H b=Af->b∉ex->H' b=Af
 there:∀ b o,h.get? b=Ab o->b∉ex->∃ o',h'.get? b=Ab o'
 tups:∀ b xs,H b=Ab (.H xs)->H' b=Ab (.H xs)
 frzs:∀ b o u,H b=Ab (.frz o u)->H' b=Ab (.frz o u)
 tbls:∀ b ps,H b=Ab (.tbl ps)->∃ more,H' b=Ab (.tbl (ps++more))
section
variable{h:AS}{a:Am}
theorem Un.any(u:Un fs ex H H1 h h1)(q:h.get? b=Ab ob)(n:H b=Af)(hx:b∉ex):∃ sl,h1.get? b=Ab {ob with slots:=sl}:=by
 by_cases hb:b∈fs
 .exact u.slot b ob q n hb hx
 .exact⟨ob.slots,u.keep b ob q n hb hx⟩
theorem Un.kept(k:∀ b u,h.get? b=Ab u->h'.get? b=Ab u):Un fs ex H H h h':=
 ⟨λb ob q _ _ _=>k b ob q,λb ob q _ _ _=>⟨ob.slots,k b ob q⟩,λ_ _ _ n _=>n,λb ob q _=>⟨ob,k b ob q⟩,λ_ _ q=>q,λ_ _ _ q=>q,λ_ ps q=>⟨#[],by rw[q];simp⟩⟩
theorem Un.refl:Un fs ex H H h h:=Un.kept λ_ _ q=>q
theorem Un.laid(k:∀ b u,h.get? b=Ab u->h'.get? b=Ab u)(hp:h.objs.size<=a)(hn:H a=Af):Un fs ex H (upd H a o) h h' where
 keep:=λb u q _ _ _=>k b u q
 slot:=λb u q _ _ _=>⟨u.slots,k b u q⟩
 free:=λb u q n _=>by rw[DM (AZ (AF (AE q) hp))];exact n
 there:=λb u q _=>⟨u,k b u q⟩
 tups:=λb xs q=>by rw[DM (GQ q hn)];exact q
 frzs:=λb u xs q=>by rw[DM (GQ q hn)];exact q
 tbls:=λb ps q=>⟨#[],by rw[DM (GQ q hn),q];simp⟩
theorem Un.write{fs ex:Ac Am}{H:Hp}{h':AS}{x e:Am}{o:HO}(mu:Mut (H x))(he:e=x\/H e=Ab (.own x))(k:∀ b u,b≠e->h.get? b=Ab u->h'.get? b=Ab u)(Ĩ:∃ u,h'.get? e=Ab u):Un fs ex H (upd H x o) h h':=by
 have hx:∀ b,H b=Af->b≠x:=λb n z=>by subst z;rw[n]at mu;exact mu
 have hb:∀ b,H b=Af->b≠e:=λb n z=>by
  subst z;rcases he with r|r
  .exact hx b n r
  .rw[n]at r;cases r
 have hm:∀ b u,H b=Ab u->¬ Mut (Ab u)->b≠x:=λb u q nm z=>by subst z;rw[q]at mu;exact nm mu
 refine⟨λb u q n _ _=>k b u (hb b n) q,λb u q n _ _=>⟨u.slots,k b u (hb b n) q⟩,λb u q n _=>by rw[DM (hx b n)];exact n,λb u q _=>?_,
  λb xs q=>by rw[DM (hm b _ q λz=>z)];exact q,λb u xs q=>by rw[DM (hm b _ q λz=>z)];exact q,λb ps q=>⟨#[],by rw[DM (hm b _ q λz=>z),q];simp⟩⟩
 by_cases hbe:b=e
 .subst hbe;exact Ĩ
 .exact⟨u,k b u hbe q⟩
end
noncomputable def trk(h:AS)(H:Hp):Ac Am:=(AK h.objs.size).filter λa=>(H a).isSome
noncomputable def Kc(h:AS)(H:Hp):AS:=PySem.W.hideAll h (trk h H)
theorem rX(h:AS)(H:Hp):(Kc h H).objs.size=h.objs.size:=PySem.W.hideAll_size _ _
theorem tO(e:h.get? b=Ab o)(n:H b=Af):(Kc h H).get? b=Ab o:=
 PySem.W.hideAll_get _ e λhm=>by
  have q:(H b).isSome=Aa:=(BJ.mp hm).2;rw[n]at q;simp at q
theorem zW(e:(Kc h H).get? b=Ab o):h.get? b=Ab o/\H b=Af:=by
 have e':h.get? b=Ab o:=PySem.W.of_hideAll (trk h H) e;refine⟨e',?_⟩;cases q:H b with
 |none=>rfl
 |some x=>
  have hm:b∈trk h H:=BJ.mpr ⟨A9.mpr (AE e'),by simp[q]⟩
  have z:(Kc h H).get? b=Af:=PySem.W.hideAll_none (trk h H) hm;rw[z]at e;cases e
noncomputable def jf(g h:AS)(L:Am):Pn:=(AK h.objs.size).filterMap λa=>if a=L\/(g.get? a).isSome=Aa then Af else (h.get? a).map λo=>(a,o)
noncomputable def rest(g h:AS)(L d:Am):Pn:=(jf g h L).filter λp=>decide (p.1≠d)
structure Mod (K:Fg) (mg:An->As Aj) (base:AS):Prop where
 kin:K.In base
 glob:base.Ns Bt mg
 blt:∃ mb,base.Ns JX mb/\∀ x:An,x≠"__name__"->mb x=Dt x
 nolimit:base.NoLimit
structure Cx where
 prog:A6
 w:AM
 K:Fg
 mg:An->As Aj
 base:AS
 A:Bm
 N:Ac An
 s₀:At
 H₀:Hp
 env:Dc
 outer:Ac Dc
 stack:Ac Dc
 ex:Ac Am
 fn:An->Al
 calm:Al
 pn:Pn
 xe:Aj->At->Prop
variable{X:Cx}
noncomputable def å(l:Ac Dc):Ac Am:=l.filterMap (·.frame)
noncomputable abbrev Cx.fs(X:Cx):Ac Am:=å X.outer
def Vis(sc:CP)(x:An):Prop:=sc.names.lookup x=Ab .local\/sc.names.lookup x=Ab .cell\/sc.names.lookup x=Ab .free
def ĺ(sc:CP)(x:An):Prop:=sc.names.lookup x=Ab .local\/sc.names.lookup x=Ab .cell
noncomputable def oK(env:Dc)(h:AS)(m:An->As Aj)(x:An)(u:Aj):Prop:=
 (env.kindOf x=Ab .local/\m x=Ab u)\/((env.kindOf x=Ab .cell\/env.kindOf x=Ab .free)/\∃ c,env.cells.lookup x=Ab c/\h.IsCell c (Ab u))
structure Cx.Ok (X:Cx):Prop where
 mod:Mod X.K X.mg X.base
 kind:X.env.scope.kind=.function
 glob:X.env.globals=Bt
 blt:X.env.builtins=JX
 above:X.s₀.heap.objs.size<=X.env.locals
 inj:∀ x y c,X.env.cells.lookup x=Ab c->X.env.cells.lookup y=Ab c->x=y
 has:∀ x,(X.env.kindOf x=Ab .cell\/X.env.kindOf x=Ab .free)->∃ c,X.env.cells.lookup x=Ab c
 cab:∀ x c,X.fn x=Aa->X.env.cells.lookup x=Ab c->X.s₀.heap.objs.size<=c
 hd:X.calm=Aa->X.A.handled=Af
 frames:X.A.frames=Ab X.stack
 stk:X.stack=X.outer\/(X.stack=X.env::X.outer/\X.env.frame=Ab X.env.locals)
 exf:∀ b∈X.ex,b≠X.env.locals/\∀ x c,X.env.cells.lookup x=Ab c->c≠b
 bs:∀ b o,X.base.get? b=Ab o->X.s₀.heap.get? b=Ab o/\X.H₀ b=Af
 bsz:X.base.objs.size<=X.s₀.heap.objs.size
 noex:∀ b o,X.base.get? b=Ab o->b∉X.ex
 exfs:∀ b∈X.ex,b∉X.fs
 funs:X.s₀.heap.FunFrames X.base X.outer
 frf:∀ b∈X.fs,X.H₀ b=Af
structure Z6 (X:Cx) (pI:Pn) (Y:Ac (As V)) (H:Hp) (s:At):Prop where
 ok:X.Ok
 os:s.os=X.s₀.os
 bare:Go s.gens
 base:Un X.fs X.ex X.H₀ H X.s₀.heap s.heap
 loc:∃ m,s.heap.Ns X.env.locals m/\∀(i:Ag)(x:An)(v:V),X.N[i]?=Ab x->Y[i]?=Ab (Ab v)->Vis X.env.scope x->∃ u,Co v u/\oK X.env s.heap m x u
 cell:∀ x c,X.env.cells.lookup x=Ab c->∃ v,s.heap.IsCell c v
 free:H X.env.locals=Af
 freeC:∀ x c,X.env.cells.lookup x=Ab c->H c=Af
 pin:∀ p∈X.pn++pI,s.heap.get? p.1=Ab p.2/\H p.1=Af/\p.1≠X.env.locals/\p.1∉X.fs/\∀ v,p.2.data≠.cell v
 hok:ì X.prog X.w H s.heap
 len:Y.length=X.N.length
section
variable{X:Cx}{pI:Pn}{Y:Ac (As V)}{H:Hp}{s:At}
theorem Cx.Ok.nofr(ok:X.Ok)(e:X.base.get? b=Ab o):b∉X.fs:=λhb=>by
 have:=(ok.funs.mem hb).1;rw[e]at this;cases this
theorem Z6.bs(I:Z6 X pI Y H s):∀ b o,X.base.get? b=Ab o->s.heap.get? b=Ab o/\H b=Af:=λb o e=>
 ⟨I.base.keep b o (I.ok.bs b o e).1 (I.ok.bs b o e).2 (I.ok.nofr e) (I.ok.noex b o e),I.base.free b o (I.ok.bs b o e).1 (I.ok.bs b o e).2 (I.ok.noex b o e)⟩
theorem Z6.bk(I:Z6 X pI Y H s):∀ b o,X.base.get? b=Ab o->s.heap.get? b=Ab o:=λb o e=>(I.bs b o e).1
theorem Z6.mod(I:Z6 X pI Y H s):Mod X.K X.mg X.base:=I.ok.mod
theorem Z6.kIn(I:Z6 X pI Y H s):X.K.In s.heap:=I.ok.mod.kin.keeps I.bk
theorem Z6.nolimit(I:Z6 X pI Y H s):s.heap.NoLimit:=I.ok.mod.nolimit.keeps I.bk
theorem Z6.lt(I:Z6 X pI Y H s):X.env.locals<s.heap.objs.size:=let ⟨_,hn,_⟩:=I.loc;hn.lt
theorem Z6.sz(I:Z6 X pI Y H s):X.s₀.heap.objs.size<=s.heap.objs.size:=BZ I.ok.above (Ei I.lt)
theorem Z6.nofs(I:Z6 X pI Y H s)(h:s.heap.objs.size<=a):a∉X.fs:=λhb=>by
 obtain⟨_,o,ho,_⟩:=I.ok.funs.mem hb;exact absurd (AF (AE ho) (BZ I.sz h)) (BK _)
theorem Z6.cne(I:Z6 X pI Y H s):∀ x c,X.env.cells.lookup x=Ab c->c≠X.env.locals:=λx c e z=>by
 obtain⟨v,o,ho,hd⟩:=I.cell x c e;obtain⟨m,⟨o',es,ep,ϯ,hd',_⟩,_⟩:=I.loc;rw[z,ϯ]at ho;cases ho;rw[hd']at hd;cases hd
theorem Z6.funs(I:Z6 X pI Y H s):s.heap.FunFrames X.base X.outer:=by
 have all:∀(l:Ac Dc),(∀ b∈å l,b∈X.fs)->X.s₀.heap.FunFrames X.base l->s.heap.FunFrames X.base l:=by
  intro l
  induction l with
  |nil=>intro _ _;trivial
  |cons env r ih=>
   intro hs hl;obtain⟨hk,⟨L,o,hf,hn,ho,hd⟩,hr⟩:=hl;have hL:L∈X.fs:=hs L (by unfold å;rw[Hr,hf];exact Ax)
   obtain⟨sl,e⟩:=I.base.slot L o ho (I.ok.frf L hL) hL λz=>I.ok.exfs L z hL
   exact⟨hk,⟨L,_,hf,hn,e,hd⟩,ih (λb hb=>hs b (by unfold å;rw[Hr,hf];exact Av _ hb)) hr⟩
 exact all X.outer (λ_ hb=>hb) I.ok.funs
theorem Z6.stack(I:Z6 X pI Y H s):s.heap.FunFrames X.base X.stack:=by
 rcases I.ok.stk with e|⟨e,hf⟩
 .rw[e];exact I.funs
 .rw[e];obtain⟨m,hn,_⟩:=I.loc;refine .cons (by rw[I.ok.kind];decide) hf hn ?_ I.funs
  exact Hd (BZ I.ok.bsz I.ok.above)
theorem Z6.stkSub(I:Z6 X pI Y H s):∀ b∈å X.stack,b∈X.env.locals::X.fs:=λb hb=>by
 rcases I.ok.stk with e|⟨e,hf⟩
 .rw[e]at hb;exact Av _ hb
 .rw[e]at hb;unfold å at hb;rw[Hr,hf]at hb;exact hb
theorem Z6.stkFree(I:Z6 X pI Y H s):∀ b∈å X.stack,H b=Af:=λb hb=>by
 rcases Aw.mp (I.stkSub b hb) with e|hb
 .rw[e];exact I.free
 .obtain⟨_,o,ho,_⟩:=I.ok.funs.mem hb;exact I.base.free b o ho (I.ok.frf b hb) λz=>I.ok.exfs b z hb
theorem Z6.step(I:Z6 X pI Y H s)(ό:∀ b∈ch,(b∈X.ex\/X.s₀.heap.objs.size<=b)/\b≠X.env.locals/\(∀ x c,X.env.cells.lookup x=Ab c->c≠b)/\∀ p∈X.pn++pI,p.1≠b)(keep:∀ b o,b≠X.env.locals->b∉X.fs->b∉ch->s.heap.get? b=Ab o->H b=Af->h'.get? b=Ab o)(slot:∀ b o,b≠X.env.locals->b∈X.fs->b∉ch->s.heap.get? b=Ab o->H b=Af->∃ sl,h'.get? b=Ab {o with slots:=sl})(free:∀ b o,b∉ch->s.heap.get? b=Ab o->H b=Af->H' b=Af)(there:∀ b o,b∉ch->s.heap.get? b=Ab o->∃ o',h'.get? b=Ab o')(tups:∀ b xs,H b=Ab (.H xs)->H' b=Ab (.H xs))(frzs:∀ b o u,H b=Ab (.frz o u)->H' b=Ab (.frz o u))(tbls:∀ b ps,H b=Ab (.tbl ps)->∃ more,H' b=Ab (.tbl (ps++more)))(ns:∀ m,s.heap.Ns X.env.locals m->h'.Ns X.env.locals m)(hok:ì X.prog X.w H' h')(hg:Go g'):Z6 X pI Y H' {s with heap:=h',gens:=g',drawn:=d',toks:=t'}:=by
 have neL:∀ b o,X.s₀.heap.get? b=Ab o->b≠X.env.locals:=λb o e=>AZ (AF (AE e) I.ok.above)
 have neC:∀ b o,X.s₀.heap.get? b=Ab o->b∉X.ex->b∉ch:=λb o e hx hb=>by
  rcases (ό b hb).1 with z|z
  .exact hx z
  .exact absurd (AF (AE e) z) (BK _)
 have cellK:∀ x c,X.env.cells.lookup x=Ab c->∀ v,s.heap.IsCell c v->h'.IsCell c v:=λx c e v ⟨o,ho,hd⟩=>by
  have Ċ:c∉ch:=λz=>(ό c z).2.2.1 x c e rfl
  by_cases hc:c∈X.fs
  .obtain⟨sl,q⟩:=slot c o (I.cne x c e) hc Ċ ho (I.freeC x c e);exact⟨_,q,hd⟩
  .exact⟨o,keep c o (I.cne x c e) hc Ċ ho (I.freeC x c e),hd⟩
 refine⟨I.ok,I.os,hg,⟨λb o e n hb hx=>?_,λb o e n hb hx=>?_,λb o e n hx=>?_,λb o e hx=>?_,λb xs e=>tups b xs (I.base.tups b xs e),λb o xs e=>frzs b o xs (I.base.frzs b o xs e),λb ps e=>?_⟩,?_,λx c e=>?_,?_,λx c e=>?_,λp hp=>?_,hok,I.len⟩
 .exact keep b o (neL b o e) hb (neC b o e hx) (I.base.keep b o e n hb hx) (I.base.free b o e n hx)
 .obtain⟨sl,e1⟩:=I.base.slot b o e n hb hx;obtain⟨ĵ,e2⟩:=slot b _ (neL b o e) hb (neC b o e hx) e1 (I.base.free b o e n hx);exact⟨ĵ,e2⟩
 .obtain⟨o',e1⟩:=I.base.there b o e hx;exact free b o' (neC b o e hx) e1 (I.base.free b o e n hx)
 .obtain⟨o',e1⟩:=I.base.there b o e hx;exact there b o' (neC b o e hx) e1
 .obtain⟨m1,e1⟩:=I.base.tbls b ps e;obtain⟨m2,e2⟩:=tbls b _ e1;exact⟨m1++m2,by rw[e2,Array.append_assoc]⟩
 .obtain⟨m,hn,hl⟩:=I.loc;refine⟨m,ns m hn,λi x v e1 e2 e3=>?_⟩
  obtain⟨u,r,l⟩:=hl i x v e1 e2 e3;refine⟨u,r,?_⟩;rcases l with l|⟨k,c,e,z⟩
  .exact .inl l
  .exact .inr ⟨k,c,e,cellK x c e _ z⟩
 .obtain⟨v,z⟩:=I.cell x c e;exact⟨v,cellK x c e v z⟩
 .obtain⟨m,⟨o,_,_,ho,_⟩,_⟩:=I.loc;exact free _ o (λz=>(ό _ z).2.1 rfl) ho I.free
 .obtain⟨v,o,ho,hd⟩:=I.cell x c e;exact free c o (λz=>(ό c z).2.2.1 x c e rfl) ho (I.freeC x c e)
 .obtain⟨e,n,ne,nf,d⟩:=I.pin p hp;have Ċ:p.1∉ch:=λz=>(ό p.1 z).2.2.2 p hp rfl
  exact⟨keep p.1 p.2 ne nf Ċ e n,free p.1 p.2 Ċ e n,ne,nf,d⟩
theorem Z6.un(I:Z6 X pI Y H s)(u:Un X.fs [] H H' s.heap h')(hok:ì X.prog X.w H' h'):Z6 X pI Y H' {s with heap:=h',toks:=t'}:=by
 obtain⟨m,⟨o,es,ep,ho,r⟩,_⟩:=id I.loc;obtain⟨sl,hL⟩:=u.any ho I.free (by simp)
 exact I.step (g':=s.gens) (d':=s.drawn) (ch:=[]) (λ_ z=>nomatch z) (λb o _ hb _ e n=>u.keep b o e n hb (by simp)) (λb o _ hb _ e n=>u.slot b o e n hb (by simp)) (λb o _ e n=>u.free b o e n (by simp)) (λb o _ e=>u.there b o e (by simp)) u.tups u.frzs u.tbls (λm' hm=>by
  obtain⟨o',Ê,ep',ϯ,r'⟩:=hm;rw[ho]at ϯ;cases ϯ;exact⟨_,Ê,ep',hL,r'⟩) hok I.bare
theorem Z6.call(I:Z6 X pI Y H s)(u:Un (å X.stack) ch H H' s.heap h')(hok:ì X.prog X.w H' h')(hg:Go g')(ό:∀ b∈ch,(b∈X.ex\/X.s₀.heap.objs.size<=b)/\b≠X.env.locals/\(∀ x c,X.env.cells.lookup x=Ab c->c≠b)/\∀ p∈X.pn++pI,p.1≠b):Z6 X pI Y H' {s with heap:=h',gens:=g',drawn:=d',toks:=t'}:=by
 obtain⟨m,⟨o,es,ep,ho,r⟩,_⟩:=id I.loc;obtain⟨sl,hL⟩:=u.any ho I.free λz=>(ό _ z).2.1 rfl
 exact I.step (ch:=ch) ό (λb o hL hb hc e n=>u.keep b o e n (λz=>(Aw.mp (I.stkSub b z)).elim hL hb) hc) (λb o _ _ hc e n=>u.any e n hc) (λb o hc e n=>u.free b o e n hc) (λb o hc e=>u.there b o e hc) u.tups u.frzs u.tbls (λm' hm=>by
  obtain⟨o',Ê,ep',ϯ,r'⟩:=hm;rw[ho]at ϯ;cases ϯ;exact⟨_,Ê,ep',hL,r'⟩) hok hg
theorem Z6.turned(I:Z6 X pI Y H s)(k:∀ b o,b≠it->s.heap.get? b=Ab o->h'.get? b=Ab o)(hn:H it=Af)(hL:it≠X.env.locals)(h1:it∈X.ex\/X.s₀.heap.objs.size<=it)(h2:∀ x c,X.env.cells.lookup x=Ab c->c≠it)(h3:∀ p∈X.pn++pI,p.1≠it):Z6 X pI Y H {s with heap:=h',toks:=t'}:=by
 have ċ:∀ b u,H b=Ab u->b≠it:=λb u e z=>by rw[z,hn]at e;cases e
 refine I.step (g':=s.gens) (d':=s.drawn) (ch:=[it]) (λb hb=>?_) (λb o _ _ hc e _=>k b o (λz=>hc (by simp[z])) e) (λb o _ _ hc e _=>⟨o.slots,k b o (λz=>hc (by simp[z])) e⟩) (λ_ _ _ _ n=>n)
  (λb o hc e=>⟨o,k b o (λz=>hc (by simp[z])) e⟩) (λ_ _ e=>e) (λ_ _ _ e=>e) (λb ps e=>⟨#[],by rw[e];simp⟩) (λm hm=>?_) (λb u e=>?_) I.bare
 .have e:b=it:=by simpa using hb
  subst e;exact⟨h1,hL,h2,h3⟩
 .obtain⟨o,es,ep,ho,r⟩:=hm;exact⟨o,es,ep,k _ o (A8 hL) ho,r⟩
 .refine(I.hok b u e).stay (λc v hc q=>k c v ?_ q) (λ_ q=>q) λ_ _ q=>q
  rcases hc with z|z
  .rw[z];exact ċ b u e
  .exact ċ c _ z
theorem Z6.tok(I:Z6 X pI Y H s)(t:Ag):Z6 X pI Y H {s with toks:=t}:=I.un (h':=s.heap) (t':=t) Un.refl I.hok
theorem Z6.kept(I:Z6 X pI Y H s)(k:∀ b u,s.heap.get? b=Ab u->h'.get? b=Ab u):Z6 X pI Y H {s with heap:=h',toks:=t'}:=I.un (Un.kept k) (I.hok.kept k)
theorem Z6.laid{a:Am}(I:Z6 X pI Y H s)(k:∀ b u,s.heap.get? b=Ab u->h'.get? b=Ab u)(hp:s.heap.objs.size<=a)(new:ObjOk X.prog X.w (upd H a o) h' a o):Z6 X pI Y (upd H a o) {s with heap:=h',toks:=t'}:=I.un (Un.laid k hp (I.hok.fresh hp)) (I.hok.laid k hp new)
theorem Z6.write{x e:Am}(I:Z6 X pI Y H s)(mu:Mut (H x))(he:e=x\/H e=Ab (.own x))(k:∀ b u,b≠e->s.heap.get? b=Ab u->h'.get? b=Ab u)(Ĩ:∃ u,h'.get? e=Ab u)(new:ObjOk X.prog X.w (upd H x o) h' x o):Z6 X pI Y (upd H x o) {s with heap:=h',toks:=t'}:=I.un (Un.write mu he k Ĩ) (I.hok.write mu he k Ĩ new)
theorem Z6.pins_of(I:Z6 X pI Y H s)(h:∀ p∈Ò,s.heap.get? p.1=Ab p.2/\H p.1=Af/\p.1≠X.env.locals/\p.1∉X.fs/\∀ v,p.2.data≠.cell v):Z6 X Ò Y H s:=
 ⟨I.ok,I.os,I.bare,I.base,I.loc,I.cell,I.free,I.freeC,λp hp=>(C5.mp hp).elim (λz=>I.pin p (EE _ z)) (h p),I.hok,I.len⟩
theorem WE{N:Ac An}(hN:N.Nodup){j:Ag}(a:N[i]?=Ab x)(b:N[j]?=Ab x):i=j:=by
 obtain⟨h1,e1⟩:=Br.mp a;obtain⟨h2,e2⟩:=Br.mp b;exact(IB hN).mp (e1.trans e2.symm)
theorem Vx{A:Bm}{E:Vq}(I:Z6 X pI Y H s)(hN:X.N.Nodup)(hi:X.N[i]?=Ab x)(hx:ĺ X.env.scope x)(r:Co v u)(h:∀ s',Z6 X pI (Y.set i (Ab v)) H s'->(∃ a,FA a s.heap s'.heap/\(a=X.env.locals\/X.env.cells.lookup x=Ab a))->Q () s')(hf:X.fn x=Aa\/X.env.scope.names.lookup x=Ab .local:=by first|exact .inl rfl|exact .inr rfl|assumption):AD M A (storeName X.env x u) Q E s:=by
 obtain⟨m,hn,hl⟩:=id I.loc;have hcls:(X.env.scope.kind==.class||(X.env.scope.kind==.module&&X.env.locals != X.env.globals))=Ae:=by rw[I.ok.kind];rfl
 have hiσ:i<Y.length:=by rw[I.len];exact(Br.mp hi).1
 have cne:=I.cne;have tracked:∀{a:Am}{h':AS},(∃ o,s.heap.get? a=Ab o/\H a=Af)->FA a s.heap h'->ì X.prog X.w H h':=λ{a h'} ha hs b ob e=>by
  obtain⟨_,_,ś⟩:=ha;refine(I.hok b ob e).stay (λc w' hc q=>(hs.2 c ?_).trans q) (λ_ q=>q) λ_ _ q=>q
  rintro rfl;rcases hc with rfl|hc
  .rw[ś]at e;cases e
  .rw[ś]at hc;cases hc
 rcases hx with hk|hk
 .refine wpAny_storeName_local hk hn (λh' hn' hs=>?_) hcls
  obtain⟨oL,_,_,hoL,_⟩:=id hn;refine h _ ⟨I.ok,I.os,I.bare,⟨λb o e n hb hx=>?_,λb o e n hb hx=>?_,I.base.free,λb o e hx=>?_,I.base.tups,I.base.frzs,I.base.tbls⟩,⟨_,hn',λj y v' e1 e2 e3=>?_⟩,λy c e=>?_,I.free,I.freeC,λp hp=>?_,tracked ⟨oL,hoL,I.free⟩ hs,by simpa using I.len⟩ ⟨_,hs,.inl rfl⟩
  .exact(hs.2 b (AZ (AF (AE e) I.ok.above))).trans (I.base.keep b o e n hb hx)
  .obtain⟨sl,e1⟩:=I.base.slot b o e n hb hx;exact⟨sl,(hs.2 b (AZ (AF (AE e) I.ok.above))).trans e1⟩
  .obtain⟨o',e1⟩:=I.base.there b o e hx;exact⟨o',(hs.2 b (AZ (AF (AE e) I.ok.above))).trans e1⟩
  .by_cases hj:j=i
   .subst hj;rw[hi]at e1;cases e1;rw[DL hiσ]at e2;cases e2;exact⟨u,r,.inl ⟨hk,by simp⟩⟩
   .rw[G6 (A8 hj)]at e2;obtain⟨u',r',q⟩:=hl j y v' e1 e2 e3;refine⟨u',r',?_⟩;rcases q with ⟨k,e⟩|⟨k,c,e,z⟩
    .refine .inl ⟨k,?_⟩;have:y≠x:=λe=>hj (WE hN e1 (e ▸ hi))
     simp[this,e]
    .exact .inr ⟨k,c,e,z.sameBut hs (cne y c e)⟩
  .obtain⟨w',z⟩:=I.cell y c e;exact⟨w',z.sameBut hs (cne y c e)⟩
  .obtain⟨e,n,ne,nf,d⟩:=I.pin p hp;exact⟨(hs.2 p.1 ne).trans e,n,ne,nf,d⟩
 .have hfn:X.fn x=Aa:=by
   rcases hf with z|z
   .exact z
   .rw[z]at hk;cases hk
  obtain⟨c,hc⟩:=I.ok.has x (.inl hk);obtain⟨w',z⟩:=I.cell x c hc;refine wpAny_storeName_cell I.ok.kind hk hc z (λh' ϋ hs=>?_)
  obtain⟨oc,hoc,hocd⟩:=id z;refine h {s with heap:=h'} ⟨I.ok,I.os,I.bare,⟨λb o e n hb hx=>?_,λb o e n hb hx=>?_,I.base.free,λb o e hx=>?_,I.base.tups,I.base.frzs,I.base.tbls⟩,⟨m,hn.sameBut hs (A8 (cne x c hc)),λj y v' e1 e2 e3=>?_⟩,λy c' e=>?_,I.free,I.freeC,λp hp=>?_,tracked ⟨oc,hoc,I.freeC x c hc⟩ hs,by simpa using I.len⟩ ⟨c,hs,.inr hc⟩
  .exact(hs.2 b (AZ (AF (AE e) (I.ok.cab x c hfn hc)))).trans (I.base.keep b o e n hb hx)
  .obtain⟨sl,e1⟩:=I.base.slot b o e n hb hx;exact⟨sl,(hs.2 b (AZ (AF (AE e) (I.ok.cab x c hfn hc)))).trans e1⟩
  .obtain⟨o',e1⟩:=I.base.there b o e hx;exact⟨o',(hs.2 b (AZ (AF (AE e) (I.ok.cab x c hfn hc)))).trans e1⟩
  .by_cases hj:j=i
   .subst hj;rw[hi]at e1;cases e1;rw[DL hiσ]at e2;cases e2;exact⟨u,r,.inr ⟨.inl hk,c,hc,ϋ⟩⟩
   .rw[G6 (A8 hj)]at e2;obtain⟨u',r',q⟩:=hl j y v' e1 e2 e3;refine⟨u',r',?_⟩;rcases q with q|⟨k,c',e,z'⟩
    .exact .inl q
    .refine .inr ⟨k,c',e,z'.sameBut hs ?_⟩;rintro rfl;exact hj (WE hN e1 (I.ok.inj _ _ _ e hc ▸ hi))
  .by_cases hcc:c'=c
   .subst hcc;exact⟨_,ϋ⟩
   .obtain⟨w2,z2⟩:=I.cell y c' e;exact⟨w2,z2.sameBut hs hcc⟩
  .obtain⟨e,n,ne,nf,d⟩:=I.pin p hp;refine⟨(hs.2 p.1 ?_).trans e,n,ne,nf,d⟩;intro q;rw[q,hoc]at e;have q':oc=p.2:=BX e;exact d w' (by rw[<-q'];exact hocd)
theorem Wx{A:Bm}{E:Vq}(I:Z6 X pI Y H s)(hN:X.N.Nodup)(hi:X.N[i]?=Ab x)(hx:ĺ X.env.scope x)(r:Co v u)(h:∀ s',Z6 X pI (Y.set i (Ab v)) H s'->Q () s')(hf:X.fn x=Aa\/X.env.scope.names.lookup x=Ab .local:=by first|exact .inl rfl|exact .inr rfl|assumption):AD M A (storeName X.env x u) Q E s:=
 Vx I hN hi hx r (λs' I' _=>h s' I') hf
theorem Z6.call'(I:Z6 X pI Y H s)(ho:s'.os=s.os)(u:Un (å X.stack) ch H H' s.heap s'.heap)(hok:ì X.prog X.w H' s'.heap)(hg:Go s'.gens)(ό:∀ b∈ch,(b∈X.ex\/X.s₀.heap.objs.size<=b)/\b≠X.env.locals/\(∀ x c,X.env.cells.lookup x=Ab c->c≠b)/\∀ p∈X.pn++pI,p.1≠b):Z6 X pI Y H' s':=by
 obtain⟨h',g',d',t',o'⟩:=s';have e:o'=s.os:=ho;subst e;exact I.call (g':=g') (t':=t') (d':=d') u hok hg ό
end
abbrev XK:=Aj->As Am->Hp->Prop
abbrev St:=Ac (As V)
variable{Y:St}
abbrev VK:=V->Hp->Prop
abbrev TE:=St->Hp->VK->Prop
variable{te:TE}
abbrev TT:=St->Hp->(Al->Hp->Prop)->Prop
abbrev TA:=St->Hp->(Ac V->Hp->Prop)->Prop
variable{ta:TA}
structure Η where
 nx:St->Hp->Prop
 rt:VK
 bk:St->Hp->Prop:=λ_ _=>BV
 ct:St->Hp->Prop:=λ_ _=>BV
abbrev TS:=Η->St->Hp->Prop
def EP(X:Cx)(pI:Pn)(Y:St)(Q:VK)(u:Aj)(s':At):Prop:=∃ v H',Z6 X pI Y H' s'/\Co v u/\Q v H'
def TP(X:Cx)(pI:Pn)(Y:St)(Q:Al->Hp->Prop)(b:Al)(s':At):Prop:=∃ H',Z6 X pI Y H' s'/\Q b H'
def AP(X:Cx)(pI:Pn)(Y:St)(Q:Ac V->Hp->Prop)(us:Ac Aj)(s':At):Prop:=∃ vs H',Z6 X pI Y H' s'/\Bl vs us/\Q vs H'
noncomputable def SP(X:Cx)(pI:Pn)(D:Η)(f:Flow)(s':At):Prop:=
  match f with
  |.next=>∃ Y' H',Z6 X pI Y' H' s'/\D.nx Y' H'
  |.brk=>∃ Y' H',Z6 X pI Y' H' s'/\D.bk Y' H'
  |.cont=>∃ Y' H',Z6 X pI Y' H' s'/\D.ct Y' H'
  |.ret u=>∃ v Y' H',Z6 X pI Y' H' s'/\Co v u/\D.rt v H'
noncomputable def PE(X:Cx)(e:Aq)(t:TE):Prop:=
 ∀(pI:Pn)(s:At)(Y:St)(H:Hp)(Q:VK),Z6 X pI Y H s->t Y H Q->AD (model X.prog X.w) X.A (eval e X.env) (EP X pI Y Q) X.xe s
noncomputable def PT(X:Cx)(e:Aq)(t:TT):Prop:=
 ∀(pI:Pn)(s:At)(Y:St)(H:Hp)(Q:Al->Hp->Prop),Z6 X pI Y H s->t Y H Q->AD (model X.prog X.w) X.A (JN e X.env (eval e X.env)) (TP X pI Y Q) X.xe s
noncomputable def PW(X:Cx)(e:Aq)(t:TT):Prop:=
 ∀(whole:HU Aj)(pI:Pn)(s:At)(Y:St)(H:Hp)(Q:Al->Hp->Prop),Z6 X pI Y H s->t Y H Q->AD (model X.prog X.w) X.A (JN e X.env whole) (TP X pI Y Q) X.xe s
theorem PW.pt(h:PW X e t):PT X e t:=h _
noncomputable def PA(X:Cx)(es:Ac Aq)(t:TA):Prop:=
 ∀(pos:Bf)(pI:Pn)(s:At)(Y:St)(H:Hp)(Q:Ac V->Hp->Prop),Z6 X pI Y H s->t Y H Q->AD (model X.prog X.w) X.A (spliced (C8 pos (AN es X.env))) (AP X pI Y Q) X.xe s
noncomputable def PS(X:Cx)(st:BQ)(t:TS):Prop:=
 ∀(pI:Pn)(s:At)(Y:St)(H:Hp)(D:Η),Z6 X pI Y H s->t D Y H->AD (model X.prog X.w) X.A (exec st X.env) (SP X pI D) X.xe s
noncomputable def È(X:Cx)(st:Ac BQ)(t:TS):Prop:=
 ∀(pI:Pn)(s:At)(Y:St)(H:Hp)(D:Η),Z6 X pI Y H s->t D Y H->AD (model X.prog X.w) X.A (execs st X.env) (SP X pI D) X.xe s
theorem LT{t:HU α}{Q Q':α->At->Prop}{E:Vq}(h:AD M A t Q E s)(hQ:∀ a s,Q a s->Q' a s):AD M A t Q' E s:=C3 h hQ λ_ _ x=>x
section
variable{X:Cx}
def K0(i:Ag):TE:=λY H Q=>∃ v,Y[i]?=Ab (Ab v)/\Q v H
def tC(v:V):TE:=λ_ H Q=>Q v H
theorem ww(hN:X.N[i]?=Ab x)(hv:Vis X.env.scope x)(hd:(x==("__debug__" : An))=Ae:=by decide)(ϒ:(x==("__classdict__" : An))=Ae:=by decide):PE X (.Name x pos) (K0 i):=by
 intro pI s Y H Q I h;obtain⟨v,e,h⟩:=h;obtain⟨m,hn,hl⟩:=I.loc;obtain⟨u,r,l⟩:=hl i x v hN e hv;have fin:EP X pI Y Q u s:=⟨v,H,I,r,h⟩;rcases l with ⟨hk,hm⟩|⟨hk,c,hc,ϟ⟩
 .exact L5 (wpAny_loadName_local I.ok.kind hk hn hm fin) hd
 .rcases hk with hk|hk
  .exact L5 (wpAny_loadName_cell I.ok.kind hk hc ϟ fin) hd
  .exact L5 (wpAny_loadName_free I.ok.kind hk hc ϟ fin ϒ) hd
theorem xi{i pos}:PE X (.Constant (.int i) j pos) (tC (.int i)):=λ_ _ _ H _ I h=>wpAny_Constant_int ⟨.int i,H,I.tok _,⟨_,rfl⟩,h⟩
theorem jX{b pos}:PE X (.Constant (.bool b) j pos) (tC (.bl b)):=λ_ _ _ H _ I h=>Constant_bool ⟨.bl b,H,I,rfl,h⟩
theorem xf{pos}:PE X (.Constant .none j pos) (tC .O):=λ_ _ _ H _ I h=>Constant_none ⟨.O,H,I,rfl,h⟩
theorem x6{x pos}:PE X (.Constant (.str x) j pos) (tC (.str x)):=λ_ _ _ H _ I h=>Calls.Constant_str ⟨.str x,H,I.tok _,⟨_,rfl⟩,h⟩
def Gl(X:Cx)(x:An):Prop:=X.env.kindOf x=Ab .globalImplicit
theorem au{E:Vq}{H:Hp}{Q:Vq}(I:Z6 X pI Y H s)(hg:Gl X x)(hm:X.mg x=Ab u)(h:Q u s)(hd:(x==("__debug__" : An))=Ae:=by decide):AD (model X.prog X.w) X.A (eval (.Name x pos) X.env) Q E s:=
 bH I.ok.kind hg (Calls.loadGlobal_global (by rw[I.ok.glob];exact I.mod.glob.keeps I.bk) hm h) hd
theorem HB{E:Vq}{H:Hp}{Q:Vq}(I:Z6 X pI Y H s)(hg:Gl X x)(hm:X.mg x=Af)(hv:Dt x=Ab u)(h:Q u s)(hn:x≠"__name__" := by decide)(hd:(x==("__debug__" : An))=Ae:=by decide):AD (model X.prog X.w) X.A (eval (.Name x pos) X.env) Q E s:=by
 obtain⟨mb,h1,h2⟩:=I.mod.blt;exact bH I.ok.kind hg (Calls.loadGlobal_builtin (by rw[I.ok.glob];exact I.mod.glob.keeps I.bk) hm (by rw[I.ok.blt];exact h1.keeps I.bk) ((h2 x hn).trans hv) h) hd
theorem b6(hg:Gl X x)(hm:X.mg x=Af)(hv:Dt x=Ab u)(r:Co v u)(hn:x≠"__name__" := by decide)(hd:(x==("__debug__" : An))=Ae:=by decide):PE X (.Name x pos) (tC v):=
 λ_ _ _ H _ I h=>HB I hg hm hv ⟨v,H,I,r,h⟩ hn hd
variable{rest:Ac Aq}
def nR(t u:TT):TT:=λY H Q=>t Y H λc H1=>if c=Aa then u Y H1 Q else Q Ae H1
def tOr(t u:TT):TT:=λY H Q=>t Y H λc H1=>if c=Aa then Q Aa H1 else u Y H1 Q
def nH(t:TT):TT:=λY H Q=>t Y H λc H1=>Q (!c) H1
theorem yH{a:Aq}{pos:Bf}{tA:TT}(ha:PT X a tA):PW X (.BoolOp .And [a] pos) tA:=by
 intro wh pI s Y H Q I h;refine isTrue_and (LT (ha pI s Y H Q I h) λc s1 e=>?_)
 cases c with
 |true=>exact isTrue_and_nil e
 |false=>exact e
theorem ql{a:Aq}{pos:Bf}{tA:TT}(ha:PT X a tA):PW X (.BoolOp .Or [a] pos) tA:=by
 intro wh pI s Y H Q I h;refine isTrue_or (LT (ha pI s Y H Q I h) λc s1 e=>?_)
 cases c with
 |false=>exact isTrue_or_nil e
 |true=>exact e
theorem qm{a b:Aq}{pos:Bf}{tA ĕ:TT}(ha:PT X a tA)(hb:PW X (.BoolOp .And (b::rest) pos) ĕ):PW X (.BoolOp .And (a::b::rest) pos) (nR tA ĕ):=by
 intro wh pI s Y H Q I h;refine isTrue_and (LT (ha pI s Y H _ I h) λc s1 ⟨H1,I1,q1⟩=>?_)
 cases c with
 |true=>exact hb wh pI s1 Y H1 Q I1 q1
 |false=>exact⟨H1,I1,q1⟩
theorem fS{a b:Aq}{pos:Bf}{tA ĕ:TT}(ha:PT X a tA)(hb:PW X (.BoolOp .Or (b::rest) pos) ĕ):PW X (.BoolOp .Or (a::b::rest) pos) (tOr tA ĕ):=by
 intro wh pI s Y H Q I h;refine isTrue_or (LT (ha pI s Y H _ I h) λc s1 ⟨H1,I1,q1⟩=>?_)
 cases c with
 |true=>exact⟨H1,I1,q1⟩
 |false=>exact hb wh pI s1 Y H1 Q I1 q1
theorem qo{a:Aq}{pos:Bf}{tA:TT}(ha:PT X a tA):PT X (.UnaryOp .Not a pos) (nH tA):=by
 intro pI s Y H Q I h;exact isTrue_not (ha pI s Y H (λc H1=>Q (!c) H1) I h)
def ZzN(ta tb:TE):TE:=λY H Q=>ta Y H λx H1=>∃ c,x=.bl c/\if c=Aa then tb Y H1 Q else Q (.bl Ae) H1
def nG(ta tb:TE):TE:=λY H Q=>ta Y H λx H1=>∃ c,x=.bl c/\if c=Aa then Q (.bl Aa) H1 else tb Y H1 Q
def ZzH(ta:TE):TE:=λY H Q=>ta Y H λx H1=>∃ c,x=.bl c/\Q (.bl (!c)) H1
theorem x8{a:Aq}{pos:Bf}{op}{t:TE}(h:PE X a t):PE X (.BoolOp op [a] pos) t:=λpI s Y H Q I hw=>BoolOp_one (h pI s Y H Q I hw)
theorem xk{a b:Aq}{ta tb:TE}{pos:Bf}(ha:PE X a ta)(hb:PE X (.BoolOp .And (b::rest) pos) tb):PE X (.BoolOp .And (a::b::rest) pos) (ZzN ta tb):=by
 intro pI s Y H Q I h;refine BoolOp_and (LT (ha pI s Y H _ I h) λv s1 ⟨x,H1,I1,r1,q1⟩=>?_)
 obtain⟨c,rfl,q1⟩:=q1;cases r1;refine Db ?_;cases c with
 |true=>exact hb pI s1 Y H1 Q I1 q1
 |false=>exact⟨.bl Ae,H1,I1,rfl,q1⟩
theorem gB{a b:Aq}{ta tb:TE}{pos:Bf}(ha:PE X a ta)(hb:PE X (.BoolOp .Or (b::rest) pos) tb):PE X (.BoolOp .Or (a::b::rest) pos) (nG ta tb):=by
 intro pI s Y H Q I h;refine BoolOp_or (LT (ha pI s Y H _ I h) λv s1 ⟨x,H1,I1,r1,q1⟩=>?_)
 obtain⟨c,rfl,q1⟩:=q1;cases r1;refine Db ?_;cases c with
 |false=>exact hb pI s1 Y H1 Q I1 q1
 |true=>exact⟨.bl Aa,H1,I1,rfl,q1⟩
theorem x9{a:Aq}{ta:TE}{pos:Bf}(ha:PE X a ta):PE X (.UnaryOp .Not a pos) (ZzH ta):=by
 intro pI s Y H Q I h;refine UnaryOp_ (LT (ha pI s Y H _ I h) λv s1 ⟨x,H1,I1,r1,q1⟩=>?_)
 obtain⟨c,rfl,q1⟩:=q1;cases r1;exact not_of (Db ⟨.bl (!c),H1,I1,rfl,q1⟩)
end
noncomputable def fI(K:Fg)(H:Hp)(a:Am)(xs:Ac V):Prop:=
 Rd H a (.L xs) \/
  ∃(o:Dr)(Z9:AO Aj)(n:Ag),K.lookup a=Ab o/\o.cls=.type "list"/\o.dict=Af/\o.data=.seq Z9 n/\Z9.size<=sizeLine/\Bl xs Z9.toList
noncomputable def ð(K:Fg)(H:Hp)(a:Am)(xs:Ac V):Prop:=
 Rd H a (.H xs) \/
  ∃(o:Dr)(Z9:AO Aj)(n:Ag),K.lookup a=Ab o/\o.cls=.type "tuple"/\o.data=.seq Z9 n/\Z9.size<=sizeLine/\Bl xs Z9.toList
noncomputable def mK:Aj->As V
 |.none=>Ab .O
 |.bool b=>Ab (.bl b)
 |.int i _=>Ab (.int i)
 |.str x _=>Ab (.str x)
 |.bytes b _=>Ab (.byt b)
 |.float b _=>Ab (.flt b)
 |.ref a=>Ab (.ref a)
 |.type n=>Ab (.ty n)
 |_=>Af
theorem Co.abs{x:V}(r:Co x u):mK u=Ab x:=by
 cases x with
 |O=>cases r;rfl
 |bl _=>cases r;rfl
 |int _=>obtain⟨t,rfl⟩:=r;rfl
 |str _=>obtain⟨t,rfl⟩:=r;rfl
 |byt _=>obtain⟨t,rfl⟩:=r;rfl
 |flt _=>obtain⟨t,rfl⟩:=r;rfl
 |ref _=>cases r;rfl
 |ty _=>cases r;rfl
theorem Co.inj{x:V}(r:Co x u)(q:Co y u):x=y:=BX (r.abs.symm.trans q.abs)
theorem Bl.inj:∀{xs ys:Ac V}{us:Ac Aj},Bl xs us->Bl ys us->xs=ys
 |_,_,_,.nil,.nil=>rfl
 |_,_,_,.cons r t,.cons r' t'=>by rw[r.inj r',Bl.inj t t']
section
variable{Y:St}
theorem fI.of{K:Fg}(h:H a=Ab (.L xs)):fI K H a xs:=.inl (.inl h)
theorem ð.of{K:Fg}(h:H a=Ab (.H xs)):ð K H a xs:=.inl (.inl h)
theorem Z6.list(I:Z6 X pI Y H s)(h:fI X.K H a xs):∃ Z9:Ac Aj,Bl xs Z9/\PlainL s.heap a Z9.toArray/\xs.length<=sizeLine:=by
 rcases h with h|⟨o,Z9,n,hk,hc,hd,hs,hz,r⟩
 .obtain⟨z,Z9,n,r,e⟩:=h.ok I.hok;exact⟨Z9,r,⟨_,n,e,rfl,rfl,rfl⟩,z⟩
 .refine⟨Z9.toList,r,⟨o,n,I.kIn a o hk,hc,hd,by simpa using hs⟩,?_⟩
  have e:=r.length;simp only[C1]at e;omega
theorem Z6.tuple(I:Z6 X pI Y H s)(h:ð X.K H a xs):∃ Z9:Ac Aj,Bl xs Z9/\K8 s.heap a Z9.toArray/\xs.length<=sizeLine:=by
 rcases h with h|⟨o,Z9,n,hk,hc,hs,hz,r⟩
 .obtain⟨z,Z9,r,p⟩:=h.ok I.hok;exact⟨Z9,r,p,z⟩
 .refine⟨Z9.toList,r,⟨o,I.kIn a o hk,hc,n,by simpa using hs⟩,?_⟩
  have e:=r.length;simp only[C1]at e;omega
theorem Z6.list_inj(I:Z6 X pI Y H s)(h:fI X.K H a xs)(h':fI X.K H a ys):xs=ys:=by
 obtain⟨Z9,r,⟨o,n,e,_,_,d⟩,_⟩:=I.list h;obtain⟨its',r',⟨o',n',e',_,_,d'⟩,_⟩:=I.list h';rw[e]at e';cases e';rw[d]at d'
 injection d' with d1 _
 have:Z9=its':=by simpa using congrArg ZH d1
 subst this;exact r.inj r'
theorem Z6.tuple_inj(I:Z6 X pI Y H s)(h:ð X.K H a xs)(h':ð X.K H a ys):xs=ys:=by
 obtain⟨Z9,r,⟨o,e,_,n,d⟩,_⟩:=I.tuple h;obtain⟨its',r',⟨o',e',_,n',d'⟩,_⟩:=I.tuple h';rw[e]at e';cases e';rw[d]at d'
 injection d' with d1 _
 have:Z9=its':=by simpa using congrArg ZH d1
 subst this;exact r.inj r'
end
noncomputable abbrev Cx.wish(X:Cx)(E:Vq):Cx:={X with xe:=E}
noncomputable abbrev Cx.nox(X:Cx):Cx:=X.wish λ_ _=>BV
theorem Cx.Ok.wish(ok:X.Ok)(E:Vq):(X.wish E).Ok:=
 ⟨ok.mod,ok.kind,ok.glob,ok.blt,ok.above,ok.inj,ok.has,ok.cab,ok.hd,ok.frames,ok.stk,ok.exf,ok.bs,ok.bsz,ok.noex,ok.exfs,ok.funs,ok.frf⟩
theorem Cx.Ok.unwish(ok:(X.wish E).Ok):X.Ok:=
 ⟨ok.mod,ok.kind,ok.glob,ok.blt,ok.above,ok.inj,ok.has,ok.cab,ok.hd,ok.frames,ok.stk,ok.exf,ok.bs,ok.bsz,ok.noex,ok.exfs,ok.funs,ok.frf⟩
section
variable{Y:St}
theorem Z6.wish(I:Z6 X pI Y H s)(E:Vq):Z6 (X.wish E) pI Y H s:=⟨I.ok.wish E,I.os,I.bare,I.base,I.loc,I.cell,I.free,I.freeC,I.pin,I.hok,I.len⟩
theorem Z6.unwish(I:Z6 (X.wish E) pI Y H s):Z6 X pI Y H s:=⟨I.ok.unwish,I.os,I.bare,I.base,I.loc,I.cell,I.free,I.freeC,I.pin,I.hok,I.len⟩
theorem SP.unwish(h:SP (X.wish E) pI D f s'):SP X pI D f s':=by
 cases f with
 |next=>obtain⟨Y',H',I,q⟩:=h;exact⟨Y',H',I.unwish,q⟩
 |brk=>obtain⟨Y',H',I,q⟩:=h;exact⟨Y',H',I.unwish,q⟩
 |cont=>obtain⟨Y',H',I,q⟩:=h;exact⟨Y',H',I.unwish,q⟩
 |ret u=>obtain⟨v,Y',H',I,r,q⟩:=h;exact⟨v,Y',H',I.unwish,r,q⟩
theorem È.nox{st:Ac BQ}(h:È X.nox st t):È X st t:=λpI s Y H D I hw=>
 C3 (h pI s Y H D (I.wish _) hw) (λ_ _ q=>q.unwish) λ_ _ z=>EC z
end
def ZzI:TS:=λD Y H=>D.nx Y H
def mB(t u:TS):TS:=λD Y H=>t {D with nx:=u D} Y H
theorem xC:È X [] ZzI:=λ_ _ Y H _ I h=>fK ⟨Y,H,I,h⟩
theorem uP{X:Cx}{st:BQ}{rest:Ac BQ}{t u:TS}(h1:PS X st t)(h2:È X rest u):È X (st::rest) (mB t u):=by
 intro pI s Y H D I h;refine wpAny_execs_cons (LT (h1 pI s Y H {D with nx:=u D} I h) λf s1 q=>?_)
 cases f with
 |next=>
  obtain⟨Y',H',I',q⟩:=q;exact h2 pI s1 Y' H' D I' q
 |ret v=>exact q
 |brk=>exact q
 |cont=>exact q
theorem Z6.quiet(I:Z6 X pI Y H s):interactive X.env=Ae:=by simp[interactive,I.ok.kind]
def ZzK(te:TE):TS:=λD Y H=>te Y H λ_ H1=>D.nx Y H1
theorem SU{X:Cx}{e:Aq}{te:TE}{pos:Bf}(he:PE X e te)(hs:EL e Af pos.line X.env=pure Ae:=by rfl):PS X (.Expr e pos) (ZzK te):=by
 intro pI s Y H D I h;exact wpAny_Expr_any (LT (he pI s Y H _ I h) λv s1 ⟨x,H1,I1,r1,q1⟩=>⟨Y,H1,I1,q1⟩) I.quiet hs
def mC(te:TE):TS:=λD Y H=>te Y H D.rt
theorem TD(he:PE X e te):PS X (.Return (Ab e) pos) (mC te):=by
 intro pI s Y H D I h;exact wpAny_Return_some (LT (he pI s Y H _ I h) λv s1 ⟨x,H1,I1,r1,q1⟩=>⟨x,Y,H1,I1,r1,q1⟩)
def nL(c:TT)(t u:TS):TS:=λD Y H=>c Y H λb H1=>if b=Aa then t D Y H1 else u D Y H1
theorem fW{X:Cx}{t u:TS}{pos:Bf}{c:Aq}{a b:Ac BQ}{tc:TT}(hc:PT X c tc)(ha:È X a t)(hb:È X b u):PS X (.If c a b pos) (nL tc t u):=by
 intro pI s Y H D I h;refine wpAny_If (LT (hc pI s Y H _ I h) λd s1 ⟨H1,I1,q1⟩=>?_)
 cases d with
 |true=>exact ha pI s1 Y H1 D I1 q1
 |false=>exact hb pI s1 Y H1 D I1 q1
abbrev TG:=V->St->Hp->(St->Hp->Prop)->Prop
abbrev TGs:=Ac V->St->Hp->(St->Hp->Prop)->Prop
noncomputable def PG(X:Cx)(target:Aq)(t:TG):Prop:=
 ∀(pI:Pn)(s:At)(Y:St)(H:Hp)(v:V)(u:Aj)(Q:St->Hp->Prop),Z6 X pI Y H s->Co v u->t v Y H Q ->
  AD (model X.prog X.w) X.A (assign target X.env u) (λ_ s'=>∃ Y' H',Z6 X pI Y' H' s'/\Q Y' H') X.xe s
noncomputable def Ġ(X:Cx)(ts:Ac Aq)(t:TGs):Prop:=
 ∀(pI:Pn)(s:At)(Y:St)(H:Hp)(vs:Ac V)(us:Ac Aj)(Q:St->Hp->Prop),Z6 X pI Y H s->Bl vs us->t vs Y H Q ->
  AD (model X.prog X.w) X.A (assignInOrder ((DS ts X.env).map (·.2)) us) (λ_ s'=>∃ Y' H',Z6 X pI Y' H' s'/\Q Y' H') X.xe s
abbrev QL:=V->V->V->Hp->(Hp->Prop)->Prop
noncomputable def UY(X:Cx)(t:QL):Prop:=
 ∀(pI:Pn)(s:At)(Y:St)(H:Hp)(o i v:V)(ov iv u:Aj)(Q:Hp->Prop),Z6 X pI Y H s->Co o ov->Co i iv->Co v u->t o i v H Q ->
  AD (model X.prog X.w) X.A (setItem ov iv u) (λ_ s'=>∃ H',Z6 X pI Y H' s'/\Q H') X.xe s
section
variable{X:Cx}{pos:Bf}
def Gm(i:Ag):TG:=λv Y H Q=>Q (Y.set i (Ab v)) H
theorem NG(hN:X.N.Nodup)(hi:X.N[i]?=Ab x)(hx:ĺ X.env.scope x)(hf:X.fn x=Aa\/X.env.scope.names.lookup x=Ab .local:=by first|exact .inl rfl|exact .inr rfl|assumption):PG X (.Name x pos) (Gm i):=by
 intro pI s Y H v u Q I r h;exact fG (Wx I hN hi hx r (λs' I'=>⟨_,H,I',h⟩) hf)
def Jz:TGs:=λvs Y H Q=>vs=[]/\Q Y H
def Jv(t:TG)(u:TGs):TGs:=λvs Y H Q=>∃ v r,vs=v::r/\t v Y H λY' H'=>u r Y' H' Q
theorem W1:Ġ X [] Jz:=by
 intro pI s Y H vs us Q I r h;obtain⟨e,h⟩:=h;subst e;cases r;exact assignInOrder_nil ⟨Y,H,I,h⟩
theorem Wi{t:TG}{u:TGs}(h1:PG X e t)(h2:Ġ X es u)(hs:(DS (e::es) X.env).map (·.2)=assign e X.env::(DS es X.env).map (·.2):=by rfl):Ġ X (e::es) (Jv t u):=by
 intro pI s Y H vs us Q I r h;obtain⟨v,vr,e1,h⟩:=h;subst e1;cases r with
 |cons r rr=>
  rw[hs];refine assignInOrder_cons (LT (h1 pI s Y H _ _ _ I r h) λ_ s1 ⟨Y1,H1,I1,q1⟩=>?_)
  exact h2 pI s1 Y1 H1 _ _ Q I1 rr q1
def Na(K:Fg)(n:Ag)(t:TGs):TG:=λv Y H Q=>∃ a xs,v=.ref a/\ð K H a xs/\xs.length=n/\t xs Y H Q
theorem Yy{t:TGs}(hc:X.calm=Aa)(h:Ġ X es t)(hn:(DS es X.env).length=n:=by rfl)(Ϡ:(DS es X.env).findIdx? (·.1)=Af:=by rfl):PG X (.Tuple es k pos) (Na X.K n t):=by
 intro pI s Y H v u Q I r hw;obtain⟨a,xs,e1,hq,hl,hw⟩:=hw;subst e1;cases r;obtain⟨Z9,rv,ht,hz⟩:=I.tuple hq;refine assign_Tuple_tuple (I.ok.hd hc) ht (by simp[hn,<-hl,rv.length]) Ϡ λh' hx=>?_
 have I1:Z6 X pI Y H {s with heap:=h'}:=I.kept (t':=s.toks) λb o e=>hx b o (AZ (AE e)) e
 exact h pI _ Y H xs _ Q I1 (by simpa using rv) hw
def mU(to ti:TE)(t:QL):TG:=λv Y H Q=>to Y H λo H1=>ti Y H1 λi H2=>t o i v H2 λH3=>Q Y H3
theorem wv{o i:Aq}{to ti:TE}{t:QL}(ho:PE X o to)(hi:PE X i ti)(hs:UY X t)(ha:∀ v,assign (.Subscript o i pos) X.env v=(do
   let ov <-holding [v] (eval o X.env)
   let iv <-holding [v,ov] (eval i X.env)
   Lf pos
   holding [v,ov,iv] (setItem ov iv v)
   release [v,ov,iv] []):=by intro _;rfl):PG X (.Subscript o i pos) (mU to ti t):=by
 intro pI s Y H v u Q I r h;rw[ha];refine Ah (CG (LT (ho pI s Y H _ I h) λov s1 ⟨x,H1,I1,r1,q1⟩=>?_))
 refine Ah (CG (LT (hi pI s1 Y H1 _ I1 q1) λiv s2 ⟨y,H2,I2,r2,q2⟩=>?_))
 refine Ah (Kn (Ah (CG (LT (hs pI s2 Y H2 x y v ov iv u _ I2 r1 r2 r q2) λ_ s3 ⟨H3,I3,q3⟩=>?_))))
 exact wpAny_release ⟨Y,H3,I3,q3⟩
def Qn(te:TE)(g:TG):TS:=λD Y H=>te Y H λx H1=>g x Y H1 D.nx
theorem Yu{g:TG}(he:PE X e te)(hg:PG X tg g)(hs:HW [tg] e pos.line X.env=pure Ae:=by rfl)(hw:GN [tg] e X.env=pure Af:=by rfl)(h1:(DS [tg] X.env).map (·.2)=[assign tg X.env]:=by rfl):PS X (.Assign [tg] e pos) (Qn te g):=by
 intro pI s Y H D I h;refine wpAny_Assign_stores (LT (he pI s Y H _ I h) λv s1 ⟨x,H1,I1,r1,q1⟩=>?_) hs hw
 rw[h1];exact LT (hg pI s1 Y H1 x v _ I1 r1 q1) λ_ s2 q=>q
theorem qr{pos':Bf}(hN:X.N.Nodup)(hi:X.N[i]?=Ab x)(hx:ĺ X.env.scope x)(he:PE X e te)(hs:EL e (Ab (.Name x pos')) pos.line X.env=pure Ae:=by rfl)(hf:X.fn x=Aa\/X.env.scope.names.lookup x=Ab .local:=by first|exact .inl rfl|exact .inr rfl|assumption):PS X (.Assign [.Name x pos'] e pos) (Qn te (Gm i)):=by
 intro pI s Y H D I h;refine wpAny_Assign_Name (LT (he pI s Y H _ I h) λv s1 ⟨y,H1,I1,r1,q1⟩=>?_) hs
 exact Wx I1 hN hi hx r1 (λs2 I2=>⟨_,H1,I2,q1⟩) hf
end
structure It where
 go:Ag->Hp->Prop
 yld:Ag->Hp->V->Hp->Prop
 stop:Ag->Hp->Prop
noncomputable def HJ(X:Cx)(pI:Pn)(H:Hp)(b:Am):Prop:=
 H b=Af/\b≠X.env.locals/\b∉X.fs/\(b∈X.ex\/X.s₀.heap.objs.size<=b)/\(∀ x c,X.env.cells.lookup x=Ab c->c≠b)/\∀ p∈X.pn++pI,p.1≠b
theorem Z6.fpOk(I:Z6 X pI Y H s)(hb:s.heap.objs.size<=b)(hn:H' b=Af):HJ X pI H' b:=by
 refine⟨hn,Cm (AF I.lt hb),I.nofs hb,.inr (BZ I.sz hb),λx c e z=>?_,λp hp z=>?_⟩
 .obtain⟨v,q⟩:=I.cell x c e;exact absurd (AF q.lt (by rw[z];exact hb)) (BK _)
 .exact absurd (AF (AE (I.pin p hp).1) (by rw[z];exact hb)) (BK _)
structure Ϫ (P:A6) (w:AM) (K:Fg) (tg:Aq) (J:It) (fp:Ac Am) (it:Am) (tn:Ag->AS->Prop):Prop where
 mem:it∈fp
 obj:∀ i h,tn i h->∀ b∈fp,∃ o,h.get? b=Ab o/\∀ v,o.data≠.cell v
 keep:∀ i h h',tn i h->(∀ b∈fp,∀ o,h.get? b=Ab o->h'.get? b=Ab o)->tn i h'
 item:∀(X:Cx),X.prog=P->X.w=w->X.K=K->X.calm=Aa->∀(i:Ag)(pI:Pn)(s:At)(Y:St)(H:Hp)(E:Vq),Z6 X pI Y H s->(∀ b∈fp,HJ X pI H b)->tn i s.heap->J.go i H ->
  AD (model P w) X.A (Ek (.ref it)) (λr s1=>∃ u,r=Ab u /\
   AD (model P w) X.A (Hh tg (.ref it) u) (λ_ s2=>∃ x H',Z6 X pI Y H' s2/\Co x u/\J.yld i H x H'/\tn (i+1) s2.heap/\∀ b∈fp,H' b=Af) E s1) E s
 done:∀(X:Cx),X.prog=P->X.w=w->X.K=K->X.calm=Aa->∀(i:Ag)(pI:Pn)(s:At)(Y:St)(H:Hp)(E:Vq),Z6 X pI Y H s->(∀ b∈fp,HJ X pI H b)->tn i s.heap->J.stop i H ->
  AD (model P w) X.A (Ek (.ref it)) (λr s1=>r=Af/\Z6 X pI Y H s1) E s
 self:∀(A:Bm)(i:Ag)(s:At)(Q:Vq)(E:Vq),tn i s.heap->Q (.ref it) s->AD (model P w) A (KC (.ref it)) Q E s
abbrev TI:=St->Hp->(It->Hp->Prop)->Prop
noncomputable def PIE(X:Cx)(pI:Pn)(Y:St)(tg:Aq)(R:It->Hp->Prop)(itv:Aj)(s2:At):Prop:=
 ∃(it:Am)(fp:Ac Am)(tn:Ag->AS->Prop)(J:It)(H':Hp),itv=.ref it/\Z6 X pI Y H' s2/\Ϫ X.prog X.w X.K tg J fp it tn/\tn 0 s2.heap/\(∀ b∈fp,HJ X pI H' b)/\R J H'
noncomputable def PI(X:Cx)(tg iter:Aq)(wi:TI):Prop:=
 ∀(pI:Pn)(s:At)(Y:St)(H:Hp)(R:It->Hp->Prop),Z6 X pI Y H s->wi Y H R ->
  AD (model X.prog X.w) X.A (eval iter X.env) (λv s1=>AD (model X.prog X.w) X.A (KC v) (PIE X pI Y tg R) X.xe s1) X.xe s
theorem Ui{E:Vq}{n:Du}(ho:s.heap.get? it=Ab o)(hc:o.cls=.type n)(hd:o.data=.fields vs)(hn:["enumerate", "zip", "dict_itemiterator", "dict_reverseitemiterator", "odict_iterator", "itertools.zip_longest", "itertools.pairwise"].contains n=Ae)(hQ:Q () s):AD M A (Hh tg (.ref it) u) Q E s:=by
  unfold Hh;cases tg<;>first
    |exact Az hQ
    | (cases u<;>first
        |exact Az hQ
        | (refine Ah (wpAny_load ho ?_)
           rw[hc,hd];show AD M A (if (["enumerate", "zip", "dict_itemiterator", "dict_reverseitemiterator", "odict_iterator", "itertools.zip_longest", "itertools.pairwise"].contains n&&vs[0]? == Ab (CJ _))=Aa then _ else _) Q E s
           rw[AH (by intro h;rw[hn,Bool.false_and]at h;cases h)]
           exact Az hQ))
noncomputable def Itl(K:Fg)(a:Am):It:=
 ⟨λi H=>∃ xs x,fI K H a xs/\xs[i]?=Ab x,λi H x H'=>H'=H/\∀ xs,fI K H a xs->xs[i]?=Ab x,λi H=>∃ xs,fI K H a xs/\xs.length<=i⟩
noncomputable def Itt(K:Fg)(a:Am):It:=
 ⟨λi H=>∃ xs x,ð K H a xs/\xs[i]?=Ab x,λi H x H'=>H'=H/\∀ xs,ð K H a xs->xs[i]?=Ab x,λi H=>∃ xs,ð K H a xs/\xs.length<=i⟩
noncomputable def Itr(lo:Ad)(n:Ag):It:=⟨λi _=>i<n,λi H x H'=>H'=H/\x=.int (lo+i),λi _=>n<=i⟩
theorem rC{K:Fg}(a it:Am):Ϫ P w K tg (Itl K a) [it] it (λi h=>h.IsListIter it a i) where
  mem:=by simp
  obj:=λi h st b hb=>by
    have e:b=it:=by simpa using hb
    subst e;obtain⟨o,e,c,d⟩:=st;exact⟨o,e,λv z=>by rw[d]at z;cases z⟩
  keep:=λi h h' st k=>st.at λo e=>k it (by simp) o e
  item:=by
    intro X hP hw hK hc i pI s Y H E I hf st hg;subst hP hw hK;obtain⟨xs,x,hq,hx⟩:=hg;obtain⟨Z9,rv,p,hz⟩:=I.list hq;obtain⟨u,hu,ru⟩:=rv.get hx;obtain⟨f0,f1,f2,f3,f4,f5⟩:=hf it (by simp)
    refine wpAny_pyNext_list_item st p.isList (x:=u) (by simpa using hu) λh' ÿ sb=>?_
    have I1:Z6 X pI Y H {s with heap:=h'}:=I.turned (t':=s.toks) (λb o hb e=>(sb.2 b hb).trans e) f0 f1 f3 f4 f5
    obtain⟨o,e,c,d⟩:=id ÿ;exact⟨u,rfl,Ui (s:={s with heap:=h'}) e c d (by decide) ⟨x,H,I1,ru,⟨rfl,λys hy=>by rw[I.list_inj hy hq];exact hx⟩,ÿ,λb hb=>(hf b hb).1⟩⟩
  done:=by
    intro X hP hw hK hc i pI s Y H E I hf st hg;subst hP hw hK;obtain⟨xs,hq,hx⟩:=hg;obtain⟨Z9,rv,p,hz⟩:=I.list hq;obtain⟨f0,f1,f2,f3,f4,f5⟩:=hf it (by simp)
    have hl:=rv.length;exact wpAny_pyNext_list_end (I.ok.hd hc) st p.isList (by simp;omega) λh' eb=>⟨rfl,I.turned (t':=s.toks) (λb o hb e=>eb b o hb e) f0 f1 f3 f4 f5⟩
  self:=λ_ _ _ _ _ st h=>wpAny_pyIter_listiter st h
theorem pZ{K:Fg}(a it:Am):Ϫ P w K tg (Itt K a) [it] it (λi h=>h.IsTupleIter it a i) where
  mem:=by simp
  obj:=λi h st b hb=>by
    have e:b=it:=by simpa using hb
    subst e;obtain⟨o,e,c,d⟩:=st;exact⟨o,e,λv z=>by rw[d]at z;cases z⟩
  keep:=λi h h' st k=>st.at λo e=>k it (by simp) o e
  item:=by
    intro X hP hw hK hc i pI s Y H E I hf st hg;subst hP hw hK;obtain⟨xs,x,hq,hx⟩:=hg;obtain⟨Z9,rv,p,hz⟩:=I.tuple hq;obtain⟨u,hu,ru⟩:=rv.get hx;obtain⟨f0,f1,f2,f3,f4,f5⟩:=hf it (by simp)
    refine wpAny_pyNext_tuple_item st (show s.heap.IsTuple a Z9.toArray from p) (x:=u) (by simpa using hu) λh' ÿ sb=>?_
    have I1:Z6 X pI Y H {s with heap:=h'}:=I.turned (t':=s.toks) (λb o hb e=>(sb.2 b hb).trans e) f0 f1 f3 f4 f5
    obtain⟨o,e,c,d⟩:=id ÿ;exact⟨u,rfl,Ui (s:={s with heap:=h'}) e c d (by decide) ⟨x,H,I1,ru,⟨rfl,λys hy=>by rw[I.tuple_inj hy hq];exact hx⟩,ÿ,λb hb=>(hf b hb).1⟩⟩
  done:=by
    intro X hP hw hK hc i pI s Y H E I hf st hg;subst hP hw hK;obtain⟨xs,hq,hx⟩:=hg;obtain⟨Z9,rv,p,hz⟩:=I.tuple hq;obtain⟨f0,f1,f2,f3,f4,f5⟩:=hf it (by simp)
    have hl:=rv.length;exact wpAny_pyNext_tuple_end (I.ok.hd hc) st (show s.heap.IsTuple a Z9.toArray from p) (by simp;omega) λh' eb=>⟨rfl,I.turned (t':=s.toks) (λb o hb e=>eb b o hb e) f0 f1 f3 f4 f5⟩
  self:=λ_ _ _ _ _ st h=>wpAny_pyIter_tupleiter st h
theorem qA{K:Fg}(it:Am)(lo:Ad)(n:Ag):Ϫ P w K tg (Itr lo n) [it] it (λi h=>IsRangeIter h it (lo+(i:Ag)*1) ((n:Ad)-(i:Ag)) 1) where
  mem:=by simp
  obj:=λi h st b hb=>by
    have e:b=it:=by simpa using hb
    subst e;exact⟨_,st,λv z=>by
      have z':Data.fields _=Nf v:=z;cases z'⟩
  keep:=λi h h' st k=>k it (by simp) _ st
  item:=by
    intro X hP hw hK hc i pI s Y H E I hf st hg;subst hP hw hK;obtain⟨f0,f1,f2,f3,f4,f5⟩:=hf it (by simp)
    have W:=Walks.range (prog:=X.prog) (w:=X.w) (I.ok.hd hc) it lo 1 n;refine W.item i s _ _ hg st λv h' tk hv ÿ kk=>?_
    obtain⟨t,rfl⟩:=hv;have I1:Z6 X pI Y H {s with heap:=h',toks:=tk}:=I.turned (λb o hb e=>kk b o (by simpa using hb) e) f0 f1 f3 f4 f5
    refine⟨_,rfl,Ui (s:={s with heap:=h',toks:=tk}) (n := "range_iterator") ÿ rfl rfl (by decide) ⟨.int (lo+i),H,I1,⟨t,?_⟩,⟨rfl,rfl⟩,ÿ,λb hb=>(hf b hb).1⟩⟩
    rw[DK]
  done:=by
    intro X hP hw hK hc i pI s Y H E I hf st hg;subst hP hw hK;obtain⟨f0,f1,f2,f3,f4,f5⟩:=hf it (by simp)
    exact wpAny_pyNext_range_end (I.ok.hd hc) st (by have:n<=i:=hg;omega) λh' eb=>⟨rfl,I.turned (t':=s.toks) (λb o hb e=>eb b o hb e) f0 f1 f3 f4 f5⟩
  self:=λ_ _ _ _ _ st h=>wpAny_pyIter_rangeiter st h
section
variable{X:Cx}{tg:Aq}
theorem WC{E:Vq}{lo:Ad}{u v:Ea}(I:Z6 X pI Y H s)(h1:-(2 ^ 62)<=lo)(h2:lo<2 ^ 62)(h3:-(2 ^ 62)<=hi)(h4:hi<2 ^ 62)(q:R (Itr lo (hi-lo).toNat) H):AD (model X.prog X.w) X.A (KC (.ref s.heap.objs.size)) (PIE X pI Y tg R) E { s with heap:=s.heap.push { cls:=.type "range",data:=.fields #[.int lo t,.int hi u,.int 1 v] },toks:=tk }:=by
 refine wpAny_pyIter_range (IsRange.new ..) (small_one h1 h2 h3 h4) ?_;have I1:Z6 X pI Y H { s with heap:=s.heap.push { cls:=.type "range",data:=.fields #[.int lo t,.int hi u,.int 1 v] },toks:=tk }:=I.kept λb o e=>Ar _ e
 refine⟨(s.heap.push { cls:=.type "range",data:=.fields #[.int lo t,.int hi u,.int 1 v] }).objs.size,[(s.heap.push { cls:=.type "range",data:=.fields #[.int lo t,.int hi u,.int 1 v] }).objs.size],_,_,H,rfl,
  I1.kept (t':=tk) λb o e=>Ar _ e,qA _ lo (hi-lo).toNat,?_,λb hb=>?_,q⟩
 .have e1:lo+((0:Ag):Ad)*1=lo:=by simp
  have e2:(((hi-lo).toNat:Ag):Ad)-((0:Ag):Ad)=Builtin.Range.rangeSize lo hi 1:=by rw[rangeSize_one];split<;>omega
  show IsRangeIter _ _ (lo+((0:Ag):Ad)*1) ((((hi-lo).toNat:Ag):Ad)-((0:Ag):Ad)) 1;rw[e1,e2];exact AB _ rfl
 .have e:b=(s.heap.push { cls:=.type "range",data:=.fields #[.int lo t,.int hi u,.int 1 v] }).objs.size:=by simpa using hb
  subst e;exact I1.fpOk (AT _) (I1.hok.fresh (AT _))
def jT(ta:TA):TI:=λY H R=>ta Y H λvs H1=>∃ j:Ad,vs=[.int j]/\-(2 ^ 62)<=j/\j<2 ^ 62/\R (Itr 0 j.toNat) H1
def jS(ta:TA):TI:=λY H R=>ta Y H λvs H1=>∃ i j:Ad,vs=[.int i,.int j]/\(-(2 ^ 62)<=i/\i<2 ^ 62/\-(2 ^ 62)<=j/\j<2 ^ 62)/\R (Itr i (j-i).toNat) H1
theorem qK{a:Aq}(hg:Gl X "range")(hm:X.mg "range" = Af)(ha:PA X [a] ta)(hs:AN [a] X.env=[(Ae,eval a X.env)]:=by rfl):PI X tg (.Call (.Name "range" p) [a] [] pos) (jT ta):=by
 intro pI s Y H R I h;refine Iq (HB I hg hm boot_range (B7 (LT (ha pos pI s Y H _ I h) λus s1 ⟨vs,H1,I1,r1,q1⟩=>?_) hs rfl))
 obtain⟨j,e,q1,q2,q⟩:=q1;subst e;cases r1 with
 |cons r rr=>
  cases rr;obtain⟨t,rfl⟩:=r;exact call_range_1 (WC I1 (by omega) (by omega) q1 q2 (by simpa using q))
theorem qJ{a b:Aq}(hg:Gl X "range")(hm:X.mg "range" = Af)(ha:PA X [a,b] ta)(hs:AN [a,b] X.env=[(Ae,eval a X.env),(Ae,eval b X.env)]:=by rfl)(Ð:AN [b] X.env=[(Ae,eval b X.env)]:=by rfl):
  PI X tg (.Call (.Name "range" p) [a,b] [] pos) (jS ta):=by
 intro pI s Y H R I h;refine Iq (HB I hg hm boot_range (B7 (LT (ha pos pI s Y H _ I h) λus s1 ⟨vs,H1,I1,r1,q1⟩=>?_) (by rw[hs,Ð]) (by rw[Ð];rfl)))
 obtain⟨i,j,e,⟨q1,q2,q3,q4⟩,q⟩:=q1;subst e;cases r1 with
 |cons r rr=>
  cases rr with
  |cons r' rr=>
   cases rr;obtain⟨t,rfl⟩:=r;obtain⟨t',rfl⟩:=r';exact call_range_2 (WC I1 q1 q2 q3 q4 q)
def nN(wi:TI)(g:TG)(tb:TS):TS:=λD Y H=>wi Y H λJ H1=>∃ W:Ag->Ag->St->Hp->Prop,(∃ m,W 0 m Y H1)/\∀ i m Y H,W i m Y H ->
 (J.stop i H/\D.nx Y H)\/(J.go i H/\∃ N:St->Hp->Prop,(∀ Y' H',N Y' H'->∃ m',m'<m/\W (i+1) m' Y' H')/\∀ x H',J.yld i H x H'->g x Y H' λY2 H2=>tb {D with nx:=N,ct:=N,bk:=D.nx} Y2 H2)
noncomputable def LF(fp:Ac Am)(h:AS):Pn:=fp.filterMap λb=>(h.get? b).map λo=>(b,o)
theorem OQ(hb:b∈fp)(e:h.get? b=Ab o):(b,o)∈LF fp h:=List.mem_filterMap.mpr ⟨b,hb,by rw[e];rfl⟩
theorem V7{p:Am×Dr}(hp:p∈LF fp h):p.1∈fp/\h.get? p.1=Ab p.2:=by
 obtain⟨b,hb,e⟩:=List.mem_filterMap.mp hp;cases q:h.get? b with
 |none=>rw[q]at e;cases e
 |some o=>
  rw[q]at e;have e':(b,o)=p:=BX e;subst e';exact⟨hb,q⟩
theorem Z6.pinned(I:Z6 X pI Y H s)(hf:∀ b∈fp,HJ X pI H b)(ho:∀ b∈fp,∃ o,s.heap.get? b=Ab o/\∀ v,o.data≠.cell v):Z6 X (pI++LF fp s.heap) Y H s:=
 I.pins_of λp hp=>(C5.mp hp).elim (λz=>I.pin p (BH _ z)) λz=>by
  obtain⟨hb,e⟩:=V7 z;obtain⟨f0,f1,f2,_⟩:=hf p.1 hb;obtain⟨o,e',d⟩:=ho p.1 hb;rw[e]at e';cases e';exact⟨e,f0,f1,f2,d⟩
theorem Z6.unpinned{pI:Pn}(I:Z6 X (pI++pl) Y H s):Z6 X pI Y H s:=I.pins_of λp hp=>I.pin p (BH _ (EE _ hp))
theorem wn{body:Ac BQ}{iter:Aq}{wi:TI}{g:TG}{tb:TS}(hp:Jf (model X.prog X.w) X.A X.env X.xe)(hc:X.calm=Aa)(hi:PI X tg iter wi)(hg:PG X tg g)(hb:È X body tb)(hs:∀ x,DF iter X.env x=pure x:=by intro _;rfl):PS X (.For tg iter body [] pos) (nN wi g tb):=by
 intro pI s Y H D I h;refine wpAny_For (LT (hi pI s Y H _ I h) λv s1 h1=>LT h1 λitv s2 h2=>?_) hs
 obtain⟨it,fp,tn,J,H2,e,I2,T,Ĕ,f2,W,⟨m0,w0⟩,turn⟩:=h2;subst e
 have Ŗ:∀{H':Hp},(∀ b∈fp,H' b=Af)->∀ b∈fp,HJ X pI H' b:=λhn b hb=>⟨hn b hb,(f2 b hb).2⟩
 refine codeAny_forLoop_any (λn s'=>∃ i Y' H',Z6 X pI Y' H' s'/\tn i s'.heap/\(∀ b∈fp,H' b=Af)/\W i n Y' H') ?_ m0 ⟨0,Y,H2,I2,Ĕ,λb hb=>(f2 b hb).1,w0⟩
 rintro n s3 ⟨i,Y3,H3,I3,st3,fr3,w3⟩;rcases turn i n Y3 H3 w3 with ⟨stop,qn⟩|⟨go,N,hN,step⟩
 .refine Ga hp (LT (T.done X rfl rfl rfl hc i pI s3 Y3 H3 X.xe I3 (Ŗ fr3) st3 stop) λr s4 ⟨hr,I4⟩=>?_)
  subst hr;exact fK ⟨Y3,H3,I4,qn⟩
 .refine Ga hp (LT (T.item X rfl rfl rfl hc i pI s3 Y3 H3 X.xe I3 (Ŗ fr3) st3 go) λr s4 ⟨u,hr,h4⟩=>?_)
  subst hr;refine Ga hp (LT h4 λ_ s5 ⟨x,H5,I5,r5,y5,ŕ,fr5⟩=>?_)
  have I5':=I5.pinned (Ŗ fr5) (T.obj _ _ ŕ);refine Ga hp (LT (hg _ s5 Y3 H5 x u _ I5' r5 (step x H5 y5)) λ_ s6 ⟨Y6,H6,I6,q6⟩=>?_)
  refine Ga hp (LT (hb _ s6 Y6 H6 _ I6 q6) λf s7 q7=>?_)
  have again:∀{Y7:St}{H7:Hp},Z6 X (pI++LF fp s5.heap) Y7 H7 s7->N Y7 H7->∃ m,m<n/\∃ i Y' H',Z6 X pI Y' H' s7/\tn i s7.heap/\(∀ b∈fp,H' b=Af)/\W i m Y' H':=λ{Y7 H7} I7 n7=>by
   obtain⟨m',hm,w7⟩:=hN Y7 H7 n7;refine⟨m',hm,i+1,Y7,H7,I7.unpinned,T.keep _ _ _ ŕ λb hb o e=>(I7.pin (b,o) (BH _ (BH _ (OQ hb e)))).1,λb hb=>?_,w7⟩
   obtain⟨o,e,d⟩:=T.obj _ _ ŕ b hb;exact(I7.pin (b,o) (BH _ (BH _ (OQ hb e)))).2.1
  cases f with
  |next=>obtain⟨Y7,H7,I7,n7⟩:=q7;exact again I7 n7
  |cont=>obtain⟨Y7,H7,I7,n7⟩:=q7;exact again I7 n7
  |brk=>obtain⟨Y7,H7,I7,q7⟩:=q7;exact⟨Y7,H7,I7.unpinned,q7⟩
  |ret v=>obtain⟨x7,Y7,H7,I7,r7,q7⟩:=q7;exact⟨x7,Y7,H7,I7.unpinned,r7,q7⟩
end
abbrev R2:=V->V->Hp->VK->Prop
variable{r:R2}
noncomputable def ê(X:Cx)(f:Aj->Aj->HU Aj)(r:R2):Prop:=
 ∀(pI:Pn)(s:At)(Y:St)(H:Hp)(x y:V)(v u:Aj)(Q:VK),Z6 X pI Y H s->Co x v->Co y u->r x y H Q ->
  AD (model X.prog X.w) X.A (f v u) (EP X pI Y Q) X.xe s
noncomputable def UnR(X:Cx)(f:Aj->HU Aj)(r:V->Hp->VK->Prop):Prop:=
 ∀(pI:Pn)(s:At)(Y:St)(H:Hp)(x:V)(v:Aj)(Q:VK),Z6 X pI Y H s->Co x v->r x H Q ->
  AD (model X.prog X.w) X.A (f v) (EP X pI Y Q) X.xe s
noncomputable def KU(X:Cx)(f:Aj)(r:Ac V->Hp->VK->Prop):Prop:=
 ∀(pI:Pn)(s:At)(Y:St)(H:Hp)(xs:Ac V)(us:Ac Aj)(Q:VK),Z6 X pI Y H s->Bl xs us->r xs H Q ->
  AD (model X.prog X.w) X.A (call f us) (EP X pI Y Q) X.xe s
noncomputable def oF(X:Cx)(r:V->Hp->(Al->Hp->Prop)->Prop):Prop:=
 ∀(pI:Pn)(s:At)(Y:St)(H:Hp)(x:V)(v:Aj)(Q:Al->Hp->Prop),Z6 X pI Y H s->Co x v->r x H Q ->
  AD (model X.prog X.w) X.A (truthy v) (TP X pI Y Q) X.xe s
def tOp(r:R2)(ta tb:TE):TE:=λY H Q=>ta Y H λx H1=>tb Y H1 λy H2=>r x y H2 Q
def tUn(r:V->Hp->VK->Prop)(ta:TE):TE:=λY H Q=>ta Y H λx H1=>r x H1 Q
def rI(C:Ad->Ad->Prop)(g:Ad->Ad->V):R2:=λx y H Q=>∃ i j,x=.int i/\y=.int j/\C i j/\Q (g i j) H
def ź(g:Ad->Ad->V):R2:=λx y H Q=>∃ i j,x=.int i/\y=.int j/\Q (g i j) H
def rU(g:Ad->V):V->Hp->VK->Prop:=λx H Q=>∃ i,x=.int i/\Q (g i) H
theorem QK{f:Aj->Aj->HU Aj}{X:Cx}{a b:Aq}{ta tb:TE}(ha:PE X a ta)(hb:PE X b tb){H:Hp}{R:V->V->Hp->Prop}(I:Z6 X pI Y H s)(h:ta Y H λx H1=>tb Y H1 λy H2=>R x y H2){Q:Vq}(hf:∀ v u s2 x y H2,Z6 X pI Y H2 s2->Co x v->Co y u->R x y H2->AD (model X.prog X.w) X.A (f v u) Q X.xe s2):AD (model X.prog X.w) X.A (eval a X.env) (λv s₁=>AD (model X.prog X.w) X.A (eval b X.env) (λu s₂=>AD (model X.prog X.w) X.A (f v u) Q X.xe s₂) X.xe s₁) X.xe s:=by
 refine LT (ha pI s Y H _ I h) λv s1 ⟨x,H1,I1,r1,q1⟩=>?_
 refine LT (hb pI s1 Y H1 _ I1 q1) λu s2 ⟨y,H2,I2,r2,q2⟩=>?_
 exact hf v u s2 x y H2 I2 r1 r2 q2
theorem Zk{X:Cx}{a b:Aq}{ta tb:TE}{pos:Bf}{op:GP}(ho:ê X (CQ op) r)(ha:PE X a ta)(hb:PE X b tb):PE X (.BinOp a op b pos) (tOp r ta tb):=by
 intro pI s Y H Q I h;exact wpAny_BinOp (QK ha hb I h λv u s2 x y H2 I2 rx ry q=>ho pI s2 Y H2 x y v u Q I2 rx ry q)
theorem gA{X:Cx}{a:Aq}{ta:TE}{pos:Bf}{op:La}{r:V->Hp->VK->Prop}(ho:UnR X (unaryOp op) r)(ha:PE X a ta):PE X (.UnaryOp op a pos) (tUn r ta):=by
 intro pI s Y H Q I h;exact UnaryOp_ (LT (ha pI s Y H _ I h) λv s1 ⟨x,H1,I1,r1,q1⟩=>ho pI s1 Y H1 x v Q I1 r1 q1)
theorem opI(rule:∀(i j:Ad)(t u:Ea)(s:At)(Q:Vq)(E:Vq),C i j->Q (.int (g i j) s.toks) {s with toks:=s.toks+1}->AD (model X.prog X.w) X.A (f (.int i t) (.int j u)) Q E s):ê X f (rI C λi j=>.int (g i j)):=by
 intro pI s Y H x y v u Q I rx ry h;obtain⟨i,j,rfl,rfl,hc,q⟩:=h;obtain⟨t,rfl⟩:=rx;obtain⟨t',rfl⟩:=ry;exact rule i j t t' s _ _ hc ⟨.int (g i j),H,I.tok _,⟨_,rfl⟩,q⟩
theorem U_9(rule:∀(i j:Ad)(t u:Ea)(s:At)(Q:Vq)(E:Vq),Q (.int (g i j) s.toks) {s with toks:=s.toks+1}->AD (model X.prog X.w) X.A (f (.int i t) (.int j u)) Q E s):ê X f (ź λi j=>.int (g i j)):=by
 intro pI s Y H x y v u Q I rx ry h;obtain⟨i,j,rfl,rfl,q⟩:=h;obtain⟨t,rfl⟩:=rx;obtain⟨t',rfl⟩:=ry;exact rule i j t t' s _ _ ⟨.int (g i j),H,I.tok _,⟨_,rfl⟩,q⟩
theorem Qo{g:Ad->Ad->Al}(rule:∀(i j:Ad)(t u:Ea)(s:At)(Q:Vq)(E:Vq),Q (.bool (g i j)) s->AD (model X.prog X.w) X.A (f (.int i t) (.int j u)) Q E s):ê X f (ź λi j=>.bl (g i j)):=by
 intro pI s Y H x y v u Q I rx ry h;obtain⟨i,j,rfl,rfl,q⟩:=h;obtain⟨t,rfl⟩:=rx;obtain⟨t',rfl⟩:=ry;exact rule i j t t' s _ _ ⟨.bl (g i j),H,I,rfl,q⟩
def oO(i j:Ad):Prop:=0<j/\j<1073741824
def oN(i j:Ad):Prop:=0<=j/\j<=1000000/\i.natAbs<2 ^ 64
def Qz(i j:Ad):Prop:=(-(2 ^ 64)<i/\i<2 ^ 64)\/(-(2 ^ 64)<j/\j<2 ^ 64)
theorem Qz.ok{i:Ad}(h:Qz i j):Nj i j:=by
 rcases h with ⟨h1,h2⟩|⟨h1,h2⟩
 .exact .of_left (intBits_le_64 h1 h2)
 .exact .of_right (intBits_le_64 h1 h2)
theorem vo:ê X (CQ .Add) (ź λi j=>.int (i+j)):=U_9 λ_ _ _ _ _ _ _ q=>add_int q
theorem xp:ê X (CQ .Sub) (ź λi j=>.int (i-j)):=U_9 λ_ _ _ _ _ _ _ q=>sub_int q
theorem br:ê X (CQ .FloorDiv) (rI oO λi j=>.int (i/j)):=opI λi j _ _ _ _ _ hc q=>by
 have h1:(0:Ad)<j:=hc.1;have h2:j<1073741824:=hc.2;exact floordiv_int (by omega) (by rw[Int.fdiv_eq_ediv_of_nonneg i (by omega)];exact q) (.inl (PyProof.noPylong_small (by omega)))
theorem vm:ê X (CQ .Mod) (rI (λ_ j=>0<j) λi j=>.int (i%j)):=opI λi j _ _ _ _ _ hc q=>by
 have h1:(0:Ad)<j:=hc;exact mod_int' (by omega) (by rw[Int.fmod_eq_emod_of_nonneg i (by omega)];exact q)
theorem xq:ê X (CQ .Pow) (rI oN λi j=>.int (i ^ j.toNat)):=opI λ_ _ _ _ _ _ _ hc q=>pow_int_small hc.1 hc.2.1 hc.2.2 q
theorem unI{g:Ad->Ad}(rule:∀(i:Ad)(t:Ea)(s:At)(Q:Vq)(E:Vq),Q (.int (g i) s.toks) {s with toks:=s.toks+1}->AD (model X.prog X.w) X.A (f (.int i t)) Q E s):UnR X f (rU λi=>.int (g i)):=by
 intro pI s Y H x v Q I rx h;obtain⟨i,rfl,q⟩:=h;obtain⟨t,rfl⟩:=rx;exact rule i t s _ _ ⟨.int (g i),H,I.tok _,⟨_,rfl⟩,q⟩
theorem ou:UnR X (unaryOp .USub) (rU λi=>.int (-i)):=unI λ_ _ _ _ _ q=>neg_int q
section
variable{X:Cx}{a b c:Aq}{ta tb tc:TE}{pos:Bf}
theorem YQ{Q:VK}{k:Al}(I:Z6 X pI Y H s)(q:Q (.bl k) H)(e:k=k'):EP X pI Y Q (.bool k') s:=by
 subst e;exact⟨.bl k,H,I,rfl,q⟩
theorem kA:ê X (Da .Lt) (ź λi j=>.bl (decide (i<j))):=Qo λ_ _ _ _ _ _ _ q=>lt_int q
theorem kB:ê X (Da .LtE) (ź λi j=>.bl (decide (i<=j))):=Qo λ_ _ _ _ _ _ _ q=>le_int q
theorem kC:ê X (Da .Gt) (ź λi j=>.bl (decide (j<i))):=Qo λ_ _ _ _ _ _ _ q=>gt_int q
theorem kD:ê X (Da .GtE) (ź λi j=>.bl (decide (j<=i))):=Qo λ_ _ _ _ _ _ _ q=>ge_int q
theorem vn:ê X (Da .Is) (λx y H Q=>y=.O/\Q (.bl (decide (x=.O))) H):=by
 intro pI s Y H x y v u Q I rx ry h;obtain⟨rfl,q⟩:=h;cases ry;refine is_none_gen (YQ I q ?_);cases x<;>first
  |(cases rx;rfl)
  |(obtain⟨t,rfl⟩:=rx;rfl)
theorem bp:ê X (Da .IsNot) (λx y H Q=>y=.O/\Q (.bl (!decide (x=.O))) H):=by
 intro pI s Y H x y v u Q I rx ry h;obtain⟨rfl,q⟩:=h;cases ry;refine isnot_none_gen (YQ I q ?_);cases x<;>first
  |(cases rx;rfl)
  |(obtain⟨t,rfl⟩:=rx;rfl)
theorem xJ(ho:ê X (Da op) r)(ha:PE X a ta)(hb:PE X b tb)(hm:HV op b=Ae):PE X (.Compare a [op] [b] pos) (tOp r ta tb):=by
 intro pI s Y H Q I h;exact wpAny_Compare1 (QK ha hb I h λv u s2 x y H2 I2 rx ry q=>ho pI s2 Y H2 x y v u Q I2 rx ry q) hm
def Y_8(t:TE):TT:=λY H Q=>t Y H λx H'=>∃ k,x=.bl k/\Q k H'
theorem xB(ho:ê X (Da op) r)(ha:PE X a ta)(hb:PE X b tb)(hm:HV op b=Ae):PT X (.Compare a [op] [b] pos) (Y_8 (tOp r ta tb)):=by
 intro pI s Y H Q I h;refine wpAny_isTrue_Compare1 (LT (ha pI s Y H _ I h) λv s1 ⟨x,H1,I1,r1,q1⟩=>LT (hb pI s1 Y H1 _ I1 q1) λu s2 ⟨y,H2,I2,r2,q2⟩=>
  LT (ho pI s2 Y H2 x y v u _ I2 r1 r2 q2) λc s3 ⟨z,H3,I3,r3,k,e,q3⟩=>?_) hm
 subst e;cases r3;exact Db ⟨H3,I3,q3⟩
def Yj(r r':R2)(ta tb tc:TE):TE:=λY H Q=>ta Y H λx H1=>tb Y H1 λy H2=>r x y H2 λz H3=>∃ k,z=.bl k /\
 (if k=Aa then tc Y H3 λw' H4=>r' y w' H4 Q else Q (.bl Ae) H3)
theorem uT{op':D0}{r':R2}(ho:ê X (Da op) r)(ϯ:ê X (Da op') r')(ha:PE X a ta)(hb:PE X b tb)(hc:PE X c tc)(hm:Kz [op,op'] [b,c]=Ae:=by with_unfolding_all rfl):PE X (.Compare a [op,op'] [b,c] pos) (Yj r r' ta tb tc):=by
 intro pI s Y H Q I h;refine Compare_chain (LT (ha pI s Y H _ I h) λv s1 ⟨x,H1,I1,r1,q1⟩=>chain_link (LT (hb pI s1 Y H1 _ I1 q1) λu s2 ⟨y,H2,I2,r2,q2⟩=>
  LT (ho pI s2 Y H2 x y v u _ I2 r1 r2 q2) λd s3 ⟨z,H3,I3,r3,k,e,q3⟩=>?_)) hm
 subst e;cases r3;refine Db ?_;cases k with
 |false=>exact ite_ff ⟨.bl Ae,H3,I3,rfl,q3⟩
 |true=>exact ite_tt (chain_last (LT (hc pI s3 Y H3 _ I3 q3) λw' s4 ⟨z',H4,I4,r4,q4⟩=>ϯ pI s4 Y H4 y z' u w' Q I4 r2 r4 q4))
theorem uO{op':D0}{r':R2}(ho:ê X (Da op) r)(ϯ:ê X (Da op') r')(ha:PE X a ta)(hb:PE X b tb)(hc:PE X c tc)(hm:Kz [op,op'] [b,c]=Ae:=by with_unfolding_all rfl):PT X (.Compare a [op,op'] [b,c] pos) (Y_8 (Yj r r' ta tb tc)):=by
 intro pI s Y H Q I h;refine isTrue_chain (LT (ha pI s Y H _ I h) λv s1 ⟨x,H1,I1,r1,q1⟩=>test_link (LT (hb pI s1 Y H1 _ I1 q1) λu s2 ⟨y,H2,I2,r2,q2⟩=>
  LT (ho pI s2 Y H2 x y v u _ I2 r1 r2 q2) λd s3 ⟨z,H3,I3,r3,k,e,q3⟩=>?_)) hm
 subst e;cases r3;refine Db ?_;cases k with
 |false=>
  obtain⟨k',e',q'⟩:=q3;cases e';exact ite_ff ⟨H3,I3,q'⟩
 |true=>
  refine ite_tt (test_last (LT (hc pI s3 Y H3 _ I3 q3) λw' s4 ⟨z',H4,I4,r4,q4⟩=>LT (ϯ pI s4 Y H4 y z' u w' _ I4 r2 r4 q4) λd' s5 ⟨z2,H5,I5,r5,k2,e2,q5⟩=>?_))
  subst e2;cases r5;exact Db ⟨H5,I5,q5⟩
noncomputable def UW(K:Fg)(x:V)(H:Hp)(k:Al):Prop:=
  match x with
  |.O=>k=Ae
  |.bl b=>k=b
  |.int i=>k=(i != 0)
  |.str y=>y.length<=sizeLine/\k=((y.length:Ad) != 0)
  |.byt y=>y.size<=sizeLine/\k=((y.size:Ad) != 0)
  |.ref p=>(∃ xs,fI K H p xs/\k=!xs.isEmpty)\/(∃ xs,ð K H p xs/\k=!xs.isEmpty)\/∃ kvs,H p=Ab (.dK kvs)/\k=!kvs.isEmpty
  |_=>BV
theorem pS{kvs:Ac (κ×V)}{vs:Ac (κ×Aj)}(r:KV kvs vs):(!vs.isEmpty)=!kvs.isEmpty:=by
 cases r<;>rfl
theorem Vo(r:Bl xs Z9):(!Z9.toArray.isEmpty)=!xs.isEmpty:=by
 cases r<;>simp
theorem MC:(sizeLine:Ag)<2 ^ 63:=by rw[CN];decide
theorem pe:oF X (λx H Q=>∃ k,UW X.K x H k/\Q k H):=by
 intro pI s Y H x v Q I rx h;obtain⟨k,e,q⟩:=h;have hl:=MC;have hs:sizeLine=16777216:=CN;cases x with
 |O=>
  cases rx;have e':k=Ae:=e;subst e';exact truthy_none ⟨H,I,q⟩
 |bl b=>
  cases rx;have e':k=b:=e;subst e';exact Db ⟨H,I,q⟩
 |int i=>
  obtain⟨t,rfl⟩:=rx;have e':k=(i != 0):=e;subst e';exact PySem.P.truthy_int ⟨H,I,q⟩
 |str y=>
  obtain⟨t,rfl⟩:=rx;obtain⟨hy,e'⟩:y.length<=sizeLine/\k=((y.length:Ad) != 0):=e;subst e';exact PySem.P.truthy_str (by omega) ⟨H,I.tok _,q⟩
 |byt y=>
  obtain⟨t,rfl⟩:=rx;obtain⟨hy,e'⟩:y.size<=sizeLine/\k=((y.size:Ad) != 0):=e;subst e';exact PySem.W.truthy_bytes (by omega) ⟨H,I.tok _,q⟩
 |ref p=>
  cases rx;have e':(∃ xs,fI X.K H p xs/\k=!xs.isEmpty)\/(∃ xs,ð X.K H p xs/\k=!xs.isEmpty)\/∃ kvs,H p=Ab (.dK kvs)/\k=!kvs.isEmpty:=e;rcases e' with ⟨xs,hx,e'⟩|⟨xs,hx,e'⟩|⟨kvs,hx,e'⟩
  .subst e';obtain⟨Z9,r,pl,hz⟩:=I.list hx;have IO:=r.length;exact wpAny_truthy_list pl.isList (by simp only[AJ];omega) ⟨H,I.tok _,by rw[Vo r];exact q⟩
  .subst e';obtain⟨Z9,r,pl,hz⟩:=I.tuple hx;have IO:=r.length;exact truthy_tuple pl (by simp only[AJ];omega) ⟨H,I.tok _,by rw[Vo r];exact q⟩
  .subst e';obtain⟨hz,hS,vs,r,m⟩:kvs.length<=sizeLine/\(p==L4)=Ae/\∃ vs,KV kvs vs/\s.heap.DictOf (Te X.prog X.w) p vs:=I.hok p _ hx;have IO:kvs.length=vs.length:=dN r;exact wpAny_truthy_dict hS m (by omega) ⟨H,I.tok _,by rw[pS r];exact q⟩
 |_=>exact(show BV from e).elim
theorem uN(ha:PE X a ta)(he:∀ whole,JN a X.env whole=(do let v <-whole;Lf a.pos;holding [v] (truthy v))):PT X a (λY H Q=>ta Y H λx H'=>∃ k,UW X.K x H' k/\Q k H'):=by
 intro pI s Y H Q I h;exact isTrue_plain (LT (ha pI s Y H _ I h) λv s1 ⟨x,H1,I1,r1,q1⟩=>pe pI s1 Y H1 x v Q I1 r1 q1) (he _)
theorem qH:ê X (CQ .Add) (λx y H Q=>∃ i j,x=.str i/\y=.str j/\i.length+j.length<=sizeLine/\Q (.str (i++j)) H):=by
 intro pI s Y H x y v u Q I rx ry h;obtain⟨i,j,rfl,rfl,hz,q⟩:=h;obtain⟨t,rfl⟩:=rx;obtain⟨t',rfl⟩:=ry;exact add_str (λt' tk=>⟨.str (i++j),H,I.tok _,⟨_,rfl⟩,q⟩) hz
theorem Jq{x:V}(r:Bl [x] us):∃ u,us=[u]/\Co x u:=by
 cases r with
 |cons r1 r2=>cases r2;exact⟨_,rfl,r1⟩
theorem Zzq{x:V}(r:Bl [x,y] us):∃ u w',us=[u,w']/\Co x u/\Co y w':=by
 cases r with
 |cons r1 r2=>
  cases r2 with
  |cons r3 r4=>cases r4;exact⟨_,_,rfl,r1,r3⟩
end
structure ObjM (h:AS) (x dx C:Am) (mA:An->As Aj):Prop where
 obj:h.get? x=Ab (Eu C dx)
 ns:h.Ns1 dx mA
 ne:dx≠x
theorem rT{h:AS}(n:h.Ns1 dx mA):∃ od,h.get? dx=Ab od/\∀ name,JL name od=Ab (mA name):=by
 obtain⟨o,es,ep,ho,hd,hk,_,hm⟩:=n;refine⟨o,ho,λname=>?_⟩
 have e:=hm name;unfold nsFind findBy at e;rw[<-Array.find?_toList]at e;unfold JL;rw[hd];dsimp only;split
 .rename_i y q;rw[q]at e;exact congrArg Ab e
 .rename_i q;rw[q]at e;have a:es.toList.any (·.refKey)=Ae:=by
   rw[ZT];intro y hy;obtain⟨z,t,hkey⟩:=hk y (Array.mem_toList_iff.mp hy);simp[DictEntry.refKey,hkey]
  have a':¬ es.toList.any (·.refKey)=Aa:=by rw[a];exact AX
  rw[AH a'];exact congrArg Ab e
theorem ObjM.look{x:Am}(I:ObjM h x dx C mA):∃ od,PySem.W.InstAt h x (Eu C dx) C (Ab od)/\∀ name,JL name od=Ab (mA name):=
 let ⟨od,ho,hl⟩:=rT I.ns
 ⟨od,⟨I.obj,rfl,rfl,ho⟩,hl⟩
structure Cls (K:Fg) (C:Am):Prop where
 pg:eS K C Str.empty=Aa
 hd:PySem.W.hasDictIn K C=Aa
 po:PySem.W.plainOver K C=Aa
 sa:Gq K (.ref C) "__setattr__" = Ab (Ab (.builtin "object.__setattr__"))
theorem Cls.get{K:Fg}(c:Cls K C)(f:An):eS K C f=Aa:=c.pg
theorem Z6.made{Y:St}(I:Z6 X pI Y H s):Z6 X pI Y (upd (upd H s.heap.objs.size (.own (s.heap.objs.size+1))) (s.heap.objs.size+1) (.ins C s.heap.objs.size [])) {s with heap:=(s.heap.push DE).push (Eu C s.heap.objs.size)}:=by
  have e1:(s.heap.push DE).get? s.heap.objs.size=Ab DE:=AB s.heap rfl;have e2:((s.heap.push DE).push (Eu C s.heap.objs.size)).get? (s.heap.objs.size+1)=Ab (Eu C s.heap.objs.size):=by
    have:=AB (s.heap.push DE) (o:=Eu C s.heap.objs.size) rfl
    rwa [Bg]at this
  have e3:(s.heap.push DE).Ns s.heap.objs.size (λ_=>Af):=⟨DE,#[],_,e1,rfl,(λe he=>absurd he (by simp)),λ_=>rfl⟩
  have I1:=I.laid (a:=s.heap.objs.size) (o:=.own (s.heap.objs.size+1)) (h':=s.heap.push DE) (t':=s.toks) (λb u q=>Ar _ q) (AT _) ⟨_,e1⟩
  refine I1.laid (a:=s.heap.objs.size+1) (o:=.ins C s.heap.objs.size []) (t':=s.toks) (λb u q=>Ar _ q) (Ha (Bg _ _)) ?_
  have ne:s.heap.objs.size≠s.heap.objs.size+1:=AZ (ES _);refine⟨by rw[DM ne,J3],CC _,ne,e2,λ_=>Af,(Heap.Ns1.of_empty e3).at λo q=>Ar _ q,λ_=>True.intro,λy hy=>absurd rfl hy⟩
structure gV (k:Ag) (A:Bm):Prop where
 hd:A.handled=Af
 dp:A.depth+3*k+5<fD
 un:A.units+16*k+200<CF
 gd:A.guards=Ab []
theorem gV.mono(r:gV k A)(h:j<=k):gV j A:=⟨r.hd,by have:=r.dp;omega,by have:=r.un;omega,r.gd⟩
theorem gV.deeper(r:gV (k+1) A)(env:Dc):gV k (A.deeper env):=
 ⟨r.hd,by have:=r.dp;show A.depth+1+3*k+5<_;omega,by have:=r.un;show A.units+3+16*k+200<_;omega,r.gd⟩
theorem gV.depth(r:gV k A):A.depth<fD:=by have:=r.dp;omega
theorem gV.units(r:gV k A):A.units+64<CF:=by have:=r.un;omega
def nI:TA:=λ_ H Q=>Q [] H
def ZzL(ta:TE)(tr:TA):TA:=λY H Q=>ta Y H λx H1=>tr Y H1 λxs H2=>Q (x::xs) H2
theorem HZ:PA X [] nI:=λ_ _ _ _ H Q I h=>Fu ⟨[],H,I,.nil,h⟩
theorem Gi{X:Cx}{e:Aq}{es:Ac Aq}{te:TE}{t:TA}(ha:PE X e te)(hr:PA X es t)(hs:AN (e::es) X.env=(Ae,eval e X.env)::AN es X.env:=by rfl):PA X (e::es) (ZzL te t):=by
 intro pos pI s Y H Q I h;rw[hs];show AD _ _ (spliced ((Ae,eval e X.env)::C8 pos (AN es X.env))) _ _ s;refine Gh (LT (ha pI s Y H _ I h) λu s1 ⟨x,H1,I1,r1,q1⟩=>?_)
 exact LT (hr pos pI s1 Y H1 _ I1 q1) λus s2 ⟨xs,H2,I2,r2,q2⟩=>⟨x::xs,H2,I2,.cons r1 r2,q2⟩
def lZ(t:TA):TE:=λY H Q=>t Y H λxs H1=>xs.length<=sizeLine/\∀ p,H1 p=Af->Q (.ref p) (upd H1 p (.H xs))
def nJ(t:TA):TE:=λY H Q=>t Y H λxs H1=>xs.length<=sizeLine/\∀ p,H1 p=Af->Q (.ref p) (upd H1 p (.L xs))
theorem wy(h:PA X es t):PE X (.Tuple es x1 pos) (lZ t):=by
 intro pI s Y H Q I hq;refine wpAny_Tuple_spliced (LT (h pos pI s Y H _ I hq) λus s1 ⟨xs,H1,I1,r,z,q⟩=>⟨by rw[<-r.length];exact z,?_⟩)
 have hf:H1 s1.heap.objs.size=Af:=I1.hok.fresh (AT _);refine⟨.ref s1.heap.objs.size,upd H1 s1.heap.objs.size (.H xs),I1.laid (t':=s1.toks) (λb u e=>Ar _ e) (AT _) ?_,rfl,q _ hf⟩
 exact⟨z,us,r,⟨_,AB _ rfl,rfl,_,rfl⟩⟩
theorem xg(h:PA X es t):PE X (.List es pos) (nJ t):=by
 intro pI s Y H Q I hq;refine wpAny_List_spliced (LT (h pos pI s Y H _ I hq) λus s1 ⟨xs,H1,I1,r,z,q⟩=>⟨by rw[<-r.length];exact z,?_⟩)
 have hf:H1 s1.heap.objs.size=Af:=I1.hok.fresh (AT _);refine⟨.ref s1.heap.objs.size,upd H1 s1.heap.objs.size (.L xs),I1.laid (t':=s1.toks) (λb u e=>Ar _ e) (AT _) ?_,rfl,q _ hf⟩
 exact⟨z,us,0,r,AB _ rfl⟩
abbrev Sp:=Ac V->Hp->VK->XK->Prop
abbrev CXT:=Ac Dc->Hp->At->XK->Aj->At->Prop
structure Θ (P:A6) (w:AM) (K:Fg) (mg:An->As Aj) (base:AS) (A:Bm) (outer:Ac Dc) (s:At) (H:Hp):Prop where
 frames:A.frames=Ab outer
 mod:Mod K mg base
 bs:∀ b o,base.get? b=Ab o->s.heap.get? b=Ab o/\H b=Af
 bsz:base.objs.size<=s.heap.objs.size
 funs:s.heap.FunFrames base outer
 frf:∀ b∈å outer,H b=Af
 hok:ì P w H s.heap
 bare:Go s.gens
noncomputable def CE(outer:Ac Dc)(P:A6)(w:AM)(H:Hp)(s:At)(Q:VK)(u:Aj)(s':At):Prop:=
 ∃ v H',s'.os=s.os/\Go s'.gens/\Un (å outer) [] H H' s.heap s'.heap/\ì P w H' s'.heap/\Co v u/\Q v H'
noncomputable def CR(CX:CXT)(outer:Ac Dc)(P:A6)(w:AM)(H:Hp)(s:At)(Q:VK)(E:XK)(r:Kq)(s':At):Prop:=
  match r with
  |.ok (.ret u)=>CE outer P w H s Q u s'
  |.ok _=>BV
  |.error e=>CX outer H s E e s'
structure û (P:A6) (w:AM) (K:Fg) (mg:An->As Aj) (base:AS) (CX:CXT) (k:Ag) (f:Am) (fd:CY) (ps:Ac An) (sp:Sp):Prop where
 len:∀ vs H Q E,sp vs H Q E->vs.length=ps.length
 run:∀(A:Bm)(outer:Ac Dc)(s:At)(H:Hp)(args:Args)(us:Ac Aj)(vs:Ac V)(Q:VK)(E:XK),gV k A->Θ P w K mg base A outer s H->Iu s fd args (ps.zip us)->Bl vs us->sp vs H Q E ->
  F0 (model P w) A (.call (.ref f) args) (CR CX outer P w H s Q E) s
theorem û.imp{K:Fg}(F:û P w K mg base CX k f fd ps sp)(h:∀ vs H Q E,sp' vs H Q E->sp vs H Q E):û P w K mg base CX k f fd ps sp':=
 ⟨λvs H Q E q=>F.len vs H Q E (h _ _ _ _ q),λA outer s H args us vs Q E hr he hb hv hs=>F.run A outer s H args us vs Q E hr he hb hv (h _ _ _ _ hs)⟩
section
variable{Y:St}
theorem Z6.env0(I:Z6 X pI Y H s):Θ X.prog X.w X.K X.mg X.base X.A X.stack s H:=
 ⟨I.ok.frames,I.ok.mod,I.bs,BZ I.ok.bsz I.sz,I.stack,I.stkFree,I.hok,I.bare⟩
theorem Z6.after{Q:VK}(I:Z6 X pI Y H s)(h:CE X.stack X.prog X.w H s Q u s'):EP X pI Y Q u s':=by
 obtain⟨v,H',os,bare,un,hok,r,q⟩:=h;obtain⟨hh,g,d,t,os'⟩:=s';obtain rfl:os'=s.os:=os;exact⟨v,H',I.call (h':=hh) (g':=g) (d':=d) (t':=t) (ch:=[]) un hok bare (λb z=>absurd z (by simp)),r,q⟩
end
def ZzM(sp:Sp)(ř:Ac V)(E:XK)(t:TA):TE:=λY H Q=>t Y H λvs H1=>sp (vs++ř) H1 Q E
noncomputable def Jp(K:Fg)(fd:CY)(ps:Ac An)(ds:Ac Aj):Prop:=
 ∀(s:At)(us:Ac Aj),K.In s.heap->(us++ds).length=ps.length->Iu s fd ⟨us,[]⟩ (ps.zip (us++ds))
theorem Jp.all{K:Fg}(h:∀ us:Ac Aj,us.length=ps.length->No fd ⟨us,[]⟩=pure (ps.zip us)):Jp K fd ps []:=λs us _ hl=>by
 rw[Eo]at hl ⊢;exact .of_eq (h us hl)
def MH(CX:CXT)(X:Cx)(E:XK):Prop:=∀(pI:Pn)(Y:St)(H:Hp)(s:At)(e:Aj)(s':At),Z6 X pI Y H s->CX X.stack H s E e s'->X.xe e s'
section
variable{f:Am}{x:An}{p pos:Bf}{e:Aq}
theorem uf{Q:VK}(F:û X.prog X.w X.K X.mg X.base CX k f fd ps sp)(hr:gV k X.A)(hb:Jp X.K fd ps ds)(hd:Bl ř ds)(hx:MH CX X E)(I:Z6 X pI Y H s)(r:Bl vs us)(h:sp (vs++ř) H Q E):AD (model X.prog X.w) X.A (call (.ref f) us) (EP X pI Y Q) X.xe s:=by
 have r2:Bl (vs++ř) (us++ds):=r.append hd;have hl:(us++ds).length=ps.length:=by rw[<-r2.length];exact F.len _ _ _ _ h
 refine wpAny_call (Hg (F.run X.A X.stack s H ⟨us,[]⟩ (us++ds) (vs++ř) Q E hr I.env0 (hb s us I.kIn hl) r2 h) λr s' hq=>?_)
 cases r with
 |error e=>exact hx pI Y H s e s' I hq
 |ok fl=>
  cases fl with
  |ret u=>exact I.after hq
  |next=>exact EC hq
  |brk=>exact EC hq
  |cont=>exact EC hq
theorem W2{X:Cx}{CX:CXT}{k:Ag}{fd:CY}{ps:Ac An}{sp:Sp}{ř:Ac V}{ds:Ac Aj}{E:XK}{es:Ac Aq}{t:TA}(F:û X.prog X.w X.K X.mg X.base CX k f fd ps sp)(hr:gV k X.A)(hg:Gl X x)(hm:X.mg x=Ab (.ref f))(hk:DY X.K (.ref f)=Aa)(hb:Jp X.K fd ps ds)(hd:Bl ř ds)(hx:MH CX X E)(ha:PA X (e::es) t)(Ï:(x==("__debug__" : An))=Ae:=by decide)(he:AN (e::es) X.env=(Ae,eval e X.env)::AN es X.env:=by rfl)(è:(C8 pos (AN es X.env)).any (·.1)=Ae:=by rfl):PE X (.Call (.Name x p) (e::es) [] pos) (ZzM sp ř E t):=by
 intro pI s Y H Q I h;refine HS (au I hg hm ?_ Ï);refine PySem.W.callWith_K (h₀:=X.base) I.ok.mod.kin hk (LT (ha pos pI s Y H _ I h) λus s1 ⟨vs,H1,I1,r,q⟩=>⟨I1.kIn,?_⟩) he è
 exact uf F hr hb hd hx I1 r q
end
structure Ç (N P:Ac An) (sc:CP):Prop where
 kind:sc.kind=.function
 co:sc.isCoroutine=Ae
 gen:sc.isGenerator=Ae
 nd:N.Nodup
 pre:N.take P.length=P
 par:∀ x∈P,sc.names.lookup x=Ab .local\/sc.names.lookup x=Ab .cell
 nofree:∀ y∈sc.names,y.2≠.free
theorem VM{kindOf:An->As EV}{x:An}:∀{binds:Ac (An×Aj)}{m:An->As Aj},(∀ v,(x,v)∉binds)->JW kindOf binds m x=m x
 |[],_,_=>rfl
 |(n,v)::r,m,h=>by
  unfold JW;rw[VM λw hw=>h w (Av _ hw)]
  split
  .have:x≠n:=by rintro rfl;exact h v Ax
   simp[this]
  .rfl
theorem VO{kindOf:An->As EV}{x:An}:∀{binds:Ac (An×Aj)}{m:An->As Aj},(∀ v,(x,v)∉binds)->JV kindOf binds m x=m x
 |[],_,_=>rfl
 |(n,v)::r,m,h=>by
  unfold JV;rw[VO λw hw=>h w (Av _ hw)]
  split
  .rfl
  .have:x≠n:=by rintro rfl;exact h v Ax
   simp[this]
theorem VN{kindOf:An->As EV}{x:An}{v:Aj}:∀{P:Ac An}{vs:Ac Aj}{i:Ag}{m:An->As Aj},P.Nodup->P[i]?=Ab x->vs[i]?=Ab v->kindOf x=Ab .local->JW kindOf (P.zip vs) m x=Ab v
 |[],_,_,_,_,h,_,_=>by simp at h
 |_::_,[],_,_,_,_,h,_=>by simp at h
 |p::P,w::vs,0,m,nd,h1,h2,hk=>by
  simp at h1 h2;subst h1;subst h2;show JW kindOf ((p,w)::P.zip vs) m p=_;unfold JW;rw[VM λv hv=>(BO.mp nd).1 (Jd hv).1,AC hk]
  simp
 |p::P,w::vs,i+1,m,nd,h1,h2,hk=>by
  show JW kindOf ((p,w)::P.zip vs) m x=_;unfold JW;exact VN (i:=i) (BO.mp nd).2 (by simpa using h1) (by simpa using h2) hk
theorem VP{kindOf:An->As EV}{x:An}{v:Aj}:∀{P:Ac An}{vs:Ac Aj}{i:Ag}{m:An->As Aj},P.Nodup->P[i]?=Ab x->vs[i]?=Ab v->kindOf x≠Ab .local->JV kindOf (P.zip vs) m x=Ab v
 |[],_,_,_,_,h,_,_=>by simp at h
 |_::_,[],_,_,_,_,h,_=>by simp at h
 |p::P,w::vs,0,m,nd,h1,h2,hk=>by
  simp at h1 h2;subst h1;subst h2;show JV kindOf ((p,w)::P.zip vs) m p=_;unfold JV;rw[VO λv hv=>(BO.mp nd).1 (Jd hv).1,AH hk]
  simp
 |p::P,w::vs,i+1,m,nd,h1,h2,hk=>by
  show JV kindOf ((p,w)::P.zip vs) m x=_;unfold JV;exact VP (i:=i) (BO.mp nd).2 (by simpa using h1) (by simpa using h2) hk
noncomputable def start(N:Ac An)(vs:Ac V):St:=vs.map Ab++Hw (N.length-vs.length) Af
noncomputable def HG(CX:CXT)(P:A6)(w:AM)(K:Fg)(mg:An->As Aj)(base:AS)(N:Ac An)(qual:An)(scope:CP)(f:Am)(cd:Aj)(A:Bm)(outer:Ac Dc)(s:At)(H:Hp)(E:XK):Cx where
 prog:=P
 w:=w
 K:=K
 mg:=mg
 base:=base
 A:=A.deeper (FV qual scope s.heap.objs.size f cd)
 N:=N
 s₀:=s
 H₀:=H
 env:=FV qual scope s.heap.objs.size f cd
 outer:=outer
 stack:=FV qual scope s.heap.objs.size f cd::outer
 ex:=[]
 calm:=Aa
 fn:=λ_=>Aa
 pn:=[]
 xe:=λe s'=>AD (model P w) (A.deeper (FV qual scope s.heap.objs.size f cd)) (leaving (FV qual scope s.heap.objs.size f cd) e) (λ_ Ŕ=>CX outer H s E e Ŕ) (λe' Ŕ=>CX outer H s E e' Ŕ) s'
theorem WU{sc:CP}(h:sc.names.lookup x=Ab .cell):∃ c,(DZ n sc.names []).lookup x=Ab c:=by
 have q:=eP sc.names n [] (.inl h);exact Option.isSome_iff_exists.mp q
theorem rW{K:Fg}(S:Ç N ps scope)(hd:A.handled=Af)(e0:Θ P w K mg base A outer s H)(hl:vs.length=ps.length)(r:Bl vs us)(x:InCallC s s.heap.objs.size (JW (FV qual scope s.heap.objs.size f cd).kindOf (ps.zip us) λ_=>Af) (DZ (s.heap.objs.size+1) scope.names []) (JV (FV qual scope s.heap.objs.size f cd).kindOf (ps.zip us) λ_=>Af) s1):Z6 (HG CX P w K mg base N qual scope f cd A outer s H E) [] (start N vs) H s1:=by
 have è:ps.length<=N.length:=by have:=congrArg List.length S.pre;rw[ER]at this;omega
 obtain⟨h1,tk,rfl,hk⟩:=x.done;have Č:∀ b:Am,b∉(HG CX P w K mg base N qual scope f cd A outer s H E).ex:=λb z=>absurd (show b∈([]:Ac Am) from z) (by simp)
 refine⟨⟨e0.mod,S.kind,rfl,rfl,AT _,λy z c h1 h2=>?_,λy hy=>?_,λy c _ h=>?_,λ_=>hd,Around.frames_deeper e0.frames,.inr ⟨rfl,rfl⟩,λb z=>absurd z (Č b),e0.bs,e0.bsz,λb _ _=>Č b,λb z=>absurd z (Č b),e0.funs,e0.frf⟩,
  rfl,e0.bare,Un.kept hk,⟨_,x.toInCall.ns,λi y v h1 h2 h3=>?_⟩,λy c h=>⟨_,x.cell y c h⟩,e0.hok.fresh (AT _),λy c h=>?_,λp hp=>absurd (show p∈([]:Pn) from hp) (by simp),e0.hok.kept hk,?_⟩
 .exact name_of_addr x.apart (Dd h1) (Dd h2)
 .have hy:scope.names.lookup y=Ab .cell\/scope.names.lookup y=Ab .free:=hy;rcases hy with hy|hy
  .exact WU hy
  .exact absurd rfl (S.nofree _ (Dd hy))
 .exact Ei (x.above y c (Dd h))
 .have hi:i<vs.length:=by
   unfold start at h2;by_cases hi:i<vs.length
   .exact hi
   .rw[Z_2 (by simpa using hi)]at h2
    rw[Z_5]at h2;split at h2<;>cases h2
  have ha:vs[i]?=Ab v:=by
   unfold start at h2;rw[F7 (by simpa using hi),D7]at h2
   cases e:vs[i]? with
   |none=>rw[e]at h2;cases h2
   |some a=>rw[e]at h2;cases h2;rfl
  obtain⟨u,hu,rv⟩:=r.get ha;have hp:ps[i]?=Ab y:=by
   rw[<-S.pre,List.getElem?_take_of_lt (by omega)];exact h1
  have ndP:ps.Nodup:=by rw[<-S.pre];exact S.nd.sublist (Gy _ _)
  refine⟨u,rv,?_⟩;rcases S.par y (D5 hp) with k|k
  .exact .inl ⟨k,VN ndP hp hu k⟩
  .obtain⟨c,e⟩:=WU (n:=s.heap.objs.size+1) k;refine .inr ⟨.inl k,c,e,?_⟩;have q:=x.cell y c e;rw[VP ndP hp hu (by show scope.names.lookup y≠_;rw[k];decide)]at q
   exact q
 .exact e0.hok.fresh (Ei (x.above y c (Dd h)))
 .unfold start;show _=N.length;rw[BE,AG,Z_8];omega
theorem Zp{K:Fg}{kV:Aj}(lk:K.lookup f=Ab ⟨oc,od,.func (Ej name qual params body scope dV kV doc pm an cdv ct),osl⟩)(ϒ:Gp K cdv qual=Aa)(S:Ç N ps scope)(len:∀ vs H Q E,sp vs H Q E->vs.length=ps.length)(Φ:∀(A:Bm)(outer:Ac Dc)(s:At)(H:Hp)(vs:Ac V)(Q:VK)(E:XK),gV k (A.deeper (FV qual scope s.heap.objs.size f cdv))->sp vs H Q E ->
   ∃ t,È (HG CX P w K mg base N qual scope f cdv A outer s H E) body t/\t {nx:=λ_ H'=>Q .O H',rt:=Q} (start N vs) H):û P w K mg base CX (k+1) f (Ej name qual params body scope dV kV doc pm an cdv ct) ps sp:=by
 refine⟨len,λA outer s H args us vs Q E hr e0 hb r Ŝ=>?_⟩
 have hl:=len _ _ _ _ Ŝ;have KX:K.In s.heap:=e0.mod.kin.keeps λb o e=>(e0.bs b o e).1
 have lim:s.heap.NoLimit:=e0.mod.nolimit.keeps λb o e=>(e0.bs b o e).1
 have hkind:∀ y∈ps.zip us,scope.names.lookup y.1=Ab .local\/(scope.names.lookup y.1=Ab .cell/\((DZ (s.heap.objs.size+1) scope.names []).lookup y.1).isSome=Aa):=λ⟨n,v⟩ hy=>by
  rcases S.par n (Jd hy).1 with q|q
  .exact .inl q
  .exact .inr ⟨q,eP _ _ _ (.inl q)⟩
 refine codeAny_call_function hr.depth (KX _ _ lk) rfl S.co S.gen rfl (PySem.W.codeRec_of KX ϒ) (hb _ _ _ _ ?_);refine wpAny_newFunctionEnv_cells S.kind hkind λenv he s1 x=>?_
 subst he;refine⟨lim.keeps x.toInCall.keep,codeAny_func ?_⟩;obtain⟨t,ht,hq⟩:=Φ A outer s H vs Q E (hr.deeper _) Ŝ;have I:Z6 (HG CX P w K mg base N qual scope f cdv A outer s H E) [] (start N vs) H s1:=rW S hr.hd e0 hl r x;refine C3 (ht [] s1 (start N vs) H _ I hq) (λfl s' hs=>?_) λe s' hs=>hs
 have fin:∀{Y':St}{H':Hp}{v:V}{u:Aj},Z6 (HG CX P w K mg base N qual scope f cdv A outer s H E) [] Y' H' s'->Co v u->Q v H'->CE outer P w H s Q u s':=
  λ{Y' H' v u} J rv q=>⟨v,H',J.os,J.bare,J.base,J.hok,rv,q⟩
 cases fl with
 |ret u=>
  obtain⟨v,Y',H',J,rv,q⟩:=hs;exact fin J rv q
 |next=>
  obtain⟨Y',H',J,q⟩:=hs;exact fin (v:=V.O) (u:=Cv) J rfl q
 |brk=>
  obtain⟨_,_,_,q⟩:=hs;exact EC q
 |cont=>
  obtain⟨_,_,_,q⟩:=hs;exact EC q
section
variable{X:Cx}{x:An}{p pos:Bf}{e:Aq}{es:Ac Aq}{t:TA}{id T:Du}{r:Ac V->Hp->VK->Prop}
def tCB(r:Ac V->Hp->VK->Prop)(t:TA):TE:=λY H Q=>t Y H λvs H1=>r vs H1 Q
theorem SN(hc:KU X (.builtin id) r)(hg:Gl X x)(hm:X.mg x=Af)(hv:Dt x=Ab (.builtin id))(ha:PA X (e::es) t)(hn:x≠"__name__" := by decide)(Ï:(x==("__debug__" : An))=Ae:=by decide)(he:AN (e::es) X.env=(Ae,eval e X.env)::AN es X.env:=by rfl)(è:(C8 pos (AN es X.env)).any (·.1)=Ae:=by rfl):PE X (.Call (.Name x p) (e::es) [] pos) (tCB r t):=by
 intro pI s Y H Q I h;refine HS (HB I hg hm hv ?_ hn Ï);exact aX (LT (ha pos pI s Y H _ I h) λus s1 ⟨vs,H1,I1,r1,q1⟩=>hc pI s1 Y H1 vs us Q I1 r1 q1) he è
theorem V3(hc:KU X (.type T) r)(hg:Gl X x)(hm:X.mg x=Af)(hv:Dt x=Ab (.type T))(ha:PA X (e::es) t)(hn:x≠"__name__" := by decide)(Ï:(x==("__debug__" : An))=Ae:=by decide)(he:AN (e::es) X.env=(Ae,eval e X.env)::AN es X.env:=by rfl)(è:(C8 pos (AN es X.env)).any (·.1)=Ae:=by rfl):PE X (.Call (.Name x p) (e::es) [] pos) (tCB r t):=by
 intro pI s Y H Q I h;refine HS (HB I hg hm hv ?_ hn Ï);exact B7 (LT (ha pos pI s Y H _ I h) λus s1 ⟨vs,H1,I1,r1,q1⟩=>hc pI s1 Y H1 vs us Q I1 r1 q1) he è
end
end L2
namespace HT
open PySem PyProof.Rows
section
open PySem.SeqAt
open PySem.AutoSeq1 (wpAny_loadPart')
open PySem.MeetsSeq PySem.MeetsSeq2 PySem.MeetsSeq3
end
section
variable{E:Vq}
theorem cat_tup{Q:Vq}(ht:K8 s.heap t vs.toArray)(hb:K8 s.heap b ws.toArray)(hv:vs≠[])(h1:ws=[]->Q (.ref t) s)(h2:ws≠[]->Q (.ref s.heap.objs.size) { s with heap:=s.heap.push { cls:=.type "tuple",data:=.seq (vs++ws).toArray } })(hsz:vs.length+ws.length<=sizeLine):AD (model prog w) A (CQ .Add (.ref t) (.ref b)) Q E s:=by
 obtain⟨⟨cls,dd,data,sl⟩,ho,hc,n,hd⟩:=id ht;obtain⟨⟨cls2,dd2,data2,sl2⟩,ho2,hc2,n2,hd2⟩:=id hb;simp only at hc hd hc2 hd2;subst hc hd hc2 hd2;have e:vs.toArray++ws.toArray=(vs++ws).toArray:=by simp
 by_cases hw:ws=[]
 .exact Ky ⟨_,ho,rfl⟩ ⟨_,ho2,rfl⟩ fC seq_tuple_add dF cZ (cV _ _)
   (tuple_addW1 t b vs.toArray ws.toArray n n2 dd dd2 sl sl2 (by simpa using hv) (by simp[hw])) ⟨ho,ho2,h1 hw⟩
 .refine Ky ⟨_,ho,rfl⟩ ⟨_,ho2,rfl⟩ fC seq_tuple_add dF cZ (cV _ _)
   (tuple_addW2 t b vs.toArray ws.toArray n n2 dd dd2 sl sl2 (by simpa using hv) (by simpa using hw) (by rw[AJ,AJ];exact hsz)) ⟨ho,ho2,?_⟩
  rw[e];exact h2 hw
noncomputable def sIx(n d:Ag):As Ad->Ag
 |none=>d
 |some v=>if v<0 then (v+(n:Ad)).toNat else min v.toNat n
theorem ud(n d:Ag)(hd:d<=n)(o:As Ad):sIx n d o<=n:=by
 cases o with
 |none=>exact hd
 |some v=>
  show (if v<0 then (v+(n:Ad)).toNat else min v.toNat n)<=n
  by_cases hv:v<0
  .rw[AC hv];omega
  .rw[AH hv];exact Nat.min_le_right _ _
theorem XG(v:Ad)(n d:Ag):(if v<0 then max (v+(n:Ad)) 0 else min v (n:Ad))=((sIx n d (Ab v):Ag):Ad):=by
 show (if v<0 then max (v+(n:Ad)) 0 else min v (n:Ad))=(((if v<0 then (v+(n:Ad)).toNat else min v.toNat n):Ag):Ad)
 by_cases hv:v<0
 .simp only[AC hv];omega
 .simp only[AH hv];omega
theorem pU(lo hi:As Ad)(n:Ag):F9 lo hi 1 (n:Ad)=(((sIx n 0 lo:Ag):Ad),((sIx n n hi:Ag):Ad)):=by
 have h1:¬ ((1:Ad)<0):=by omega
 unfold F9;simp only[h1,HK];refine Bq ?_ ?_
 .cases lo with
  |none=>rfl
  |some v=>exact XG v n 0
 .cases hi with
  |none=>rfl
  |some v=>exact XG v n n
theorem qG(i j:Ag):EH (i:Ad) (j:Ad) 1=j-i:=by
 unfold EH;have h1:(1:Ad)>0:=by omega
 simp only[h1,JQ,Int.ediv_one];split<;>omega
theorem Vm(p:IH v o)(h:Q o s):AD (model prog w) A (Builtin.Slice.slicePartIndex v) Q E s:=by
 cases p with
 |none=>exact aY h
 |int i t=>exact slicePart_int h
theorem oP{lo:As Ad}{Q:Ad×Ad×Ag->At->Prop}(hs:s.heap.IsSliceOf sl vl vu .none)(pl:IH vl lo)(pu:IH vu hi)(h:Q (((sIx n 0 lo:Ag):Ad),1,sIx n n hi-sIx n 0 lo) s):AD (model prog w) A (bG (.ref sl) (pure (n:Ad))) Q E s:=by
 obtain⟨os,ă,hcs,hds⟩:=id hs;unfold bG Builtin.Slice.sliceFields;refine Ah (Ah (Bv ă hds (x:=vl) rfl (Ah (Bv ă hds (x:=vu) rfl (Ah (Bv ă hds (x:=.none) rfl (Az ?_)))))));refine Ah (aY ?_);show AD _ _ (if ((1:Ad)==0)=Aa then _ else _) _ _ s
 rw[AH (by decide)]
 refine Ah (Vm pl (Ah (Vm pu (Ah (Az ?_)))));show AD _ _ (match F9 lo hi 1 (n:Ad) with|(lo,hi)=>pure (lo,(1:Ad),EH lo hi 1)) _ _ s
 rw[pU lo hi n];show AD _ _ (pure (((sIx n 0 lo:Ag):Ad),(1:Ad),EH ((sIx n 0 lo:Ag):Ad) ((sIx n n hi:Ag):Ad) 1)) _ _ s;rw[qG];exact Az h
theorem uR(xs:AO Aj)(i k:Ag):((AK k).filterMap fun(m:Ag)=>xs[((i:Ad)+(m:Ad)*1).toNat]?).toArray=((xs.toList.drop i).take k).toArray:=by
 have e:(fun(m:Ag)=>xs[((i:Ad)+(m:Ad)*1).toNat]?)=λm=>xs[i+m]?:=by
  funext m
  have:((i:Ad)+(m:Ad)*1).toNat=i+m:=by omega
  rw[this]
 rw[e];have:=pick_run xs i k;rw[List.filterMap_map]at this;have e2:((λx=>xs[x]?) ∘ λx=>i+x)=λm=>xs[i+m]?:=rfl
 rw[e2]at this;rw[this]
theorem getItem_tuple_cut{lo:As Ad}{Q:Vq}(ht:K8 s.heap t items)(hs:s.heap.IsSliceOf sl vl vu .none)(pl:IH vl lo)(pu:IH vu hi)(hw:¬ (sIx items.size 0 lo=0/\sIx items.size items.size hi=items.size))(h:Q (.ref s.heap.objs.size) { s with heap:=s.heap.push { cls:=.type "tuple",data:=.seq ((items.toList.drop (sIx items.size 0 lo)).take (sIx items.size items.size hi-sIx items.size 0 lo)).toArray } })(hsz:items.size<=sizeLine):AD (model prog w) A (Lb (.ref t) (.ref sl)) Q E s:=by
 have ϡ:sizeOk (.seq ((items.toList.drop (sIx items.size 0 lo)).take (sIx items.size items.size hi-sIx items.size 0 lo)).toArray):=by
  show ((items.toList.drop (sIx items.size 0 lo)).take (sIx items.size items.size hi-sIx items.size 0 lo)).toArray.size<=sizeLine;rw[AJ,ER,Z_6,C1];omega
 have hj:sIx items.size items.size hi<=items.size:=ud _ _ (AT _) hi;obtain⟨os,ă,hcs,hds⟩:=id hs;have hTs:s.TypeIs (.ref sl) "slice" := ⟨os,ă,hcs⟩;unfold Lb
 try with_reducible refine CG ?_
 first|refine Ah (Az ?_)|skip
 refine Ah (wpAny_sequenceKey ht.typeIs (by decide) ?_)
 refine Ah (Cy (name:=Ao "__getitem__") ht.typeIs aZ
  (CZ aZ ht.typeIs entry_tuple_getitem ?_ (args_tuple_getitem _ _)))
 show AD _ _ (Builtin.Tuple.tupleItemsOf (.ref t) >>= _) _ _ s;refine Ah (tupleItemsOf_ ht ?_);refine Ah (wpAny_typeOf hTs ?_);rw[AC (by decide)]
 refine Ah (oP hs pl pu ?_);have hno:¬ ((((sIx items.size 0 lo:Ag):Ad)==0&&(1:Ad)==1&&(sIx items.size items.size hi-sIx items.size 0 lo)==items.size)=Aa):=by
  intro q;rw[Ap,Ap]at q;have q1:((sIx items.size 0 lo:Ag):Ad)=0:=eq_of_beq q.1.1;have q2:sIx items.size items.size hi-sIx items.size 0 lo=items.size:=eq_of_beq q.2;exact hw ⟨by omega,by omega⟩
 show AD _ _ (if (((sIx items.size 0 lo:Ag):Ad)==0&&(1:Ad)==1&&(sIx items.size items.size hi-sIx items.size 0 lo)==items.size)=Aa then _ else _) _ _ s
 rw[AH hno,uR]
 first
  |exact Ah (m:=Dq _) (C4 (Az ⟨_,rfl,Az h⟩) ϡ)
  |exact Ah (m:=Dq _) (C4 (Ah (Az (Az ⟨_,rfl,Az h⟩))) ϡ)
  |exact Ah (Ah (m:=Dq _) (C4 (Az (Az ⟨_,rfl,Az h⟩)) ϡ))
  |exact Ah (Ah (m:=Dq _) (C4 (Az ⟨_,rfl,Az h⟩) ϡ))
end
end HT
namespace L2
open PySem PySem.Spec PyProof.Rows
variable{xs:Ac V}{Z9:Ac Aj}{Y:St}
abbrev TO:=St->Hp->(As Ad->Hp->Prop)->Prop
noncomputable def PO(X:Cx)(e:As Aq)(t:TO):Prop:=
 ∀(pI:Pn)(s:At)(Y:St)(H:Hp)(Q:As Ad->Hp->Prop),Z6 X pI Y H s->t Y H Q ->
  AD (model X.prog X.w) X.A (evalPart e X.env) (λu s'=>∃ o H',Z6 X pI Y H' s'/\IH u o/\Q o H') X.xe s
def wF:TO:=λ_ H Q=>Q Af H
def ZzG(t:TE):TO:=λY H Q=>t Y H λx H1=>∃ i,x=.int i/\Q (Ab i) H1
section
variable{lo:As Aq}
theorem xF:PO X Af wF:=by
 intro pI s Y H Q I h;rw[evalPart_none];exact Az ⟨Af,H,I,.none,h⟩
theorem xE(h:PE X e te):PO X (Ab e) (ZzG te):=by
 intro pI s Y H Q I hw;rw[evalPart_some];refine LT (h pI s Y H _ I hw) λu s1 ⟨x,H1,I1,r1,q1⟩=>?_
 obtain⟨i,rfl,q⟩:=q1;obtain⟨t,rfl⟩:=r1;exact⟨Ab i,H1,I1,.int i t,q⟩
noncomputable def ļ(X:Cx)(r:V->As Ad->As Ad->Hp->VK->Prop):Prop:=
 ∀(pI:Pn)(s:At)(Y:St)(H:Hp)(x:V)(v vl vu:Aj)(lo hi:As Ad)(sl:Am)(Q:VK),Z6 X pI Y H s->Co x v->s.heap.IsSliceOf sl vl vu .none->IH vl lo->IH vu hi->r x lo hi H Q ->
  ∃ T id,Ir (.type T) "__getitem__" = pure (Ab (.builtin id))/\s.TypeIs v T/\AD (model X.prog X.w) X.A (Lb v (.ref sl)) (EP X pI Y Q) X.xe s
theorem ļ.or(h:ļ X r)(h':ļ X r'):ļ X (λx lo hi H Q=>r x lo hi H Q\/r' x lo hi H Q):=by
 intro pI s Y H x v vl vu lo hi sl Q I rx hs pl pu q;rcases q with q|q
 .exact h pI s Y H x v vl vu lo hi sl Q I rx hs pl pu q
 .exact h' pI s Y H x v vl vu lo hi sl Q I rx hs pl pu q
def tSl(r:V->As Ad->As Ad->Hp->VK->Prop)(te:TE)(tl th:TO):TE:=λY H Q=>te Y H λx H1=>tl Y H1 λl H2=>th Y H2 λu H3=>r x l u H3 Q
theorem uS(hr:ļ X r)(he:PE X e te)(hl:PO X lo tl)(hu:PO X hi th):PE X (.Subscript e (.Slice lo hi Af p2) pos) (tSl r te tl th):=by
 intro pI s Y H Q I h;refine Subscript_ (LT (he pI s Y H _ I h) λv s1 ⟨x,H1,I1,r1,q1⟩=>?_)
 refine wpAny_Slice (LT (hl pI s1 Y H1 _ I1 q1) λvl s2 ⟨l,H2,I2,pl,q2⟩=>LT (hu pI s2 Y H2 _ I2 q2) λvu s3 ⟨u,H3,I3,pu,q3⟩=>?_)
 rw[evalPart_none];refine Az ?_;have I4:Z6 X pI Y H3 { s3 with heap:=s3.heap.push { cls:=.type "slice",data:=.fields #[vl,vu,.none] } }:=I3.kept (t':=s3.toks) λb ob q=>Ar _ q
 obtain⟨T,id,hT,ht,hg⟩:=hr pI { s3 with heap:=s3.heap.push { cls:=.type "slice",data:=.fields #[vl,vu,.none] } } Y H3 x v vl vu l u s3.heap.objs.size Q I4 r1 (Heap.IsSliceOf.new ..) pl pu q3
 show AD (model X.prog X.w) X.A (subscriptTail e (.Slice lo hi Af p2) v (.ref s3.heap.objs.size)) (EP X pI Y Q) X.xe { s3 with heap:=s3.heap.push { cls:=.type "slice",data:=.fields #[vl,vu,.none] } }
 exact tail_any (ops:=[.ref s3.heap.objs.size,v]) ht hT hg (by with_unfolding_all rfl)
noncomputable def K7(xs:Ac V)(lo hi:As Ad):Ac V:=(xs.drop (HT.sIx xs.length 0 lo)).take (HT.sIx xs.length xs.length hi-HT.sIx xs.length 0 lo)
theorem Vt(xs:Ac V)(lo hi:As Ad):(K7 xs lo hi).length<=xs.length:=by
 unfold K7;rw[ER,Z_6];omega
def U_3(K:Fg):V->As Ad->As Ad->Hp->VK->Prop:=λx lo hi H Q=>∃ a xs,x=.ref a/\ð K H a xs /\
 ¬ (HT.sIx xs.length 0 lo=0/\HT.sIx xs.length xs.length hi=xs.length)/\∀ p,H p=Af->Q (.ref p) (upd H p (.H (K7 xs lo hi)))
theorem nh:ļ X (U_3 X.K):=by
 intro pI s Y H x v vl vu lo hi sl Q I rx hs pl pu h;obtain⟨a,xs,rfl,hx,hw,q⟩:=h;cases rx;obtain⟨Z9,r,ht,hz⟩:=I.tuple hx;have IO:Z9.toArray.size=xs.length:=by rw[AJ];exact r.length.symm
 refine⟨"tuple",_,PyProof.Rows.slot_tuple_getitem.lookup,ht.typeIs,?_⟩;refine HT.getItem_tuple_cut ht hs pl pu (by rw[IO];exact hw) ?_ (by rw[IO];exact hz)
 rw[IO];refine⟨.ref s.heap.objs.size,_,I.laid (t':=s.toks) (o:=.H (K7 xs lo hi)) (λb ob q=>Ar _ q) (AT _) ?_,rfl,q _ (I.hok.fresh (AT _))⟩
 exact⟨BZ (Vt xs lo hi) hz,_,(r.drop (HT.sIx xs.length 0 lo)).take (HT.sIx xs.length xs.length hi-HT.sIx xs.length 0 lo),Ko _ _⟩
def fQ(K:Fg):R2:=λx y H Q=>∃ a b xs ys,x=.ref a/\y=.ref b/\ð K H a xs/\ð K H b ys/\xs≠[]/\xs.length+ys.length<=sizeLine /\
 (ys=[]->Q (.ref a) H)/\(ys≠[]->∀ p,H p=Af->Q (.ref p) (upd H p (.H (xs++ys))))
theorem Bl.nil_iff(r:Bl xs us):us=[]↔xs=[]:=by
 cases r with
 |nil=>simp
 |cons _ _=>simp
theorem bt:ê X (CQ .Add) (fQ X.K):=by
 intro pI s Y H x y v u Q I rx ry h;obtain⟨a,b,xs,ys,rfl,rfl,ha,hb,hx,hz,q1,q2⟩:=h;cases rx;cases ry;obtain⟨Z9,r1,p1,_⟩:=I.tuple ha;obtain⟨Cl,r2,p2,_⟩:=I.tuple hb;refine HT.cat_tup p1 p2 (λz=>hx (r1.nil_iff.mp z)) (λz=>⟨.ref a,H,I,rfl,q1 (r2.nil_iff.mp z)⟩) (λz=>?_) (by rw[<-r1.length,<-r2.length];exact hz)
 refine⟨.ref s.heap.objs.size,_,I.laid (t':=s.toks) (o:=.H (xs++ys)) (λb ob q=>Ar _ q) (AT _) ?_,rfl,q2 (λw=>z (r2.nil_iff.mpr w)) _ (I.hok.fresh (AT _))⟩
 exact⟨by rw[BE];exact hz,_,r1.append r2,Ko _ _⟩
end
noncomputable def ī(n:Ag)(i:Ad):As Ag:=if 0<=i then (if i<n then Ab i.toNat else Af) else if -(n:Ad)<=i then Ab (i+n).toNat else Af
noncomputable def υ{α:Type}(xs:Ac α)(i:Ad):As α:=(ī xs.length i).bind λj=>xs[j]?
theorem XO(h:ī n i=Ab j):seqIndex? i n=Ab j/\j<n/\-(n:Ad)<=i/\i<n:=by
 unfold ī at h;by_cases h0:0<=i
 .rw[AC h0]at h;by_cases h1:i<n
  .rw[AC h1]at h;have e:i.toNat=j:=BX h;exact⟨by rw[Lm h0 h1,e],by omega,by omega,h1⟩
  .rw[AH h1]at h;cases h
 .rw[AH h0]at h;by_cases h1:-(n:Ad)<=i
  .rw[AC h1]at h;have e:(i+n).toNat=j:=BX h;exact⟨by rw[KD (by omega) h1,e],by omega,h1,by omega⟩
  .rw[AH h1]at h;cases h
theorem XX{xs:Ac α}{v:α}(h:υ xs i=Ab v):∃ j,seqIndex? i xs.length=Ab j/\xs[j]?=Ab v/\j<xs.length/\-(xs.length:Ad)<=i/\i<xs.length:=by
 unfold υ at h;cases e:ī xs.length i with
 |none=>rw[e]at h;cases h
 |some j=>
  rw[e]at h;obtain⟨h1,h2,h3,h4⟩:=XO e;exact⟨j,h1,h,h2,h3,h4⟩
def Tv(b:Aq):Prop:=∀ o i,subscripted b Ae o i=operate [o,i] (Lb o i)
noncomputable def ĸ(X:Cx)(r:R2):Prop:=
 ∀(value slice:Aq)(pI:Pn)(s:At)(Y:St)(H:Hp)(x y:V)(v u:Aj)(Q:VK),Z6 X pI Y H s->Co x v->Co y u->r x y H Q ->
  subscripted slice Ae v u=operate [v,u] (Lb v u)->AD (model X.prog X.w) X.A (subscriptTail value slice v u) (EP X pI Y Q) X.xe s
noncomputable def MtR(X:Cx)(id:Du)(r:V->Ac V->Hp->VK->Prop):Prop:=
 ∀(pI:Pn)(s:At)(Y:St)(H:Hp)(x:V)(xs:Ac V)(v:Aj)(us:Ac Aj)(Q:VK),Z6 X pI Y H s->Co x v->Bl xs us->r x xs H Q ->
  AD (model X.prog X.w) X.A (call (.builtin id) (v::us)) (EP X pI Y Q) X.xe s
section
variable{a:Aq}
theorem ĸ.or(h:ĸ X r)(h':ĸ X r'):ĸ X (λx y H Q=>r x y H Q\/r' x y H Q):=by
 intro value slice pI s Y H x y v u Q I rx ry q hs;rcases q with q|q
 .exact h value slice pI s Y H x y v u Q I rx ry q hs
 .exact h' value slice pI s Y H x y v u Q I rx ry q hs
theorem jW(hr:ĸ X r)(ha:PE X a ta)(hb:PE X b tb)(hs:Tv b):PE X (.Subscript a b pos) (tOp r ta tb):=by
 intro pI s Y H Q I h;exact Subscript_ (QK ha hb I h λv u s2 x y H2 I2 rx ry q=>hr a b pI s2 Y H2 x y v u Q I2 rx ry q (hs _ _))
def U_6(K:Fg):R2:=λx y H Q=>∃ p xs i v,x=.ref p/\y=.int i/\fI K H p xs/\υ xs i=Ab v/\Q v H
def U_5(K:Fg):R2:=λx y H Q=>∃ p xs i v,x=.ref p/\y=.int i/\ð K H p xs/\υ xs i=Ab v/\Q v H
theorem zK:ĸ X (U_6 X.K):=by
 intro value slice pI s Y H x y v u Q I rx ry h hs;obtain⟨p,xs,i,z,rfl,rfl,hq,he,q⟩:=h;cases rx;obtain⟨t,rfl⟩:=ry;obtain⟨Z9,r,pl,hz⟩:=I.list hq;obtain⟨j,h1,h2,h3,h4,h5⟩:=XX he;obtain⟨w,ew,Â⟩:=r.get h2;have hl:=r.length;have hn:=MC;have fin:EP X pI Y Q w s:=⟨z,H,I,Â,q⟩;by_cases h0:0<=i
 .have hj:i.toNat=j:=by
   rw[Lm h0 h5]at h1;exact BX h1
  exact item_listR pl.isList h0 (by omega) (by rw[hj];simpa using ew) fin hs
 .have hj:(i+(Z9.toArray.size:Ad)).toNat=j:=by
   rw[KD (by omega) h4]at h1
   rw[AJ,<-hl];exact BX h1
  exact bA (x:=w) pl.isList.typeIs fF.lookup
   (wpAny_getItem_list_neg (Q:=λr s'=>r=w/\EP X pI Y Q r s') pl.isList (by omega) (by rw[AJ]<;>omega) (by omega) (by rw[hj];simpa using ew) ⟨rfl,fin⟩) hs
theorem zb:ĸ X (U_5 X.K):=by
 intro value slice pI s Y H x y v u Q I rx ry h hs;obtain⟨p,xs,i,z,rfl,rfl,hq,he,q⟩:=h;cases rx;obtain⟨t,rfl⟩:=ry;obtain⟨Z9,r,pl,hz⟩:=I.tuple hq;obtain⟨j,h1,h2,h3,h4,h5⟩:=XX he;obtain⟨w,ew,Â⟩:=r.get h2;have hl:=r.length;have hn:=MC;have fin:EP X pI Y Q w s:=⟨z,H,I,Â,q⟩;exact bA (x:=w) pl.typeIs slot_tuple_getitem.lookup
  (getItem_tuple (j:=j) (Q:=λr s'=>r=w/\EP X pI Y Q r s') pl (by omega) (by omega) (by rw[AJ,<-hl];exact h1) (by simpa using ew) ⟨rfl,fin⟩) hs
theorem pP(Z9:Ac Aj)(n j:Ag)(u:Aj):Bx (·.setIfInBounds j u) { cls:=.type "list",data:=.seq Z9.toArray n }={ cls:=.type "list",data:=.seq (Z9.set j u).toArray n }:=by
 simp[Bx]
theorem Z6.L(I:Z6 X pI Y H s)(h:H p=Ab (.L xs)):
  ∃(Z9:Ac Aj)(n:Ag),Bl xs Z9/\s.heap.get? p=Ab { cls:=.type "list",data:=.seq Z9.toArray n }/\xs.length<=sizeLine:=by
 obtain⟨z,Z9,n,r,e⟩:=I.hok p _ h;exact⟨Z9,n,r,e,z⟩
theorem Z6.lstUpd(I:Z6 X pI Y H s)(h:H p=Ab (.L xs))(ho:s.heap.get? p=Ab { cls:=.type "list",data:=.seq Z9.toArray n })(hf:f { cls:=.type "list",data:=.seq Z9.toArray n }={ cls:=.type "list",data:=.seq its'.toArray n' })(r:Bl ys its')(hz:ys.length<=sizeLine)(t:Ag):Z6 X pI Y (upd H p (.L ys)) {s with heap:=s.heap.update p f,toks:=t}:=by
 have e:(s.heap.update p f).get? p=Ab { cls:=.type "list",data:=.seq its'.toArray n' }:=by
  rw[Ck f ho (by rw[hf]<;>rfl),hf]
 refine I.write (x:=p) (e:=p) (by rw[h];trivial) (.inl rfl) (λb u hb q=>(Ch _ _ (A8 hb)).trans q) ⟨_,e⟩ ?_
 exact⟨hz,its',n',r,e⟩
def fP:V->V->V->Hp->(Hp->Prop)->Prop:=λo i v H Q=>∃ p xs k j,o=.ref p/\i=.int k/\H p=Ab (.L xs)/\ī xs.length k=Ab j/\Q (upd H p (.L (xs.set j v)))
theorem rY:UY X fP:=by
 intro pI s Y H o i v ov iv u Q I ro ri rv h;obtain⟨p,xs,k,j,rfl,rfl,hp,hj,q⟩:=h;cases ro;obtain⟨t,rfl⟩:=ri;obtain⟨Z9,n,r,ho,hz⟩:=I.L hp;obtain⟨h1,h2,h3,h4⟩:=XO hj;have hl:=r.length;have hn:=MC;have I':Z6 X pI Y (upd H p (.L (xs.set j v))) {s with heap:=s.heap.update p (Bx (·.setIfInBounds j u))}:=
  I.lstUpd hp ho (pP Z9 n j u) (r.set rv j) (by rw[BW];exact hz) s.toks
 by_cases h0:0<=k
 .have hk:k.toNat=j:=by
   rw[Lm h0 h4]at h1;exact BX h1
  exact PySem.W.ki_setAt ho h0 (by omega) (by rw[AJ,<-hl];exact h4) (by rw[hk];exact⟨_,I',q⟩)
 .have hk:(k+(Z9.toArray.size:Ad)).toNat=j:=by
   rw[KD (by omega) h3]at h1
   rw[AJ,<-hl];exact BX h1
  exact PySem.W.ki_setBack ho (by omega) (by rw[AJ,<-hl];exact h3) (by omega) (by rw[hk];exact⟨_,I',q⟩)
theorem oV(lo hi:As Ad)(n:Ag):(F1 lo hi Af n).1=((HT.sIx n 0 lo:Ag):Ad)/\(F1 lo hi Af n).2.1=((HT.sIx n n hi:Ag):Ad)/\(F1 lo hi Af n).2.2=1:=by
 refine⟨?_,?_,rfl⟩
 .cases lo with
  |none=>simp[F1,HT.sIx]
  |some i=>
   simp only[F1,HT.sIx,aT,show (1:Ad)>0 by decide,JQ]
   by_cases h:i<0
   .simp only[h,JQ]<;>omega
   .simp only[h,HK]<;>omega
 .cases hi with
  |none=>simp[F1,HT.sIx]
  |some i=>
   simp only[F1,HT.sIx,aT,show (1:Ad)>0 by decide,JQ]
   by_cases h:i<0
   .simp only[h,JQ]<;>omega
   .simp only[h,HK]<;>omega
theorem oZ(Z9:Ac Aj)(lo hi:As Ad):slicePick Z9.toArray lo hi Af=((Z9.drop (HT.sIx Z9.length 0 lo)).take (HT.sIx Z9.length Z9.length hi-HT.sIx Z9.length 0 lo)).toArray:=by
 obtain⟨h1,h2,h3⟩:=oV lo hi Z9.toArray.size;unfold slicePick;rw[h1,h2,h3];simp only[sliceRange_one,pick_run,AJ]<;>rfl
def U_4(K:Fg):V->As Ad->As Ad->Hp->VK->Prop:=λx lo hi H Q=>∃ a xs,x=.ref a/\fI K H a xs/\∀ p,H p=Af->Q (.ref p) (upd H p (.L (K7 xs lo hi)))
theorem yU:ļ X (U_4 X.K):=by
 intro pI s Y H x v vl vu lo hi sl Q I rx hs pl pu h;obtain⟨a,xs,rfl,hx,q⟩:=h;cases rx;obtain⟨Z9,r,ht,hz⟩:=I.list hx;have IO:=r.length;refine⟨"list",_,fF.lookup,ht.isList.typeIs,?_⟩;refine wpAny_getItem_list_slice ht.isList hs pl pu .none (by simp) ?_ (by rw[AJ]<;>omega)
 rw[oZ,<-IO];refine⟨.ref s.heap.objs.size,_,I.laid (t':=s.toks) (o:=.L (K7 xs lo hi)) (λb ob q=>Ar _ q) (AT _) ?_,rfl,q _ (I.hok.fresh (AT _))⟩
 exact⟨BZ (Vt xs lo hi) hz,_,0,(r.drop (HT.sIx xs.length 0 lo)).take (HT.sIx xs.length xs.length hi-HT.sIx xs.length 0 lo),AB _ rfl⟩
theorem Vi:KU X (.builtin "len") (λxs H Q=>∃ p ys,xs=[.ref p]/\(fI X.K H p ys\/ð X.K H p ys)/\Q (.int ys.length) H):=by
 intro pI s Y H xs us Q I r h;obtain⟨p,ys,rfl,hq,q⟩:=h;obtain⟨u,rfl,rx⟩:=Jq r;cases rx;have hn:=MC;rcases hq with hq|hq
 .obtain⟨Z9,r',pl,hz⟩:=I.list hq;have IO:=r'.length;exact Calls.call_len_list pl.isList (by simp only[AJ]<;>omega) ⟨.int ys.length,H,I.tok _,⟨s.toks+1,by rw[AJ,IO]⟩,q⟩
 .obtain⟨Z9,r',pl,hz⟩:=I.tuple hq;have IO:=r'.length;exact len_tuple pl (by simp only[AJ]<;>omega) ⟨.int ys.length,H,I.tok _,⟨s.toks+1,by rw[AJ,IO]⟩,q⟩
theorem pB:KU X (.builtin "len") (λxs H Q=>∃ z,xs=[.str z]/\z.length<=sizeLine/\Q (.int z.length) H):=by
 intro pI s Y H xs us Q I r h;obtain⟨z,rfl,hz,q⟩:=h;obtain⟨u,rfl,t,rfl⟩:=Jq r;have hn:=MC;exact len_str (by omega) ⟨.int z.length,H,I.tok _,⟨_,rfl⟩,q⟩
theorem Vh:KU X (.type "list") (λxs H Q=>∃ p ys,xs=[.ref p]/\(fI X.K H p ys\/ð X.K H p ys)/\∀ l,H l=Af->Q (.ref l) (upd H l (.L ys))):=by
 intro pI s Y H xs us Q I r h;obtain⟨p,ys,rfl,hq,q⟩:=h;obtain⟨u,rfl,rx⟩:=Jq r;cases rx;have fin:∀(Z9:Ac Aj),Bl ys Z9->ys.length<=sizeLine->∀(h':AS)(c':Ag),(∀ b o',s.heap.get? b=Ab o'->h'.get? b=Ab o') ->
   h'.get? s.heap.objs.size=Ab { cls:=.type "list",dict:=Af,data:=.seq Z9.toArray c',slots:=#[] }->EP X pI Y Q (.ref s.heap.objs.size) {s with heap:=h'}:=λZ9 r' hz h' c' kp e=>
  ⟨.ref s.heap.objs.size,_,I.laid (t':=s.toks) kp (AT _) (show ObjOk X.prog X.w _ h' _ (.L ys) from ⟨hz,Z9,c',r',e⟩),rfl,q _ (I.hok.fresh (AT _))⟩
 rcases hq with hq|hq
 .obtain⟨Z9,r',pl,hz⟩:=I.list hq;have IO:=r'.length;obtain⟨o,ho,hc,n,hd⟩:=pl.isList;exact call_list_seq p (.inl rfl) ho hc hd (λh' c' kp e=>fin Z9 r' hz h' c' kp e) (by simp only[AJ]<;>omega)
 .obtain⟨Z9,r',pl,hz⟩:=I.tuple hq;have IO:=r'.length;obtain⟨o,ho,hc,n,hd⟩:=pl;exact call_list_seq p (.inr rfl) ho hc hd (λh' c' kp e=>fin Z9 r' hz h' c' kp e) (by simp only[AJ]<;>omega)
theorem Vk:KU X (.type "tuple") (λxs H Q=>∃ p ys,xs=[.ref p]/\((fI X.K H p ys/\∀ l,H l=Af->Q (.ref l) (upd H l (.H ys)))\/(ð X.K H p ys/\Q (.ref p) H))):=by
 intro pI s Y H xs us Q I r h;obtain⟨p,ys,rfl,h⟩:=h;obtain⟨u,rfl,rx⟩:=Jq r;cases rx;rcases h with ⟨hq,q⟩|⟨hq,q⟩
 .obtain⟨Z9,r',pl,hz⟩:=I.list hq;have IO:=r'.length;refine call_tuple_list pl.isList (λh' kp=>?_) (by simp only[AJ]<;>omega)
  have I1:Z6 X pI Y H {s with heap:=h'}:=I.kept (t':=s.toks) kp
  have I2:Z6 X pI Y (upd H h'.objs.size (.H ys)) { s with heap:=h'.push { cls:=.type "tuple",data:=.seq Z9.toArray } }:=
   I1.laid (t':=s.toks) (λb o e=>Ar _ e) (AT _) (show ObjOk X.prog X.w _ _ _ (.H ys) from ⟨hz,Z9,r',Ko _ _⟩)
  exact⟨.ref h'.objs.size,_,I2,rfl,q _ (I1.hok.fresh (AT _))⟩
 .obtain⟨Z9,r',pl,hz⟩:=I.tuple hq;exact call_tuple_same pl ⟨.ref p,H,I,rfl,q⟩
def tyV(K:Fg)(T:Du)(x:V)(H:Hp):Prop:=match x with
  |.str _=>T = "str"
  |.int _=>T = "int"
  |.ref p=>(T = "list"/\∃ xs,fI K H p xs)\/(T = "tuple"/\∃ o,K.lookup p=Ab o/\o.cls=.type "tuple"/\o.dict=Af) \/
      (T = "dict"/\((∃ kvs,H p=Ab (.dK kvs))\/∃ kvs,H p=Ab (.dT kvs)))\/(T = "set"/\∃ S n,H p=Ab (.set S n))
  |_=>BV
theorem ox(I:Z6 X pI Y H s)(r:Co x v)(ty:tyV X.K T x H):s.TypeIs v T/\∀ a,v=.ref a->∃ ob,s.heap.get? a=Ab ob/\ob.dict=Af:=by
 cases x with
 |str z=>
  obtain⟨t,rfl⟩:=r;cases (show T = "str" from ty)
  exact⟨typeIs_str s z t,λ_ e=>nomatch e⟩
 |int i=>
  obtain⟨t,rfl⟩:=r;cases (show T = "int" from ty)
  exact⟨typeIs_int s i t,λ_ e=>nomatch e⟩
 |ref p=>
  cases r;rcases ty with ⟨rfl,xs,hq⟩|⟨rfl,o,hk,hc,hd⟩|⟨rfl,hk⟩|⟨rfl,S,n,hk⟩
  .obtain⟨Z9,_,pl,_⟩:=I.list hq;refine⟨pl.isList.typeIs,λa e=>?_⟩
   cases e;obtain⟨o,n,e,c,hd,_⟩:=pl;exact⟨o,e,hd⟩
  .refine⟨⟨o,I.kIn p o hk,hc⟩,λa e=>?_⟩
   cases e;exact⟨o,I.kIn _ o hk,hd⟩
  .have z:∃ o,s.heap.get? p=Ab o/\o.ExactDict:=by
    rcases hk with ⟨kvs,hk⟩|⟨kvs,hk⟩
    .obtain⟨_,_,_,_,o,_,_,e,ex,_⟩:=I.hok p _ hk;exact⟨o,e,ex⟩
    .obtain⟨_,_,_,_,o,_,_,e,ex,_⟩:=I.hok p _ hk;exact⟨o,e,ex⟩
   obtain⟨o,e,ex⟩:=z;refine⟨⟨o,e,ex.1⟩,λa e2=>?_⟩
   cases e2;exact⟨o,e,ex.2.1⟩
  .obtain⟨o,_,_,_,e,ex,_⟩:=I.hok p _ hk;refine⟨⟨o,e,ex.1⟩,λa e2=>?_⟩
   cases e2;exact⟨o,e,ex.2.1⟩
 |_=>exact EC ty
def tBM(K:Fg)(T:Du)(r:V->Ac V->Hp->VK->Prop)(to:TE)(t:TA):TE:=λY H Q=>to Y H λx H1=>tyV K T x H1/\t Y H1 λxs H2=>r x xs H2 Q
variable{o e:Aq}{apos õ:Bf}{T id:Du}
theorem Zl{X:Cx}{es:Ac Aq}{to:TE}{t:TA}{name:An}{r:V->Ac V->Hp->VK->Prop}(pa:PlainAttrs T)(slot:Slot T name id)(ϓ:typeOf (.builtin id)=pure (.type "method_descriptor"))(hm:MtR X id r)(ho:PE X o to)(ha:PA X (e::es) t)(À:Km o name X.env (eval o X.env)=eval o X.env:=by rfl)(Ω:((C8 õ (AN (e::es) X.env)).all (λx=>!x.1)&&(Nn õ (Ll [] X.env)).all (λx=>x.1.isSome)
   && decide ((e::es).length+([]:Ac FY).length+(if ([]:Ac FY).isEmpty then 0 else 1)<30))=Aa:=by rfl)(Á:(apos.endLine==õ.line)=Aa:=by rfl)(hs:AN (e::es) X.env=(Ae,eval e X.env)::AN es X.env:=by rfl)(Ō:(C8 õ (AN es X.env)).any (·.1)=Ae:=by rfl):PE X (.Call (.Attribute o name apos) (e::es) [] õ) (tBM X.K T r to t):=by
 intro pI s Y H Q I h;refine wpAny_Call_method_late À Ω Á rfl (LT (ho pI s Y H _ I h) λv s1 ⟨x,H1,I1,r1,ty,q1⟩=>?_)
 obtain⟨h1,h2⟩:=ox I1 r1 ty;refine⟨T,id,pa,slot,ϓ,h1,h2,?_⟩;have hA:=ha õ pI s1 Y H1 _ I1 q1;rw[hs]at hA ⊢;refine Calls.callWith_builtin (by show (Ae||(C8 õ (AN es X.env)).any (·.1))=Ae;rw[Ō]<;>rfl) (Calls.evalArgs_plain ?_)
 exact LT hA λus s2 ⟨vs,H2,I2,r2,q2⟩=>hm pI s2 Y H2 x vs v us Q I2 r1 r2 q2
end
noncomputable def MtM(X:Cx)(id:Du)(r:V->Ac V->Hp->VK->Prop):Prop:=
 ∀(pI:Pn)(s:At)(Y:St)(H:Hp)(x:V)(xs:Ac V)(v:Aj)(us:Ac Aj)(Q:VK),Z6 X pI Y H s->Co x v->Bl xs us->r x xs H Q ->
  AD (model X.prog X.w) X.A (call (.builtin id) (v::us)) (EP X pI Y Q) X.xe s
theorem Bl.one:∀{x:V}{us:Ac Aj},Bl [x] us->∃ u,us=[u]/\Co x u
 |_,_,.cons r .nil=>⟨_,rfl,r⟩
theorem Bl.zero:∀{us:Ac Aj},Bl [] us->us=[]
 |_,.nil=>rfl
theorem Bl.eraseIdx:∀{xs:Ac V}{us:Ac Aj}(i:Ag),Bl xs us->Bl (xs.eraseIdx i) (us.eraseIdx i)
 |_,_,_,.nil=>.nil
 |_,_,0,.cons _ t=>t
 |_,_,i+1,.cons r t=>.cons r (Bl.eraseIdx i t)
theorem Bl.reverse(h:Bl xs us):Bl xs.reverse us.reverse:=by
 induction h with
 |nil=>exact .nil
 |cons r t ih=>rw[Gx,Gx];exact Bl.append ih (.cons r .nil)
section
variable{Y:St}
theorem Z6.lset(I:Z6 X pI Y H s)(hH:H l=Ab (.L xs))(e:s.heap.get? l=Ab { cls:=.type "list",data:=.seq Z9.toArray n })(hf:f Z9.toArray=its'.toArray)(hv:Bl ys its')(hz:ys.length<=sizeLine):Z6 X pI Y (upd H l (.L ys)) {s with heap:=s.heap.update l (Bx f),toks:=t'}:=by
 have q:=PySem.IsL.update e f;rw[hf]at q;refine I.write (x:=l) (e:=l) (by rw[hH];exact trivial) (.inl rfl) (λb' u hb hu=>(Ch s.heap (Bx f) (A8 hb)).trans hu) ⟨_,q⟩ ?_
 exact⟨hz,its',_,hv,q⟩
theorem Z6.lnew(I:Z6 X pI Y H s)(hv:Bl ys Z9)(hz:ys.length<=sizeLine):
  Z6 X pI Y (upd H s.heap.objs.size (.L ys)) { s with heap:=s.heap.push { cls:=.type "list",data:=.seq Z9.toArray },toks:=t' }:=
 I.laid (λ_ _ q=>Ar _ q) (AT _) ⟨hz,Z9,0,hv,AB _ rfl⟩
theorem Z6.fresh(I:Z6 X pI Y H s):H s.heap.objs.size=Af:=I.hok.fresh (AT _)
theorem Z6.lstM(I:Z6 X pI Y H s)(hH:H l=Ab (.L xs)):xs.length<=sizeLine/\∃(Z9:Ac Aj)(n:Ag),Bl xs Z9/\xs.length=Z9.length/\s.heap.get? l=Ab { cls:=.type "list",data:=.seq Z9.toArray n }:=by
 obtain⟨z,Z9,n,r,e⟩:=I.hok l _ hH;exact⟨z,Z9,n,r,r.length,e⟩
theorem tZ(h:n<=sizeLine):Gg n=Ae:=by
 unfold Gg;exact Bw (by omega)
end
def yG:V->Ac V->Hp->VK->Prop:=λx vs H Q=>∃ l xs y,x=.ref l/\vs=[y]/\H l=Ab (.L xs)/\xs.length<sizeLine/\Q .O (upd H l (.L (xs++[y])))
theorem rS:MtM X "list.append" yG:=by
 intro pI s Y H x vs v us Q I rx rv h;obtain⟨l,xs,y,rfl,rfl,hH,hz,q⟩:=h;cases rx;obtain⟨u,rfl,ru⟩:=rv.one;obtain⟨z,Z9,n,r,hl,e⟩:=I.lstM hH;refine call_meets F.slot_list_append ⟨_,e,rfl⟩ F.entry_list_append (F.args_list_append_2 _ _) (PySem.list_append l Z9.toArray n u (by rw[AJ];omega)) ⟨e,?_⟩
 refine⟨.O,_,I.lset (its':=Z9++[u]) hH e (by simp) (r.append (.cons ru .nil)) ?_,rfl,q⟩
 rw[BE,Er];omega
def yF:V->Ac V->Hp->VK->Prop:=λx vs H Q=>∃ l b xs zs,x=.ref l/\vs=[.ref b]/\H l=Ab (.L xs)/\H b=Ab (.L zs)/\xs.length+zs.length<=sizeLine/\Q .O (upd H l (.L (xs++zs)))
theorem rR:MtM X "list.extend" yF:=by
 intro pI s Y H x vs v us Q I rx rv h;obtain⟨l,b,xs,zs,rfl,rfl,hH,hB,hz,q⟩:=h;cases rx;obtain⟨u,rfl,ru⟩:=rv.one;cases ru;obtain⟨z,Z9,n,r,hl,e⟩:=I.lstM hH;obtain⟨z2,Cl,n2,r2,hl2,e2⟩:=I.lstM hB;have hsz:Z9.toArray.size+Cl.toArray.size<=sizeLine:=by rw[AJ,AJ];omega
 have Ā:¬ (!Z9.toArray.isEmpty&&Gg (Z9.toArray.size+Cl.toArray.size))=Aa:=by
  rw[tZ hsz,Hu];exact AX
 refine call_meets F.slot_list_extend ⟨_,e,rfl⟩ F.entry_list_extend (F.args_list_extend_2 _ _)
  (AutoSeq1.list_extend_list_list_0 l Z9.toArray n b Cl.toArray n2 Ā (by rw[AJ];omega) (by omega)) ⟨e,e2,?_⟩
 refine⟨.O,_,I.lset (its':=Z9++Cl) hH e (by simp) (r.append r2) ?_,rfl,q⟩
 rw[BE];omega
end L2
namespace Att
open PySem PySem.W PySem.Calls PyProof.Rows
variable{l:GJ}
theorem oS:∀(ns:Ac Ad)(vs:Ac Aj),WellAll P h vs (ns.map eJ)->G2 vs ns:=by
 intro ns
 induction ns with
 |nil=>
  intro vs w;rw[G7]at w;cases w;exact .nil
 |cons n ns ih=>
  intro vs w;rw[BA]at w;cases w with
  |cons a b=>
   cases a;exact .cons _ _ (ih _ b)
theorem qP(hn:l.most=Ab n)(Ų:l.row.toRowW.claim.pre args=Aa)(hwl:WellAll P h vals args):
  ∃ a vs ns,vals=[Ds a]/\args=[WData.list (ns.map eJ)]/\h.get? a=Ab { cls:=.type "list",data:=.seq vs.toArray }/\G2 vs ns/\ns.length<=n:=by
 have hsh:WShape.hasAll [] args [.list .int]=Aa:=(pre_splitW Ų).1;have hc:l.pre.holds [] {args:=args}=Aa:=(pre_splitW Ų).2;obtain⟨d,r,rfl,h1,h2⟩:=hasAllW_cons hsh;obtain rfl:=hasAllW_nil h2;obtain⟨xs,rfl,h3⟩:=hasW_list h1;obtain⟨ns,rfl⟩:=items_int h3;have IO:ns.length<=n:=by
  unfold OpenLaw.pre at hc;have h4:(WTm.not (.lt (.lit (.int (n:Ad))) (.len (.arg 0)))).holds [] {args:=[.list (ns.map .int)]}=Aa:=by
   have h4:=(holds_andW hc).1;rw[hn]at h4;exact h4
  have h5:=condW_of h4 (w_not (w_lt w_lit (w_len_list (w_arg rfl))));rw[AG]at h5;refine Nat.le_of_not_lt λq=>?_
  have q':(n:Ad)<((ns.length:Ag):Ad):=by omega
  first
   |(rw[Bo q']at h5;exact absurd h5 (by decide))
   |(simp at h5;omega)
 cases hwl with
 |cons w1 w2=>
  cases w2;cases w1 with
  |list ho ń=>exact⟨_,_,ns,rfl,rfl,ho,oS ns _ ń,IO⟩
theorem qV(l:GJ)(args:Ac WData):l.row.toRowW.claim.post args (.bool Aa) args=Aa:=
 postW_of (r:=l.row.toRowW) (X:=(Aa==Aa))
  (show eK [] (.bool Aa) .bool=Aa by first|rfl|decide|simp[eK,WShape.arms,WShape.armsAll])
  (show (WTm.eq .res (.lit (.bool Aa))).value [] {args:=args,res:=Ab (.bool Aa),after:=args}=Ab (.bool (Aa==Aa)) from w_eq_bool (w_res rfl) w_lit) rfl
theorem attach_call(hn:l.most=Ab n)(hdf:d.params.defaults=[])(call:∀(w:AM)(s₀ s₁:At)(mg mb:An->As Aj)(fa:Am)(o:Dr)(pm cd doc:Aj)(a:Am)(vs:Ac Aj)(ns:Ac Ad),
   Ground q loose [] XP w s₀ mg mb s₁.heap->YP w s₁.heap ->
   s₁.heap.get? fa=Ab o->o.data=.func (docDef d.name d.params d.body d.scope pm cd doc)->s₁.heap.CodeRec cd d.name->mg d.name=Ab (.ref fa) ->
   s₁.heap.get? a=Ab { cls:=.type "list",data:=.seq vs.toArray }->G2 vs ns->ns.length<=n->s₁.gens=#[] ->
   F0 (model l.prog w) Iw (.call (.ref fa) ⟨[.ref a],[]⟩) (λr s'=>r=.ok (.ret (.bool Aa))/\OldK s₁.heap s'.heap/\s'.os=s₁.os/\Go s'.gens) s₁):WalkO q loose XP YP l.row.toRowW d [] (λf vs=>LZ f vs):=by
 intro w s₀ s₁ mg mb G Y_ fa o pm cd doc dV kV ho hd ϒ hD ā hg args vals as Ų hlay hrd hwl hlo;obtain rfl:dV=.none:=Dflts.none hD hdf;obtain rfl:kV=.none:=Dflts.noKw hD;obtain⟨a,vs,ns,rfl,rfl,ŋ,δ,IO⟩:=qP hn Ų hwl;refine enter_call (Hg (call w s₀ s₁ mg mb fa o pm cd doc a vs ns G Y_ ho (fd_plain hd) ϒ ā ŋ δ IO hg) λr s' hq=>?_)
 obtain⟨rfl,h2,h3,h4⟩:=hq;exact⟨.inl ⟨.bool Aa,.bool Aa,[],rfl,λ_=>rfl,.bool Aa,qV l _,λ_=>⟨List.Pairwise.nil,λ_ hm=>(nomatch hm)⟩⟩,h2,h3,h4⟩
end Att
namespace L2
open PySem PySem.Spec PyProof.Rows
theorem Vv:∀{vs:Ac Aj}{ns:Ac Ad},G2 vs ns->Bl (ns.map V.int) vs
 |_,_,.nil=>.nil
 |_,_,.cons n t h=>.cons ⟨t,rfl⟩ (Vv h)
def QO(H:Hp):Prop:=∀ b,H b=Af\/∃ o xs,H b=Ab (.frz o (.L xs))
theorem tJ{K:Fg}(KX:K.In s₁.heap)(hns:s₁.heap.Ns Bt mg)(hb:s₁.heap.Ns JX mb)(Ņ:∀ x:An,x≠"__name__"->mb x=Dt x)(hlim:s₁.heap.NoLimit)(hg:s₁.gens=#[])(ha:s₁.heap.get? a=Ab { cls:=.type "list",data:=.seq vs.toArray })(hi:G2 vs ns)(hl:ns.length<=sizeLine)(hr:gV k Iw)(F:∀ base:AS,K.In base->base.Ns Bt mg->û P w K mg base CX k fa fd [x] sp)(hbind:∀(s:At)(u:Aj),Iu s fd ⟨[u],[]⟩ [(x,u)])(Ŝ:∀ H:Hp,QO H->fI K H a (ns.map V.int)->sp [.ref a] H (λv _=>v=.bl Aa) λ_ _ _=>BV)(hCX:∀ H e s',CX [] H s₁ (λ_ _ _=>BV) e s'->BV):F0 (model P w) Iw (.call (.ref fa) ⟨[.ref a],[]⟩) (λr s'=>r=.ok (.ret (.bool Aa))/\OldK s₁.heap s'.heap/\s'.os=s₁.os/\Go s'.gens) s₁:=by
 have rv:=Vv hi;have lenV:=hi.length
 have core:∀ H:Hp,QO H->fI K H a (ns.map V.int)->ì P w H s₁.heap->(∀ b,H b≠Af->b=a)->(H a≠Af->K.lookup a=Af) ->
   F0 (model P w) Iw (.call (.ref fa) ⟨[.ref a],[]⟩) (λr s'=>r=.ok (.ret (.bool Aa))/\OldK s₁.heap s'.heap/\s'.os=s₁.os/\Go s'.gens) s₁:=by
  intro H hO hS hok hA hK;have ϛ:∀{b:Am}{o:Dr},s₁.heap.get? b=Ab o->H b=Af->(Kc s₁.heap H).get? b=Ab o:=λe n=>tO e n
  have Č:∀{b:Am}{o:Dr}{es:AO DictEntry}{ep:Ag},s₁.heap.get? b=Ab o->o.data=.dict es ep->H b=Af:=λ{b o es ep} e d=>by
   cases q:H b with
   |none=>rfl
   |some u=>
    have e':b=a:=hA b (by rw[q];simp)
    subst e';rw[ha]at e;cases e;have d':Ni vs.toArray _=Data.dict es ep:=d;cases d'
  have nsK:∀{b:Am}{m:An->As Aj},s₁.heap.Ns b m->(Kc s₁.heap H).Ns b m:=λ{b m} ⟨o,es,ep,e,d,r⟩=>⟨o,es,ep,ϛ e (Č e d),d,r⟩
  have hKb:K.In (Kc s₁.heap H):=λb o e=>ϛ (KX b o e) (by
   cases q:H b with
   |none=>rfl
   |some u=>
    have e':b=a:=hA b (by rw[q];simp)
    subst e';rw[hK (by rw[q];simp)]at e;cases e)
  have hM:Mod K mg (Kc s₁.heap H):=⟨hKb,nsK hns,⟨mb,nsK hb,Ņ⟩,let ⟨mc,h1,h2⟩:=hlim;⟨mc,nsK h1,h2⟩⟩
  have e0:Θ P w K mg (Kc s₁.heap H) Iw [] s₁ H:=⟨rfl,hM,λb o e=>zW e,Ha (rX _ _),trivial,λb hb=>absurd (show b∈([]:Ac Am) from hb) (by simp),hok,.of_eq hg⟩
  refine Hg ((F _ hKb (nsK hns)).run Iw [] s₁ H ⟨[.ref a],[]⟩ [.ref a] [.ref a] _ _ hr e0 (hbind s₁ (.ref a)) (.cons rfl .nil) (Ŝ H hO hS)) λr s' h=>?_
  cases r with
  |error e=>exact(hCX H e s' h).elim
  |ok fl=>
   cases fl with
   |next=>exact EC h
   |brk=>exact EC h
   |cont=>exact EC h
   |ret u=>
    obtain⟨v,H',os,bare,un,hok',r',q⟩:=h;have q':v=.bl Aa:=q;subst q';obtain rfl:u=eH Aa:=r';refine⟨rfl,OldK.of_keep λb o e=>?_,os,bare⟩
    cases q:H b with
    |none=>exact un.keep b o e q (by intro z;exact absurd (show b∈([]:Ac Am) from z) (by simp)) (by simp)
    |some u=>
     rcases hO b with z|⟨ob,xs,z⟩
     .rw[q]at z;cases z
     .have z2:=un.frzs b ob _ z;obtain⟨e1,_⟩:=hok b _ z;obtain⟨e2,_⟩:=hok' b _ z2;rw[e]at e1;cases e1;exact e2
 cases hk:K.lookup a with
 |some o=>
  have e:=KX a o hk;rw[ha]at e;cases e;refine core (λ_=>Af) (λ_=>.inl rfl) (.inr ⟨_,vs.toArray,_,hk,rfl,rfl,rfl,by rw[AJ,lenV];exact hl,by simpa using rv⟩) (λb u z=>by have z':(Af:As HO)=Ab u:=z;cases z') (λb z=>absurd rfl z) λz=>absurd rfl z
 |none=>
  refine core (λb=>if b=a then Ab (.frz { cls:=.type "list",data:=.seq vs.toArray } (.L (ns.map V.int))) else Af) (λb=>?_) (.inl (.inr ⟨{ cls:=.type "list",data:=.seq vs.toArray },AC rfl⟩)) (λb u z=>?_) (λb z=>?_) λ_=>hk
  .by_cases hb:b=a
   .exact .inr ⟨_,_,AC hb⟩
   .exact .inl (AH hb)
  .by_cases hb:b=a
   .have z':=(AC hb).symm.trans z;cases z';subst hb;exact⟨ha,by rw[AG];exact hl,vs,_,rv,ha⟩
   .have z':=(AH hb).symm.trans z;cases z'
  .by_cases hb:b=a
   .exact hb
   .exact absurd (AH hb) z
noncomputable abbrev KOf{K:Fg}{h:AS}(_:K.In h):Fg:=K
theorem walk_of{l:GJ}{K:Nk->Fg}{CX:AM->CXT}{sp:AM->Sp}(hn:l.most=Ab n)(hn2:n<=sizeLine)(hdf:d.params.defaults=[])(hr:gV k Iw)(hY:∀(w:AM)(h:AS),YP w h->(K w.params).In h)(F:∀(w:AM)(mg:An->As Aj)(fa:Am)(h:AS),(K w.params).In h->h.Ns Bt mg->mg d.name=Ab (.ref fa) ->
   ∃ fd:CY,(∀(s:At)(u:Aj),Iu s fd ⟨[u],[]⟩ [(x,u)]) /\
    ∀ base:AS,(K w.params).In base->base.Ns Bt mg->û l.prog w (K w.params) mg base (CX w) k fa fd [x] (sp w))(Ŝ:∀(w:AM)(H:Hp)(a:Am)(ns:Ac Ad),ns.length<=n->QO H->fI (K w.params) H a (ns.map V.int)->sp w [.ref a] H (λv _=>v=.bl Aa) λ_ _ _=>BV)(hCX:∀(w:AM)(H:Hp)(s:At)(e:Aj)(s':At),CX w [] H s (λ_ _ _=>BV) e s'->BV):eO q loose XP YP l.row.toRowW d [] (λf vs=>LZ f vs):=by
 refine Att.attach_call hn hdf λw s₀ s₁ mg mb fa o pm cd doc a vs ns G Y_ ho hd ϒ ā ŋ δ IO hg=>?_
 have KX:=hY w _ Y_;obtain⟨fd,hb,hF⟩:=F w mg fa _ KX G.T.g ā;exact tJ KX G.T.g G.T.b G.T.builtins G.T.nolimit hg ŋ δ (BZ IO hn2) hr hF hb (λH hO hS=>Ŝ w H a ns IO hO hS) λH e s'=>hCX w H s₁ e s'
end L2
namespace L2
open PySem PySem.Spec PyProof.Rows
noncomputable def LB(s:BQ):Arguments:=match s with
  |.FunctionDef _ a _ _ _ _ _ _ _ _=>a
  |_=>{posonlyargs:=[],args:=[],vararg:=Af,kwonlyargs:=[],kw_defaults:=[],kwarg:=Af,defaults:=[]}
noncomputable def IU(s:BQ):Ac BQ:=match s with
  |.FunctionDef _ _ b _ _ _ _ _ _ _=>b
  |_=>[]
noncomputable def Hl(s:BQ):CP:=match s with
  |.FunctionDef _ _ _ _ _ _ sc _ _ _=>sc
  |_=>{kind:=.function,names:=[],isGenerator:=Ae,isCoroutine:=Ae}
noncomputable abbrev CX0:CXT:=λ_ _ _ _ _ _=>BV
structure ķ (K:Fg) (x qual:An) (st:BQ) (f:Am) (fd:CY):Prop where
 ex:∃(oc:Aj)(od:As Am)(kV doc pm:Aj)(an:As Am)(cdv ct:Aj)(osl:AO (As Aj)),
  fd=Ej x qual (LB st) (IU st) (Hl st) .none kV doc pm an cdv ct/\K.lookup f=Ab ⟨oc,od,.func fd,osl⟩/\Gp K cdv qual=Aa
 kp:DY K (.ref f)=Aa
section
variable{K:Fg}
theorem ķ.ok{st:BQ}(F:ķ K x qual st f fd)(S:Ç N ps (Hl st))(len:∀ vs H Q E,sp vs H Q E->vs.length=ps.length)(Φ:∀(cdv:Aj)(A:Bm)(outer:Ac Dc)(s:At)(H:Hp)(vs:Ac V)(Q:VK)(E:XK),gV k (A.deeper (FV qual (Hl st) s.heap.objs.size f cdv))->sp vs H Q E ->
   ∃ t,È (HG CX0 P w K mg base N qual (Hl st) f cdv A outer s H E).nox (IU st) t/\t {nx:=λ_ H'=>Q .O H',rt:=Q} (start N vs) H):û P w K mg base CX0 (k+1) f fd ps sp:=by
 obtain⟨oc,od,kV,doc,pm,an,cdv,ct,osl,rfl,lk,ϒ⟩:=F.ex;refine Zp lk ϒ S len λA outer s H vs Q E hr Ŝ=>?_
 obtain⟨t,h,q⟩:=Φ cdv A outer s H vs Q E hr Ŝ;exact⟨t,h.nox,q⟩
theorem ķ.binds{st:BQ}(F:ķ K x qual st f fd)(h:∀(kV doc pm:Aj)(an:As Am)(cdv ct:Aj)(us:Ac Aj),us.length=ps.length->No (Ej x qual (LB st) (IU st) (Hl st) .none kV doc pm an cdv ct) ⟨us,[]⟩=pure (ps.zip us)):Jp K fd ps []:=by
 obtain⟨oc,od,kV,doc,pm,an,cdv,ct,osl,rfl,lk,ϒ⟩:=F.ex;exact .all (h kV doc pm an cdv ct)
theorem zn{st:BQ}{kV:Aj}(l:K.lookup f=Ab ⟨oc,od,.func (Ej x qual (LB st) (IU st) (Hl st) .none kV doc pm an cdv ct),osl⟩)(c:Gp K cdv qual=Aa)(k:DY K (.ref f)=Aa):ķ K x qual st f (Ej x qual (LB st) (IU st) (Hl st) .none kV doc pm an cdv ct):=⟨⟨oc,od,kV,doc,pm,an,cdv,ct,osl,rfl,l,c⟩,k⟩
end
def A1(H H':Hp):Prop:=∀ b o,H b=Ab o->H' b=Ab o
theorem A1.refl(H:Hp):A1 H H:=λ_ _ h=>h
theorem A1.trans(a:A1 H H1)(b:A1 H1 H2):A1 H H2:=λc o h=>b c o (a c o h)
theorem A1.free(e:A1 H H')(h:H' l=Af):H l=Af:=by
 cases q:H l with
 |none=>rfl
 |some o=>
  rw[e l o q]at h;cases h
end L2
namespace Ov
open PySem
inductive D where
 |O|bl (b:Al)|int (i:Ad)|str (x:An)|H (ds:Ac D)|L (ds:Ac D)
 |obj (c:Ag) (fs:Ac (An×D))|exc (c:Ag) (fs:Ac (An×D))|dic (kvs:Ac (Ac Ad×D))
 deriving Inhabited
structure Ex where
 c:Ag
 fs:Ac (An×D)
 deriving Inhabited
inductive R (α:Type) where
 |ok (a:α)|exn (x:Ex)|bad
 deriving Inhabited
noncomputable def R.bind{α β:Type}(r:R α)(f:α->R β):R β:=match r with
  |.ok a=>f a
  |.exn x=>.exn x
  |.bad=>.bad
@[simp]theorem R.bind_ok(a:α)(f:α->R β):(R.ok a).bind f=f a:=rfl
@[simp]theorem R.bind_exn(x:Ex)(f:α->R β):(R.exn x:R α).bind f=.exn x:=rfl
@[simp]theorem R.bind_bad(f:α->R β):(R.bad:R α).bind f=.bad:=rfl
theorem R.bind_assoc(r:R α)(f:α->R β)(g:β->R γ):(r.bind f).bind g=r.bind λa=>(f a).bind g:=by cases r<;>rfl
noncomputable def Dv(n:Ag):Al:=EM n 1000000
noncomputable def Ey(i j:Ad):Al:=(decide (-(18446744073709551616:Ad)<i)&&decide (i<18446744073709551616))||(decide (-(18446744073709551616:Ad)<j)&&decide (j<18446744073709551616))
noncomputable def E5(i j:Ad):Al:=decide (i.natAbs<2 ^ 2000)&&decide (j.natAbs<2 ^ 2000)
noncomputable def DD:GP->D->D->R D
 |.Add,.int i,.int j=>.ok (.int (i+j))
 |.Sub,.int i,.int j=>.ok (.int (i-j))
 |.Mult,.int i,.int j=>if (Ey i j||E5 i j)=Aa then .ok (.int (i*j)) else .bad
 |.FloorDiv,.int i,.int j=>if 0<j/\j<1073741824 then .ok (.int (i/j)) else .bad
 |.Mod,.int i,.int j=>if 0<j then .ok (.int (i%j)) else .bad
 |.Pow,.int i,.int j=>if (0<=j/\j<=1000000)/\(-(18446744073709551616:Ad)<i/\i<18446744073709551616) then .ok (.int (i ^ j.toNat)) else .bad
 |.Add,.str x,.str y=>if Dv (x.length+y.length)=Aa then .ok (.str (x++y)) else .bad
 |.Add,.L x,.L y=>if Dv (x.length+y.length)=Aa then .ok (.L (x++y)) else .bad
 |.Add,.H x,.H y=>if (!x.isEmpty&&Dv (x.length+y.length))=Aa then .ok (.H (x++y)) else .bad
 |_,_,_=>.bad
noncomputable def unD:La->D->R D
 |.USub,.int i=>.ok (.int (-i))
 |_,_=>.bad
noncomputable def b2i(b:Al):Ad:=if b=Aa then 1 else 0
mutual
noncomputable def U4:D->D->Al
 |.O,.O=>Aa
 |.bl a,.bl b=>a==b
 |.bl a,.int j=>b2i a==j
 |.int i,.bl b=>i==b2i b
 |.int i,.int j=>i==j
 |.str x,.str y=>x==y
 |.H xs,.H ys=>My xs ys
 |.L xs,.L ys=>My xs ys
 |_,_=>Ae
noncomputable def My:Ac D->Ac D->Al
 |[],[]=>Aa
 |x::xs,y::ys=>U4 x y&&My xs ys
 |_,_=>Ae
end
noncomputable def Y8:Ag->D->Al
 |_,.O=>Aa
 |_,.bl _=>Aa
 |_,.int _=>Aa
 |_,.str _=>Aa
 |n+1,.H xs=>xs.all (Y8 n)
 |n+1,.L xs=>xs.all (Y8 n)
 |_,_=>Ae
noncomputable def M8:D->As (Ac Ad)
 |.H ds=>keyDs ds
 |_=>Af
where keyDs:Ac D->As (Ac Ad)
 |[]=>Ab []
 |.int i::r=>(keyDs r).map (i :: ·)
 |_=>Af
noncomputable def Ô:Ag->D->D->Al
 |0,.int i,.int j=>decide (i<j)
 |n+1,.H xs,.H ys=>ltDs (Ô n) xs ys
 |_,_,_=>Ae
where ltDs (lt:D->D->Al):Ac D->Ac D->Al
 |[],[]=>Ae
 |[],_::_=>Aa
 |_::_,[]=>Ae
 |x::xs,y::ys=>if U4 x y=Aa then ltDs lt xs ys else lt x y
noncomputable def Ż:Ag->D->Al
 |0,.int _=>Aa
 |n+1,.H xs=>xs.all (Ż n)
 |_,_=>Ae
noncomputable def M9(lt:D->D->Al)(x:D):Ac D->Ac D
 |[]=>[x]
 |y::ys=>if lt y x=Aa then y::M9 lt x ys else x::y::ys
noncomputable def PX(lt:D->D->Al):Ac D->Ac D
 |[]=>[]
 |x::xs=>M9 lt x (PX lt xs)
noncomputable def M6:Ac D->Al
 |[]=>Aa
 |x::xs=>xs.all (λy=>!U4 x y)&&M6 xs
noncomputable def Qx:Ac D->Al
 |[]=>Aa
 |[_]=>Aa
 |x::y::r=>Ô 1 x y&&Qx (y::r)
noncomputable def IS(xs:Ac D):R (Ac D):=if (xs.all (λd=>Ż 1 d && !U4 d (.H []))&&M6 xs&&(decide (xs.length<64)||(Qx xs&&decide (xs.length<=1000))))=Aa then .ok (PX (Ô 1) xs) else .bad
noncomputable def Ci:D0->D->D->R D
  |.Eq,x,y=>if (Y8 5 x&&Y8 5 y)=Aa then .ok (.bl (U4 x y)) else .bad
  |.NotEq,x,y=>if (Y8 5 x&&Y8 5 y)=Aa then .ok (.bl (!U4 x y)) else .bad
  |.Lt,.int i,.int j=>.ok (.bl (decide (i<j)))
  |.LtE,.int i,.int j=>.ok (.bl (decide (i<=j)))
  |.Gt,.int i,.int j=>.ok (.bl (decide (j<i)))
  |.GtE,.int i,.int j=>.ok (.bl (decide (j<=i)))
  |.In,x,.L ys=>if (Y8 5 x&&ys.all (Y8 5))=Aa then .ok (.bl (ys.any λy=>U4 y x)) else .bad
  |.In,x,.dic kvs=>match M8 x with
    |some k=>.ok (.bl (kvs.any λp=>p.1==k))
    |none=>.bad
  |.In,x,.H ys=>if (Y8 5 x&&ys.all (Y8 5))=Aa then .ok (.bl (ys.any λy=>U4 y x)) else .bad
  |.NotIn,x,.L ys=>if (Y8 5 x&&ys.all (Y8 5))=Aa then .ok (.bl (!ys.any λy=>U4 y x)) else .bad
  |.NotIn,x,.H ys=>if (Y8 5 x&&ys.all (Y8 5))=Aa then .ok (.bl (!ys.any λy=>U4 y x)) else .bad
  |.Is,.O,.O=>.ok (.bl Aa)
  |.Is,.bl _,.O=>.ok (.bl Ae)
  |.Is,.int _,.O=>.ok (.bl Ae)
  |.Is,.str _,.O=>.ok (.bl Ae)
  |.Is,.H _,.O=>.ok (.bl Ae)
  |.Is,.L _,.O=>.ok (.bl Ae)
  |.Is,.obj _ _,.O=>.ok (.bl Ae)
  |.Is,.bl a,.bl b=>.ok (.bl (a==b))
  |.IsNot,.bl a,.bl b=>.ok (.bl (!(a==b)))
  |.IsNot,.O,.O=>.ok (.bl Ae)
  |.IsNot,.bl _,.O=>.ok (.bl Aa)
  |.IsNot,.int _,.O=>.ok (.bl Aa)
  |.IsNot,.str _,.O=>.ok (.bl Aa)
  |.IsNot,.H _,.O=>.ok (.bl Aa)
  |.IsNot,.L _,.O=>.ok (.bl Aa)
  |.IsNot,.obj _ _,.O=>.ok (.bl Aa)
  |_,_,_=>.bad
noncomputable def Dh:D->R Al
 |.O=>.ok Ae
 |.bl b=>.ok b
 |.int i=>.ok (i != 0)
 |.str x=>if Dv x.length=Aa then .ok (x.length != 0) else .bad
 |.H xs=>.ok (!xs.isEmpty)
 |.L xs=>.ok (!xs.isEmpty)
 |_=>.bad
noncomputable def ϳ(n:Ag)(i:Ad):As Ag:=if 0<=i then (if i<n then Ab i.toNat else Af) else if -(n:Ad)<=i then Ab (i+n).toNat else Af
noncomputable def Dl(xs:Ac D)(i:Ad):R D:=match ϳ xs.length i with
  |some k=>match xs[k]? with
    |some d=>.ok d
    |none=>.bad
  |none=>.bad
noncomputable def yh(kvs:Ac (Ac Ad×D))(k:Ac Ad):As D:=(kvs.find? λp=>p.1==k).map (·.2)
noncomputable def YW(kvs:Ac (Ac Ad×D))(k:Ac Ad)(v:D):Ac (Ac Ad×D):=if (kvs.any λp=>p.1==k)=Aa then kvs.map (λp=>if (p.1==k)=Aa then (k,v) else p) else kvs++[(k,v)]
noncomputable def BR:D->D->R D
  |.L xs,.int i=>Dl xs i
  |.H xs,.int i=>Dl xs i
  |.dic kvs,k=>match (M8 k).bind (yh kvs) with
    |some d=>.ok d
    |none=>.bad
  |_,_=>.bad
noncomputable def FJ:D->R Ad
 |.int i=>.ok i
 |_=>.bad
noncomputable def Ez:D->R Al
 |.bl b=>.ok b
 |_=>.bad
noncomputable def Ct:D->R (Ac D)
 |.L xs=>.ok xs
 |.H xs=>.ok xs
 |_=>.bad
noncomputable def Qi:D->R (Ac D)
 |.L xs=>.ok xs
 |_=>.bad
inductive BI where
 |len|abs|max|min|int|list|tuple|all|any|sum|sorted|str|count|stp|lset|tmin|tmax|tlt|rvs
 deriving DecidableEq,Inhabited
inductive Ki where
 |int|bool|str|list|tuple|verr|cls (c:Ag)
 deriving DecidableEq,Inhabited
mutual
inductive E where
 |O|bl (b:Al)|int (i:Ad)|str (x:An)
 |v (i:Ag)|glob (g:Ag)
 |B (op:GP) (a b:E)|un (op:La) (a:E)|no (a:E)
 |and (es:Es)|or (es:Es)
 |cmp (op:D0) (a b:E)|cmp2 (op op':D0) (a b c:E)
 |ite (c a b:E)
 |call (f:Ag) (as:Es)|bi (b:BI) (as:Es)
 |isi (a:E) (ks:Ac Ki)
 |x (a i:E)|sl (a lo hi:E)
 |H (es:Es)|L (es:Es)
 |comp (elt:E) (t:Ag) (it:I) (c:E)|compT (elt:E) (ts:Ac Ag) (it:I) (c:E)|tupI (it:I)|dnew
 |fld (o:E) (f:An)
inductive Es where
 |nil|cons (e:E) (es:Es)
inductive I where
 |e (a:E)|rng (a:E)|rng2 (a b:E)|zip (a b:E)|zip3 (a b c:E)|enm (a:E)
end
abbrev Sl:=As (D×Al)
abbrev Rho:=Ac Sl
structure Z2 where
 F:Ag->Ac D->R D
 G:Ag->D
 up:Ag->Ac Ag
 fr:Ag->Al
 xn:Ag->Ac D->R Ex
noncomputable def Dx(lo:Ad)(n:Ag):Ac D:=(AK n).map fun(k:Ag)=>D.int (lo+(k:Ad))
noncomputable def De(lo hi:Ad):R (Ac D):=if (-(4611686018427387904:Ad)<=lo/\lo<4611686018427387904)/\(-(4611686018427387904:Ad)<=hi/\hi<4611686018427387904)/\hi-lo<1000000 then .ok (Dx lo (hi-lo).toNat) else .bad
noncomputable def Ø(up:Ag->Ac Ag):Ki->D->Al
 |.int,.int _=>Aa
 |.int,.bl _=>Aa
 |.bool,.bl _=>Aa
 |.str,.str _=>Aa
 |.list,.L _=>Aa
 |.tuple,.H _=>Aa
 |.cls c,.obj k _=>(up k).contains c
 |.cls c,.exc k _=>(up k).contains c
 |.verr,.exc _ _=>Aa
 |_,_=>Ae
noncomputable def GW:Ki->Al
 |.cls _=>Aa
 |.verr=>Aa
 |_=>Ae
noncomputable def Fm(up:Ag->Ac Ag)(ks:Ac Ki)(x:D):R D:=match x with
  |.obj _ _=>.bad
  |.exc _ _=>if ks.all GW=Aa then .ok (.bl (ks.any λk=>Ø up k x)) else .bad
  |.dic _=>.bad
  |_=>if ks.any GW=Aa then .bad else .ok (.bl (ks.any λk=>Ø up k x))
noncomputable def Fl:D->R Al
 |.O=>.ok Ae
 |.bl b=>.ok b
 |.int i=>.ok (i != 0)
 |_=>.bad
noncomputable def Gj:Ac D->R Al
 |[]=>.ok Aa
 |x::r=>(Fl x).bind λb=>(Gj r).bind λc=>.ok (b&&c)
noncomputable def F6:Ac D->R Al
 |[]=>.ok Ae
 |x::r=>(Fl x).bind λb=>(F6 r).bind λc=>.ok (b||c)
noncomputable def HH:Ad->Ac D->R Ad
 |a,[]=>.ok a
 |a,.int i::r=>HH (a+i) r
 |_,_=>.bad
noncomputable def EK:Ac D->Ac D->Ac D
 |x::xs,y::ys=>.H [x,y]::EK xs ys
 |_,_=>[]
noncomputable def Ue:Ac D->Ac D->Ac D->Ac D
 |x::xs,y::ys,z::zs=>.H [x,y,z]::Ue xs ys zs
 |_,_,_=>[]
noncomputable def MO(x y z:D):R (Ac D):=(Ct x).bind λxs=>(Ct y).bind λys=>(Ct z).bind λzs=>if 0<xs.length/\xs.length<=1000/\ys.length=xs.length/\zs.length=xs.length then .ok (Ue xs ys zs) else .bad
noncomputable def E6:Ad->Ac D->Ac D
 |_,[]=>[]
 |i,x::xs=>.H [.int i,x]::E6 (i+1) xs
noncomputable def ĭ:Ag->D->Al
 |_,.O=>Aa
 |_,.bl _=>Aa
 |_,.int _=>Aa
 |_,.str _=>Aa
 |n+1,.H xs=>xs.all (ĭ n)
 |_,_=>Ae
noncomputable def MX(fr:Al):D->Al
 |.L ds=>fr&&ds.all (ĭ 5)
 |d=>ĭ 5 d
noncomputable def Ju:Ac D->As (Ac Ad)
 |[]=>Ab []
 |.int i::r=>(Ju r).map (i :: ·)
 |_=>Af
noncomputable def Va(i:Ad):Ac Ad->Ad
 |[]=>i
 |j::r=>Va (if j<i then j else i) r
noncomputable def pk2(k n:Ag):Ac Ag:=(AK ((n-min k n+1)/2)).map λj=>min k n+2*j
noncomputable def nU(k:Ag)(xs:Ac D):Ac D:=(pk2 k xs.length).filterMap λi=>xs[i]?
noncomputable def ddS(Z1:Ac Ad)(x:Ad):Ac Ad:=if Z1.any (· == x)=Aa then Z1 else Z1++[x]
noncomputable def ģ(is:Ac Ad):Ag:=(is.foldl ddS []).length
noncomputable def Qf(xs:Ac D):R D:=match Ju xs with
  |some is=>if EM is.length 4000=Aa then .ok (.int (ģ is)) else .bad
  |none=>.bad
noncomputable def mmD(mx:Al)(x y:D):R D:=if [x,y].all (λd=>Ż 1 d && !U4 d (.H []))=Aa then .ok (if (if mx=Aa then Ô 1 x y else Ô 1 y x)=Aa then y else x) else .bad
noncomputable def lY(x y:D):R D:=if [x,y].all (λd=>Ż 1 d && !U4 d (.H []))=Aa then .ok (.bl (Ô 1 x y)) else .bad
noncomputable def GV(k:Ac Ad):Ad:=reduceHash (Builtin.Tuple.tupleHashOf (k.map hashInt))
noncomputable def MN:Ac D->As (Ac (Ac Ad))
 |[]=>Ab []
 |.H xs::r=>(Ju xs).bind λk=>(MN r).map (k :: ·)
 |_=>Af
noncomputable def IY:Ac Ad->Al
 |[]=>Aa
 |h::r=>!r.contains h&&IY r
noncomputable def Uo(xs:Ac D):R D:=match MN xs with
  |some ks=>if (EM ks.length 3&&IY (ks.map GV))=Aa then .ok (.int ks.length) else .bad
  |none=>.bad
noncomputable def Tm:BI->Ac D->R D
  |.len,[.L xs]=>.ok (.int xs.length)
  |.len,[.H xs]=>.ok (.int xs.length)
  |.len,[.str x]=>if Dv x.length=Aa then .ok (.int x.length) else .bad
  |.abs,[.int i]=>.ok (.int (if i<0 then -i else i))
  |.max,[.int i,.int j]=>.ok (.int (if i<j then j else i))
  |.min,[.int i,.int j]=>.ok (.int (if j<i then j else i))
  |.min,[.L xs]=>match Ju xs with
    |some (i::is)=>.ok (.int (Va i is))
    |_=>.bad
  |.int,[.int i]=>.ok (.int i)
  |.int,[.bl b]=>.ok (.int (b2i b))
  |.list,[.L xs]=>.ok (.L xs)
  |.list,[.H xs]=>.ok (.L xs)
  |.tuple,[.L xs]=>.ok (.H xs)
  |.tuple,[.H xs]=>.ok (.H xs)
  |.all,[.L xs]=>(Gj xs).bind λb=>.ok (.bl b)
  |.any,[.L xs]=>(F6 xs).bind λb=>.ok (.bl b)
  |.any,[.H xs]=>(F6 xs).bind λb=>.ok (.bl b)
  |.sum,[.L xs]=>(HH 0 xs).bind λi=>.ok (.int i)
  |.sum,[.H xs]=>(HH 0 xs).bind λi=>.ok (.int i)
  |.sorted,[.L xs]=>(IS xs).bind λys=>.ok (.L ys)
  |.count,[.L xs,x]=>if (Y8 5 x&&xs.all (Y8 5))=Aa then .ok (.int ((xs.filter λy=>U4 y x).length:Ag)) else .bad
  |.len,[.dic kvs]=>.ok (.int kvs.length)
  |.stp,[.L xs,.int k]=>.ok (.L (nU k.toNat xs))
  |.lset,[.L xs]=>Qf xs
  |.lset,[.H xs]=>Uo xs
  |.tmin,[x,y]=>mmD Ae x y
  |.tmax,[x,y]=>mmD Aa x y
  |.tlt,[x,y]=>lY x y
  |.rvs,[.L xs]=>.ok (.L xs.reverse)
  |_,_=>.bad
noncomputable def slE(c:E)(d:D):R (As Ad):=match c with
  |.O=>.ok Af
  |_=>(FJ d).bind λi=>.ok (Ab i)
noncomputable def EX(n d:Ag):As Ad->Ag
 |none=>d
 |some i=>if i<0 then (i+n).toNat else min i.toNat n
noncomputable def MW(xs:Ac D)(lo hi:As Ad):Ac D:=(xs.drop (EX xs.length 0 lo)).take (EX xs.length xs.length hi-EX xs.length 0 lo)
noncomputable def Ý:D->As Ad->As Ad->R D
 |.L xs,l,h=>.ok (.L (MW xs l h))
 |.H xs,l,h=>if (EX xs.length 0 l==0&&EX xs.length xs.length h==xs.length)=Aa then .bad else .ok (.H (MW xs l h))
 |_,_,_=>.bad
noncomputable def mY:D->An->R D
  |.exc _ fs,f=>match fs.lookup f with
    |some d=>.ok d
    |none=>.bad
  |_,_=>.bad
noncomputable def GE(U:Rho)(i:Ag):R D:=match U[i]? with
  |some (Ab (d,Ae))=>.ok d
  |_=>.bad
noncomputable def FT(U:Rho)(i:Ag):R D:=match U[i]? with
  |some (Ab (d,_))=>.ok d
  |_=>.bad
noncomputable def Ó(U:Rho):E->Al
  | .v i=>(match U[i]? with
    |some (Ab (_,Aa))=>Ae
    | _=>Aa)
  |_=>Aa
noncomputable def K1(U:Rho):Es->Al
 |.nil=>Aa
 |.cons e es=>Ó U e&&K1 U es
noncomputable def F4:Ac Ag->Ac D->Rho->As Rho
 |[],[],U=>Ab U
 |t::ts,d::ds,U=>F4 ts ds (U.set t (Ab (d,Ae)))
 |_,_,_=>Af
noncomputable def FH(ts:Ac Ag)(d:D)(U:Rho):R Rho:=match d with
  | .H xs=>(match F4 ts xs U with
    |some U'=>.ok U'
    | none=>.bad)
  |_=>.bad
noncomputable def LK(ts:Ac Ag)(d:D)(U:Rho):R Rho:=FH ts d U
noncomputable def Bz(g:D->R Al)(f:D->R D):Ac D->R (Ac D)
 |[]=>.ok []
 |x::xs=>(g x).bind λb=>if b=Aa then (f x).bind λy=>(Bz g f xs).bind λys=>.ok (y::ys) else Bz g f xs
noncomputable def ϣ{α:Type}:R α->R α
 |.ok a=>.ok a
 |_=>.bad
noncomputable def top(U:Rho)(e:E)(r:R D):R D:=match e with
  |.v i=>FT U i
  |_=>r
mutual
noncomputable def evE(Z:Z2)(U:Rho):E->R D
 |.O=>.ok .O
 |.bl b=>.ok (.bl b)
 |.int i=>.ok (.int i)
 |.str x=>.ok (.str x)
 |.v i=>GE U i
 |.glob g=>.ok (Z.G g)
 |.B op a b=>(top U a (evE Z U a)).bind λx=>(top U b (evE Z U b)).bind λy=>DD op x y
 |.un op a=>(top U a (evE Z U a)).bind λx=>unD op x
 |.no a=>(top U a (evE Z U a)).bind λx=>(Ez x).bind λb=>.ok (.bl (!b))
 |.and es=>evN Z U es
 |.or es=>evO Z U es
 |.cmp op a b=>(top U a (evE Z U a)).bind λx=>(top U b (evE Z U b)).bind λy=>Ci op x y
 |.cmp2 op op' a b c=>(top U a (evE Z U a)).bind λx=>(top U b (evE Z U b)).bind λy=>(Ci op x y).bind λz=>(Ez z).bind λk=>if k=Aa then (top U c (evE Z U c)).bind λu=>Ci op' y u else .ok (.bl Ae)
 |.ite c a b=>(top U c (evE Z U c)).bind λx=>(Dh x).bind λk=>if k=Aa then evE Z U a else evE Z U b
 |.call f as=>(Ϭ Z U as).bind λxs=>(Z.F f xs).bind λd=>if K1 U as=Aa then .ok d else if MX (Z.fr f) d=Aa then .ok d else .bad
 |.bi b as=>(Ϭ Z U as).bind λxs=>Tm b xs
 |.isi a ks=>(top U a (evE Z U a)).bind λx=>Fm Z.up ks x
 |.x a i=>(top U a (evE Z U a)).bind λx=>(top U i (evE Z U i)).bind λy=>BR x y
 |.sl a lo hi=>(top U a (evE Z U a)).bind λx=>(top U lo (evE Z U lo)).bind λl=>(slE lo l).bind λl'=>(top U hi (evE Z U hi)).bind λh=>(slE hi h).bind λh'=>Ý x l' h'
 |.H es=>(Ϲ Z U es).bind λxs=>.ok (.H xs)
 |.L es=>(Ϲ Z U es).bind λxs=>.ok (.L xs)
 |.comp elt t it c=>(Ë Z U it).bind λxs=>(ϣ (Bz (λx=>(top (U.set t (Ab (x,Ae))) c (evE Z (U.set t (Ab (x,Ae))) c)).bind Dh) (λx=>evE Z (U.set t (Ab (x,Ae))) elt) xs)).bind λys=>.ok (.L ys)
 |.compT elt ts it c=>(Ë Z U it).bind λxs=>(ϣ (Bz (λx=>(FH ts x U).bind λU'=>(top U' c (evE Z U' c)).bind Dh) (λx=>(FH ts x U).bind λU'=>evE Z U' elt) xs)).bind λys=>.ok (.L ys)
 |.tupI it=>(Ë Z U it).bind λxs=>.ok (.H xs)
 |.dnew=>.ok (.dic [])
 |.fld o f=>(top U o (evE Z U o)).bind λx=>mY x f
noncomputable def evN(Z:Z2)(U:Rho):Es->R D
 |.nil=>.bad
 |.cons e .nil=>evE Z U e
 |.cons e (.cons e' es)=>(evE Z U e).bind λx=>(Ez x).bind λc=>if c=Aa then evN Z U (.cons e' es) else .ok (.bl Ae)
noncomputable def evO(Z:Z2)(U:Rho):Es->R D
 |.nil=>.bad
 |.cons e .nil=>evE Z U e
 |.cons e (.cons e' es)=>(evE Z U e).bind λx=>(Ez x).bind λc=>if c=Aa then .ok (.bl Aa) else evO Z U (.cons e' es)
noncomputable def Ϲ(Z:Z2)(U:Rho):Es->R (Ac D)
 |.nil=>.ok []
 |.cons e es=>(evE Z U e).bind λx=>(Ϲ Z U es).bind λxs=>.ok (x::xs)
noncomputable def Ϭ(Z:Z2)(U:Rho):Es->R (Ac D)
 |.nil=>.ok []
 |.cons e es=>(top U e (evE Z U e)).bind λx=>(Ϭ Z U es).bind λxs=>.ok (x::xs)
noncomputable def Ë(Z:Z2)(U:Rho):I->R (Ac D)
 |.e a=>(evE Z U a).bind Ct
 |.rng a=>(top U a (evE Z U a)).bind λx=>(FJ x).bind λj=>De 0 j
 |.rng2 a b=>(top U a (evE Z U a)).bind λx=>(top U b (evE Z U b)).bind λy=>(FJ x).bind λi=>(FJ y).bind λj=>De i j
 |.zip a b=>(evE Z U a).bind λx=>(evE Z U b).bind λy=>(Ct x).bind λxs=>(Ct y).bind λys=>.ok (EK xs ys)
 |.zip3 a b c=>(evE Z U a).bind λx=>(evE Z U b).bind λy=>(evE Z U c).bind λz=>MO x y z
 |.enm a=>(evE Z U a).bind λx=>(Ct x).bind λxs=>.ok (E6 0 xs)
end
noncomputable def Dy(Z:Z2):E->Al
 |.L _=>Aa
 |.comp _ _ _ _=>Aa
 |.compT _ _ _ _=>Aa
 |.dnew=>Aa
 |.B .Add _ _=>Aa
 |.bi .list _=>Aa
 |.bi .sorted _=>Aa
 |.sl _ _ _=>Aa
 |.call f _=>Z.fr f
 |_=>Ae
mutual
inductive S where
 |pass
 |asg (i:Ag) (fresh:Al) (e:E)
 |asgT (ts:Ac Ag) (e:E)
 |expr (e:E)
 |ret (e:E)|retN
 |ife (c:E) (a b:Ss)
 |fors (t:Ag) (it:I) (body:Ss)
 |forT (ts:Ac Ag) (it:I) (body:Ss)
 |whl (c:E) (body:Ss)
 |rais (c:Ag) (as:Es)
 |tryx (body:Ss) (c:Ag) (x:Ag) (h:Ss)
 |try2 (body:Ss) (c:Ag) (x:Ag) (h:Ss) (c':Ag) (h' els:Ss)
 |app (i:Ag) (e:E)|ext (i:Ag) (e:E)|ins (i:Ag) (k e:E)|rev (i:Ag)|clr (i:Ag)
 |dput (i:Ag) (k e:E)|dsd (i:Ag) (k e:E)
 |put (i:Ag) (k e:E)
 |swp (i k l:Ag)
 |apop (j i:Ag) (e:E)
 |cpop (t y k:Ag) (it:I) (e:E)
 |brk|cont
 |rel (i:Ag)
inductive Ss where
 |nil|cons (s:S) (ss:Ss)
end
inductive O where
 |next (U:Rho)|ret (d:D) (fr:Al)|brk (U:Rho)|cont (U:Rho)|exn (x:Ex) (U:Rho)|bad
 deriving Inhabited
noncomputable def O.of{α:Type}(U:Rho)(r:R α)(f:α->O):O:=match r with
  |.ok a=>f a
  |.exn x=>.exn x U
  |.bad=>.bad
@[simp]theorem O.of_ok(U:Rho)(a:α)(f:α->O):O.of U (.ok a) f=f a:=rfl
@[simp]theorem O.of_exn(U:Rho)(x:Ex)(f:α->O):O.of U (.exn x:R α) f=.exn x U:=rfl
@[simp]theorem O.of_bad(U:Rho)(f:α->O):O.of U (.bad:R α) f=.bad:=rfl
noncomputable def GF(Z:Z2)(U:Rho)(i:I):R (Ac D):=Ë Z U i
noncomputable def DG(U:Rho)(i:Ag):R (Ac D):=match U[i]? with
  |some (Ab (.L xs,Aa))=>.ok xs
  |_=>.bad
noncomputable def U_8(U:Rho)(i:Ag):R (Ac (Ac Ad×D)):=match U[i]? with
  |some (Ab (.dic xs,Aa))=>.ok xs
  |_=>.bad
noncomputable def ZA(d:D):R (Ac Ad):=match M8 d with
  |some k=>.ok k
  |none=>.bad
noncomputable def jF:Ag:=4096
noncomputable def O.seq(o:O)(f:Rho->O):O:=match o with
  |.next U=>f U
  |.ret d b=>.ret d b
  |.brk U=>.brk U
  |.cont U=>.cont U
  |.exn x U=>.exn x U
  |.bad=>.bad
noncomputable def O.turn(o:O)(f:Rho->O):O:=match o with
  |.next U=>f U
  |.cont U=>f U
  |.brk U=>.next U
  |.ret d b=>.ret d b
  |.exn x U=>.exn x U
  |.bad=>.bad
noncomputable def CD(body:D->Rho->O):Ac D->Rho->O
 |[],U=>.next U
 |x::xs,U=>(body x U).turn (CD body xs)
noncomputable def UM(c:Rho->R Al)(body:Rho->O):Ag->Rho->O
 |0,_=>.bad
 |n+1,U=>O.of U (c U) λb=>if b=Aa then (body U).turn (UM c body n) else .next U
noncomputable def Zv(U:Rho)(k:Ag):R Ad:=(GE U k).bind FJ
noncomputable def nS(U:Rho)(d:D)(i k l:Ag):O:=match d with
  |.H [x,y]=>O.of U (DG U i) λxs=>O.of U (Zv U k) λa=>O.of U (Zv U l) λb=>match ϳ xs.length a,ϳ xs.length b with
    |some m,Ab n=>.next (U.set i (Ab (.L ((xs.set m x).set n y),Aa)))
    |_,_=>.bad
  |_=>.bad
noncomputable def apD(U:Rho)(j i:Ag)(ys xs:Ac D)(n:Ad):O:=match ϳ xs.length n with
  | some m=>(match xs[m]? with
    |some d=>if (j != i&&(Dv xs.length&&Dv (ys.length+1)))=Aa then .next ((U.set i (Ab (.L (xs.eraseIdx m),Aa))).set j (Ab (.L (ys++[d]),Aa))) else .bad
    | none=>.bad)
  |none=>.bad
noncomputable def hdO(i:Ag)(y:Ex)(U':Rho)(fh:Rho->O):O:=match fh (U'.set i (Ab (.exc y.c y.fs,Ae))) with
  |.next Α=>.next (Α.set i Af)
  |.ret d f=>.ret d f
  |_=>.bad
noncomputable def U_7(f:D->Ac D->R D):Ac D->Ac D->R (Ac D×Ac D)
  |[],ds=>.ok ([],ds)
  |x::xs,ds=>(f x ds).bind λd=>(FJ d).bind λn=>match ϳ ds.length n with
    | some m=>(match ds[m]? with
      |some y=>(U_7 f xs (ds.eraseIdx m)).bind λr=>.ok (y::r.1,r.2)
      | none=>.bad)
    |none=>.bad
noncomputable def vx(U:Rho)(k:Ag):Al:=match U[k]? with
  |some Af=>Aa
  |_=>Ae
noncomputable def cpD(t y k:Ag)(U:Rho)(ri:R (Ac D))(fe:Rho->R D):O:=O.of U (DG U y) λds=>O.of U ri λxs=>O.of U (ϣ (U_7 (λx ds=>fe ((U.set y (Ab (.L ds,Aa))).set k (Ab (x,Ae)))) xs ds)) λr=>
 if (vx U k&&Dv ds.length)=Aa then .next ((U.set y (Ab (.L r.2,Aa))).set t (Ab (.L r.1,Aa))) else .bad
mutual
noncomputable def Ú(Z:Z2)(U:Rho):S->O
  |.pass=>.next U
  | .asg i fresh e=>O.of U (evE Z U e) λd=>if fresh=Aa then (if Dy Z e=Aa then (match d with
      |.L xs=>.next (U.set i (Ab (.L xs,Aa)))
      |.dic xs=>.next (U.set i (Ab (.dic xs,Aa)))
      | _=>.bad) else .bad) else .next (U.set i (Ab (d,Ae)))
  |.asgT ts e=>O.of U (evE Z U e) λd=>O.of U (LK ts d U) λU'=>.next U'
  |.expr e=>O.of U (evE Z U e) λ_=>.next U
  |.ret e=>O.of U (top U e (evE Z U e)) λd=>.ret d (Dy Z e||(match e with | .v i=>(match U[i]? with|some (Ab (_,o))=>o|_=>Ae)|_=>Ae))
  |.retN=>.ret .O Ae
  |.ife c a b=>O.of U ((top U c (evE Z U c)).bind Dh) λk=>if k=Aa then Y4 Z U a else Y4 Z U b
  |.fors t it body=>O.of U (GF Z U it) λxs=>CD (λx U'=>Y4 Z (U'.set t (Ab (x,Ae))) body) xs U
  |.forT ts it body=>O.of U (GF Z U it) λxs=>CD (λx U'=>O.of U' (FH ts x U') λΑ=>Y4 Z Α body) xs U
  |.whl c body=>UM (λU'=>(top U' c (evE Z U' c)).bind Dh) (λU'=>Y4 Z U' body) jF U
  |.rais c as=>O.of U (ϣ (Ϲ Z U as)) λxs=>O.of U (Z.xn c xs) λx=>.exn x U
  |.tryx body c x h=>match Y4 Z U body with
      | .exn y U'=>if (Z.up y.c).contains c=Aa then (match Y4 Z (U'.set x (Ab (.exc y.c y.fs,Ae))) h with
          |.next Α=>.next (Α.set x Af)
          |.ret d f=>.ret d f
          | _=>.bad) else .bad
      |o=>o
  |.try2 body c x h c' h' els=>match Y4 Z U body with
      |.exn y U'=>if (Z.up y.c).contains c=Aa then hdO x y U' (λr=>Y4 Z r h) else if (Z.up y.c).contains c'=Aa then hdO x y U' (λr=>Y4 Z r h') else .bad
      |.next U'=>Y4 Z U' els
      |o=>o
  |.app i e=>O.of U (DG U i) λxs=>O.of U (evE Z U e) λd=>if Dv (xs.length+1)=Aa then .next (U.set i (Ab (.L (xs++[d]),Aa))) else .bad
  |.ext i e=>O.of U (DG U i) λxs=>O.of U (evE Z U e) λd=>O.of U (Qi d) λys=>if Dv (xs.length+ys.length)=Aa then .next (U.set i (Ab (.L (xs++ys),Aa))) else .bad
  |.ins i k e=>O.of U (DG U i) λxs=>O.of U ((top U k (evE Z U k)).bind FJ) λj=>O.of U (evE Z U e) λd=>if (Dv (xs.length+1)&&decide (0<=j)&&decide (j<=xs.length))=Aa then .next (U.set i (Ab (.L (xs.take j.toNat++d::xs.drop j.toNat),Aa))) else .bad
  |.rev i=>O.of U (DG U i) λxs=>.next (U.set i (Ab (.L xs.reverse,Aa)))
  |.clr i=>O.of U (DG U i) λ_=>.next (U.set i (Ab (.L [],Aa)))
  |.dput i k e=>O.of U (evE Z U e) λd=>O.of U (U_8 U i) λxs=>O.of U ((evE Z U k).bind ZA) λj=>if Dv (xs.length+1)=Aa then .next (U.set i (Ab (.dic (YW xs j d),Aa))) else .bad
  |.dsd i k e=>O.of U (U_8 U i) λxs=>O.of U ((evE Z U k).bind ZA) λj=>O.of U (evE Z U e) λd=>if Dv (xs.length+1)=Aa then .next (U.set i (Ab (.dic (if (xs.any λp=>p.1==j)=Aa then xs else YW xs j d),Aa))) else .bad
  |.put i k e=>O.of U (evE Z U e) λd=>O.of U (DG U i) λxs=>O.of U ((top U k (evE Z U k)).bind FJ) λj=>match ϳ xs.length j with
      |some n=>.next (U.set i (Ab (.L (xs.set n d),Aa)))
      |none=>.bad
  |.swp i k l=>O.of U (evE Z U (.H (.cons (.x (.v i) (.v l)) (.cons (.x (.v i) (.v k)) .nil)))) λd=>nS U d i k l
  |.cpop t y k it e=>cpD t y k U (GF Z U it) λU=>evE Z U e
  |.apop j i e=>O.of U (DG U j) λys=>O.of U (DG U i) λxs=>O.of U (evE Z U e) λd=>O.of U (FJ d) λn=>apD U j i ys xs n
  |.brk=>.brk U
  |.cont=>.cont U
  |.rel i=>match U[i]? with
      |some (Ab (d,Aa))=>.next (U.set i (Ab (d,Ae)))
      |_=>.next U
noncomputable def Y4(Z:Z2)(U:Rho):Ss->O
 |.nil=>.next U
 |.cons s ss=>(Ú Z U s).seq λU'=>Y4 Z U' ss
end
structure Df where
 n:Ag
 fr:Al
 body:Ss
noncomputable def Bc(n:Ag)(ds:Ac D):Rho:=ds.map (λd=>Ab (d,Ae))++Hw (n-ds.length) Af
noncomputable def Ŵ:D->Al
 |.L _=>Aa
 |.dic _=>Aa
 |_=>Ae
noncomputable def O.ans(fr:Al)(o:O):R D:=match o with
  |.ret d b=>if (fr&&(!b&&Ŵ d))=Aa then .bad else .ok d
  |.next _=>if fr=Aa then .bad else .ok .O
  |.exn x _=>.exn x
  |_=>.bad
noncomputable def Df.run(Z:Z2)(f:Df)(ds:Ac D):R D:=(Y4 Z (Bc f.n ds) f.body).ans f.fr
structure Prg where
 xs:Al
 defs:Ag->Df
 G:Ag->D
 up:Ag->Ac Ag
 xn:Ag->Ac D->R Ex
noncomputable def K6(xs:Al)(r:R D):R D:=match xs with
  |true=>r
  |false=>ϣ r
noncomputable def Y5(P:Prg):Ag->Z2
 |0=>⟨λ_ _=>.bad,P.G,P.up,λi=>(P.defs i).fr,P.xn⟩
 |n+1=>⟨λi ds=>K6 P.xs ((P.defs i).run (Y5 P n) ds),P.G,P.up,λi=>(P.defs i).fr,P.xn⟩
end Ov
namespace Ov
open PySem
variable{n:Ag}
section
variable(Z:Z2)(U:Rho)
instance:Insert E Es:=⟨.cons⟩
instance:Singleton E Es:=⟨λe=>.cons e .nil⟩
instance:Insert S Ss:=⟨.cons⟩
instance:Singleton S Ss:=⟨λe=>.cons e .nil⟩
@[simp]theorem ZEJ(a:E)(l:Es):(insert a l:Es)=.cons a l:=rfl
@[simp]theorem ZEo(a:E):({a}:Es)=.cons a .nil:=rfl
@[simp]theorem ZEI(a:S)(l:Ss):(insert a l:Ss)=.cons a l:=rfl
@[simp]theorem ZEn(a:S):({a}:Ss)=.cons a .nil:=rfl
@[simp]theorem ZCj:evE Z U .O=.ok .O:=rfl
@[simp]theorem ZDN(b):evE Z U (.bl b)=.ok (.bl b):=rfl
@[simp]theorem ZCm(b):evE Z U (.int b)=.ok (.int b):=rfl
@[simp]theorem ZCi(b):evE Z U (.str b)=.ok (.str b):=rfl
@[simp]theorem ZCg(i):evE Z U (.v i)=GE U i:=rfl
@[simp]theorem ZCp(op a b):evE Z U (.B op a b)=(top U a (evE Z U a)).bind λx=>(top U b (evE Z U b)).bind λy=>DD op x y:=rfl
@[simp]theorem ZDJ(op a):evE Z U (.un op a)=(top U a (evE Z U a)).bind λx=>unD op x:=rfl
@[simp]theorem ZDM(a):evE Z U (.no a)=(top U a (evE Z U a)).bind λx=>(Ez x).bind λb=>.ok (.bl (!b)):=rfl
@[simp]theorem ZCq(es):evE Z U (.and es)=evN Z U es:=rfl
@[simp]theorem ZDL(es):evE Z U (.or es)=evO Z U es:=rfl
@[simp]theorem ZCd(e):evN Z U (.cons e .nil)=evE Z U e:=rfl
@[simp]theorem ZyZ(e e' es):evN Z U (.cons e (.cons e' es))=(evE Z U e).bind λx=>(Ez x).bind λc=>if c=Aa then evN Z U (.cons e' es) else .ok (.bl Ae):=rfl
@[simp]theorem ZCc(e):evO Z U (.cons e .nil)=evE Z U e:=rfl
@[simp]theorem ZyY(e e' es):evO Z U (.cons e (.cons e' es))=(evE Z U e).bind λx=>(Ez x).bind λc=>if c=Aa then .ok (.bl Aa) else evO Z U (.cons e' es):=rfl
@[simp]theorem ZCo(op a b):evE Z U (.cmp op a b)=(top U a (evE Z U a)).bind λx=>(top U b (evE Z U b)).bind λy=>Ci op x y:=rfl
@[simp]theorem Zy5(op op' a b c):evE Z U (.cmp2 op op' a b c)=(top U a (evE Z U a)).bind λx=>(top U b (evE Z U b)).bind λy=>(Ci op x y).bind λz=>(Ez z).bind λk=>if k=Aa then (top U c (evE Z U c)).bind λu=>Ci op' y u else .ok (.bl Ae):=rfl
@[simp]theorem Zy6(f as):evE Z U (.call f as)=(Ϭ Z U as).bind λxs=>(Z.F f xs).bind λd=>if K1 U as=Aa then .ok d else if MX (Z.fr f) d=Aa then .ok d else .bad:=rfl
@[simp]theorem YR(f as):evE Z U (.bi f as)=(Ϭ Z U as).bind λxs=>Tm f xs:=rfl
@[simp]theorem ZCl(a ks):evE Z U (.isi a ks)=(top U a (evE Z U a)).bind λx=>Fm Z.up ks x:=rfl
@[simp]theorem ZCn(a i):evE Z U (.x a i)=(top U a (evE Z U a)).bind λx=>(top U i (evE Z U i)).bind λy=>BR x y:=rfl
@[simp]theorem ZDK(a lo hi):evE Z U (.sl a lo hi)=(top U a (evE Z U a)).bind λx=>(top U lo (evE Z U lo)).bind λl=>(slE lo l).bind λl'=>(top U hi (evE Z U hi)).bind λh=>(slE hi h).bind λh'=>Ý x l' h':=rfl
@[simp]theorem ZCh(es):evE Z U (.H es)=(Ϲ Z U es).bind λxs=>.ok (.H xs):=rfl
@[simp]theorem ZCk(es):evE Z U (.L es)=(Ϲ Z U es).bind λxs=>.ok (.L xs):=rfl
noncomputable def cG(Z:Z2)(U:Rho)(t:Ag)(c:E):D->R Al:=λx=>(top (U.set t (Ab (x,Ae))) c (evE Z (U.set t (Ab (x,Ae))) c)).bind Dh
noncomputable def cF(Z:Z2)(U:Rho)(t:Ag)(elt:E):D->R D:=λx=>evE Z (U.set t (Ab (x,Ae))) elt
noncomputable def mkL(r:R (Ac D)):R D:=(ϣ r).bind λys=>.ok (.L ys)
@[simp]theorem ZDs(ys):mkL (.ok ys)=.ok (.L ys):=rfl
@[simp]theorem Zy4(elt t it c):evE Z U (.comp elt t it c)=(Ë Z U it).bind λxs=>mkL (Bz (cG Z U t c) (cF Z U t elt) xs):=rfl
noncomputable def Λ(Z:Z2)(U:Rho)(ts:Ac Ag)(c:E):D->R Al:=λx=>(FH ts x U).bind λU'=>(top U' c (evE Z U' c)).bind Dh
noncomputable def ϐ(Z:Z2)(U:Rho)(ts:Ac Ag)(elt:E):D->R D:=λx=>(FH ts x U).bind λU'=>evE Z U' elt
@[simp]theorem ZxH(elt ts it c):evE Z U (.compT elt ts it c)=(Ë Z U it).bind λxs=>mkL (Bz (Λ Z U ts c) (ϐ Z U ts elt) xs):=rfl
@[simp]theorem Zy3(it):evE Z U (.tupI it)=(Ë Z U it).bind λxs=>.ok (.H xs):=rfl
@[simp]theorem ZCs:Ϲ Z U .nil=.ok []:=rfl
@[simp]theorem WR(e es):Ϲ Z U (.cons e es)=(evE Z U e).bind λx=>(Ϲ Z U es).bind λxs=>.ok (x::xs):=rfl
@[simp]theorem ZCr:Ϭ Z U .nil=.ok []:=rfl
@[simp]theorem WQ(e es):Ϭ Z U (.cons e es)=(top U e (evE Z U e)).bind λx=>(Ϭ Z U es).bind λxs=>.ok (x::xs):=rfl
@[simp]theorem ZEU(a):Ë Z U (.e a)=(evE Z U a).bind Ct:=rfl
@[simp]theorem i9(a):Ë Z U (.rng a)=(top U a (evE Z U a)).bind λx=>(FJ x).bind λj=>De 0 j:=rfl
@[simp]theorem vJ(a b):Ë Z U (.rng2 a b)=(top U a (evE Z U a)).bind λx=>(top U b (evE Z U b)).bind λy=>(FJ x).bind λi=>(FJ y).bind λj=>De i j:=rfl
@[simp]theorem ZCe(a b):Ë Z U (.zip a b)=(evE Z U a).bind λx=>(evE Z U b).bind λy=>(Ct x).bind λxs=>(Ct y).bind λys=>.ok (EK xs ys):=rfl
@[simp]theorem Zy2(a b c):Ë Z U (.zip3 a b c)=(evE Z U a).bind λx=>(evE Z U b).bind λy=>(evE Z U c).bind λz=>MO x y z:=rfl
@[simp]theorem ZCf(a):Ë Z U (.enm a)=(evE Z U a).bind λx=>(Ct x).bind λxs=>.ok (E6 0 xs):=rfl
@[simp]theorem Zy0(a b):GF Z U (.zip a b)=Ë Z U (.zip a b):=rfl
@[simp]theorem Zy1(a):GF Z U (.enm a)=Ë Z U (.enm a):=rfl
@[simp]theorem ZDI(a):GF Z U (.e a)=(evE Z U a).bind Ct:=rfl
@[simp]theorem vH(a):GF Z U (.rng a)=Ë Z U (.rng a):=rfl
@[simp]theorem rG(a b):GF Z U (.rng2 a b)=Ë Z U (.rng2 a b):=rfl
variable(r:R D)
@[simp]theorem Zzu(i):top U (.v i) r=FT U i:=rfl
@[simp]theorem Zzx:top U .O r=r:=rfl
@[simp]theorem ZC7(b):top U (.bl b) r=r:=rfl
@[simp]theorem ZzA(b):top U (.int b) r=r:=rfl
@[simp]theorem Zzw(b):top U (.str b) r=r:=rfl
@[simp]theorem ZzD(op a b):top U (.B op a b) r=r:=rfl
@[simp]theorem ZC3(op a):top U (.un op a) r=r:=rfl
@[simp]theorem ZC6(a):top U (.no a) r=r:=rfl
@[simp]theorem ZzE(a):top U (.and a) r=r:=rfl
@[simp]theorem ZC5(a):top U (.or a) r=r:=rfl
@[simp]theorem ZzC(op a b):top U (.cmp op a b) r=r:=rfl
@[simp]theorem ZyB(op op' a b c):top U (.cmp2 op op' a b c) r=r:=rfl
@[simp]theorem ZyC(a b):top U (.call a b) r=r:=rfl
@[simp]theorem pk(a b):top U (.bi a b) r=r:=rfl
@[simp]theorem Zzz(a b):top U (.isi a b) r=r:=rfl
@[simp]theorem ZzB(a b):top U (.x a b) r=r:=rfl
@[simp]theorem ZC4(a b c):top U (.sl a b c) r=r:=rfl
@[simp]theorem Zzv(a):top U (.H a) r=r:=rfl
@[simp]theorem Zzy(a):top U (.L a) r=r:=rfl
@[simp]theorem ZyA(a b c d):top U (.comp a b c d) r=r:=rfl
@[simp]theorem Zup(a b c d):top U (.compT a b c d) r=r:=rfl
end
@[simp]theorem Zua(x:D×Al)(U:Rho):FT (Ab x::U) 0=.ok x.1:=rfl
@[simp]theorem Zub(x:D)(U:Rho):GE (Ab (x,Ae)::U) 0=.ok x:=rfl
@[simp]theorem ZtO(x:Sl)(U:Rho)(i:Ag)[NeZero i]:FT (x::U) i=FT U (i-1):=by
 obtain⟨j,rfl⟩:∃ j,i=j+1:=⟨i-1,by have:=Nb i;omega⟩
 rfl
@[simp]theorem ZtP(x:Sl)(U:Rho)(i:Ag)[NeZero i]:GE (x::U) i=GE U (i-1):=by
 obtain⟨j,rfl⟩:∃ j,i=j+1:=⟨i-1,by have:=Nb i;omega⟩
 rfl
noncomputable def ż(U:Rho)(i:Ag):Al:=match U[i]? with
    |some (Ab (_,Aa))=>Ae
    |_=>Aa
@[simp]theorem ZyG(x:D)(b:Al)(U:Rho):ż (Ab (x,b)::U) 0=!b:=by cases b<;>rfl
@[simp]theorem ZuP(U:Rho):ż (Af::U) 0=Aa:=rfl
@[simp]theorem ZuQ(x:Sl)(U:Rho)(i:Ag)[NeZero i]:ż (x::U) i=ż U (i-1):=by
 obtain⟨j,rfl⟩:∃ j,i=j+1:=⟨i-1,by have:=Nb i;omega⟩
 rfl
section
variable(U:Rho)
@[simp]theorem Zz3(i):Ó U (.v i)=ż U i:=rfl
@[simp]theorem Zz6:Ó U .O=Aa:=rfl
@[simp]theorem ZDh(b):Ó U (.bl b)=Aa:=rfl
@[simp]theorem Zz9(b):Ó U (.int b)=Aa:=rfl
@[simp]theorem Zz5(b):Ó U (.str b)=Aa:=rfl
@[simp]theorem ZAb(op a b):Ó U (.B op a b)=Aa:=rfl
@[simp]theorem ZyJ(op op' a b c):Ó U (.cmp2 op op' a b c)=Aa:=rfl
@[simp]theorem ZyK(a b):Ó U (.call a b)=Aa:=rfl
@[simp]theorem ZDi(a b):Ó U (.bi a b)=Aa:=rfl
@[simp]theorem Zz8(a b):Ó U (.isi a b)=Aa:=rfl
@[simp]theorem ZAa(a b):Ó U (.x a b)=Aa:=rfl
@[simp]theorem ZDg(a b c):Ó U (.sl a b c)=Aa:=rfl
@[simp]theorem Zz4(a):Ó U (.H a)=Aa:=rfl
@[simp]theorem Zz7(a):Ó U (.L a)=Aa:=rfl
@[simp]theorem ZyI(a b c d):Ó U (.comp a b c d)=Aa:=rfl
@[simp]theorem ZuR(a b c d):Ó U (.compT a b c d)=Aa:=rfl
@[simp]theorem ZyH:K1 U .nil=Aa:=rfl
@[simp]theorem qO(e es):K1 U (.cons e es)=(Ó U e&&K1 U es):=rfl
end
@[simp]theorem ZtR(U:Rho):F4 [] [] U=Ab U:=rfl
@[simp]theorem Zqo(t ts d ds)(U:Rho):F4 (t::ts) (d::ds) U=F4 ts ds (U.set t (Ab (d,Ae))):=rfl
@[simp]theorem Zyh(ts ds)(U:Rho):LK ts (.H ds) U=FH ts (.H ds) U:=rfl
@[simp]theorem VD(ts ds)(U:Rho):FH ts (.H ds) U=match F4 ts ds U with
  |some U'=>.ok U'
  |none=>.bad:=rfl
@[simp]theorem Zzd(c:Prop)[HP c](a b:R α)(f:α->R β):(if c then a else b).bind f=if c then a.bind f else b.bind f:=by split<;>rfl
@[simp]theorem ZDr(U:Rho)(c:Prop)[HP c](a b:R α)(f:α->O):O.of U (if c then a else b) f=if c then O.of U a f else O.of U b f:=by split<;>rfl
@[simp]theorem ZBn(U:Rho)(a:R α)(g:α->R β)(f:β->O):O.of U (a.bind g) f=O.of U a λx=>O.of U (g x) f:=by cases a<;>rfl
@[simp]theorem Zyz(c:Prop)[HP c](a b:O)(f:Rho->O):O.turn (if c then a else b) f=if c then a.turn f else b.turn f:=by split<;>rfl
@[simp]theorem ZCQ(fr:Al)(c:Prop)[HP c](a b:O):O.ans fr (if c then a else b)=if c then a.ans fr else b.ans fr:=by split<;>rfl
@[simp]theorem Zuk(U f):O.turn (.next U) f=f U:=rfl
@[simp]theorem Zyy(d b f):O.turn (.ret d b) f=.ret d b:=rfl
@[simp]theorem Zzg(U):O.ans Ae (.next U)=.ok .O:=rfl
@[simp]theorem ZCP(d b):O.ans Ae (.ret d b)=.ok d:=rfl
@[simp]theorem Zzf(d b):O.ans Aa (.ret d b)=if (!b&&Ŵ d)=Aa then .bad else .ok d:=rfl
@[simp]theorem ZBR(d):Ŵ (.L d)=Aa:=rfl
@[simp]theorem ZBQ(d):Ŵ (.H d)=Ae:=rfl
@[simp]theorem ZBS(d):Ŵ (.int d)=Ae:=rfl
@[simp]theorem ZDV(i j:Ad):DD .Add (.int i) (.int j)=.ok (.int (i+j)):=rfl
@[simp]theorem ZDc(i j:Ad):DD .Sub (.int i) (.int j)=.ok (.int (i-j)):=rfl
@[simp]theorem w9(i j:Ad):DD .Mult (.int i) (.int j)=if (Ey i j||E5 i j)=Aa then .ok (.int (i*j)) else .bad:=rfl
@[simp]theorem i7(i j:Ad):DD .FloorDiv (.int i) (.int j)=if 0<j/\j<1073741824 then .ok (.int (i/j)) else .bad:=rfl
@[simp]theorem wd(i j:Ad):DD .Mod (.int i) (.int j)=if 0<j then .ok (.int (i%j)) else .bad:=rfl
@[simp]theorem wq(i j:Ad):DD .Pow (.int i) (.int j)=if (0<=j/\j<=1000000)/\(-(18446744073709551616:Ad)<i/\i<18446744073709551616) then .ok (.int (i ^ j.toNat)) else .bad:=rfl
@[simp]theorem YA(x y:An):DD .Add (.str x) (.str y)=if Dv (x.length+y.length)=Aa then .ok (.str (x++y)) else .bad:=rfl
@[simp]theorem YB(x y:Ac D):DD .Add (.L x) (.L y)=if Dv (x.length+y.length)=Aa then .ok (.L (x++y)) else .bad:=rfl
@[simp]theorem Y_3(x y:Ac D):DD .Add (.H x) (.H y)=if (!x.isEmpty&&Dv (x.length+y.length))=Aa then .ok (.H (x++y)) else .bad:=rfl
@[simp]theorem ZEz(i:Ad):unD .USub (.int i)=.ok (.int (-i)):=rfl
@[simp]theorem lL(x y:D):Ci .Eq x y=if (Y8 5 x&&Y8 5 y)=Aa then .ok (.bl (U4 x y)) else .bad:=rfl
@[simp]theorem kJ(x y:D):Ci .NotEq x y=if (Y8 5 x&&Y8 5 y)=Aa then .ok (.bl (!U4 x y)) else .bad:=rfl
@[simp]theorem ZEA(i j:Ad):Ci .Lt (.int i) (.int j)=.ok (.bl (decide (i<j))):=rfl
@[simp]theorem ZEF(i j:Ad):Ci .LtE (.int i) (.int j)=.ok (.bl (decide (i<=j))):=rfl
@[simp]theorem ZEO(i j:Ad):Ci .Gt (.int i) (.int j)=.ok (.bl (decide (j<i))):=rfl
@[simp]theorem mR(x:D)(ys:Ac D):Ci .In x (.L ys)=if (Y8 5 x&&ys.all (Y8 5))=Aa then .ok (.bl (ys.any λy=>U4 y x)) else .bad:=rfl
@[simp]theorem mQ(x:D)(ys:Ac D):Ci .In x (.H ys)=if (Y8 5 x&&ys.all (Y8 5))=Aa then .ok (.bl (ys.any λy=>U4 y x)) else .bad:=rfl
@[simp]theorem kG(x:D)(ys:Ac D):Ci .NotIn x (.L ys)=if (Y8 5 x&&ys.all (Y8 5))=Aa then .ok (.bl (!ys.any λy=>U4 y x)) else .bad:=rfl
@[simp]theorem kF(x:D)(ys:Ac D):Ci .NotIn x (.H ys)=if (Y8 5 x&&ys.all (Y8 5))=Aa then .ok (.bl (!ys.any λy=>U4 y x)) else .bad:=rfl
@[simp]theorem ZDB:Ci .Is .O .O=.ok (.bl Aa):=rfl
@[simp]theorem ZDD(i):Ci .Is (.int i) .O=.ok (.bl Ae):=rfl
@[simp]theorem ZDA(i):Ci .Is (.H i) .O=.ok (.bl Ae):=rfl
@[simp]theorem ZDC(i):Ci .Is (.L i) .O=.ok (.bl Ae):=rfl
@[simp]theorem ZEH(a b):Ci .Is (.bl a) (.bl b)=.ok (.bl (a==b)):=rfl
@[simp]theorem ZDy(a b):Ci .IsNot (.bl a) (.bl b)=.ok (.bl (!(a==b))):=rfl
@[simp]theorem ZBH:Ci .IsNot .O .O=.ok (.bl Ae):=rfl
@[simp]theorem ZBJ(i):Ci .IsNot (.int i) .O=.ok (.bl Aa):=rfl
@[simp]theorem ZBG(i):Ci .IsNot (.H i) .O=.ok (.bl Aa):=rfl
@[simp]theorem ZBI(i):Ci .IsNot (.L i) .O=.ok (.bl Aa):=rfl
@[simp]theorem ZCx(i j:Ad):U4 (.int i) (.int j)=(i==j):=rfl
@[simp]theorem ZDO(i j:Al):U4 (.bl i) (.bl j)=(i==j):=rfl
@[simp]theorem ZCv(i j:An):U4 (.str i) (.str j)=(i==j):=rfl
@[simp]theorem ZCu(i j:Ac D):U4 (.H i) (.H j)=My i j:=rfl
@[simp]theorem ZCw(i j:Ac D):U4 (.L i) (.L j)=My i j:=rfl
@[simp]theorem Zy7:My [] []=Aa:=rfl
@[simp]theorem R4(x y:D)(xs ys:Ac D):My (x::xs) (y::ys)=(U4 x y&&My xs ys):=rfl
@[simp]theorem ZB5(n)(i:Ad):Y8 n (.int i)=Aa:=by cases n<;>rfl
@[simp]theorem ZDH(n)(i:Al):Y8 n (.bl i)=Aa:=by cases n<;>rfl
@[simp]theorem ZB3(n)(i:An):Y8 n (.str i)=Aa:=by cases n<;>rfl
@[simp]theorem ZB4(n):Y8 n .O=Aa:=by cases n<;>rfl
@[simp]theorem ZyS(i):Y8 5 (.H i)=i.all (Y8 4):=rfl
@[simp]theorem ZyT(i):Y8 5 (.L i)=i.all (Y8 4):=rfl
@[simp]theorem Zzt(b):Dh (.bl b)=.ok b:=rfl
@[simp]theorem RE(x r):Gj (x::r)=(Fl x).bind λb=>(Gj r).bind λc=>.ok (b&&c):=rfl
@[simp]theorem VF(x r):F6 (x::r)=(Fl x).bind λb=>(F6 r).bind λc=>.ok (b||c):=rfl
@[simp]theorem ZCN(b):Ez (.bl b)=.ok b:=rfl
@[simp]theorem RQ(b):FJ (.int b)=.ok b:=rfl
@[simp]theorem tG(b):Qi (.L b)=.ok b:=rfl
@[simp]theorem Zyk(b):Ct (.L b)=.ok b:=rfl
@[simp]theorem Zyj(b):Ct (.H b)=.ok b:=rfl
@[simp]theorem jR(xs i):BR (.L xs) (.int i)=Dl xs i:=rfl
@[simp]theorem jQ(xs i):BR (.H xs) (.int i)=Dl xs i:=rfl
@[simp]theorem ZEC(xs):Tm .len [.L xs]=.ok (.int xs.length):=rfl
@[simp]theorem ZEB(xs):Tm .len [.H xs]=.ok (.int xs.length):=rfl
@[simp]theorem ZDw(i):Tm .list [.H i]=.ok (.L i):=rfl
@[simp]theorem Zzs(i):Tm .tuple [.L i]=.ok (.H i):=rfl
@[simp]theorem Zzr(i):Tm .tuple [.H i]=.ok (.H i):=rfl
@[simp]theorem lG(i):Tm .all [.L i]=(Gj i).bind λb=>.ok (.bl b):=rfl
@[simp]theorem ZE5(i):Tm .any [.L i]=(F6 i).bind λb=>.ok (.bl b):=rfl
@[simp]theorem ZE4(i):Tm .any [.H i]=(F6 i).bind λb=>.ok (.bl b):=rfl
@[simp]theorem ZEk(i):Tm .sum [.L i]=(HH 0 i).bind λb=>.ok (.int b):=rfl
@[simp]theorem ZyF(i):Tm .sorted [.L i]=(IS i).bind λb=>.ok (.L b):=rfl
@[simp]theorem ZEu(xs):Tm .rvs [.L xs]=.ok (.L xs.reverse):=rfl
@[simp]theorem ZDu(xs):Tm .lset [.L xs]=Qf xs:=rfl
@[simp]theorem nY(xs lo hi):Ý (.H xs) lo hi=if (EX xs.length 0 lo==0&&EX xs.length xs.length hi==xs.length)=Aa then .bad else .ok (.H (MW xs lo hi)):=rfl
@[simp]theorem ZFi(xs lo hi):Ý (.L xs) lo hi=.ok (.L (MW xs lo hi)):=rfl
@[simp]theorem Zz0(d):slE .O d=.ok Af:=rfl
@[simp]theorem Zz1(k i):slE (.int k) (.int i)=.ok (Ab i):=rfl
@[simp]theorem ZzZ(k i):slE (.v k) (.int i)=.ok (Ab i):=rfl
@[simp]theorem Zz2(op a b i):slE (.B op a b) (.int i)=.ok (Ab i):=rfl
@[simp]theorem ZDf(op a i):slE (.un op a) (.int i)=.ok (Ab i):=rfl
@[simp]theorem ZBM(up ks):Fm up ks .O=if ks.any GW=Aa then .bad else .ok (.bl (ks.any λk=>Ø up k .O)):=rfl
@[simp]theorem ZDz(up ks b):Fm up ks (.bl b)=if ks.any GW=Aa then .bad else .ok (.bl (ks.any λk=>Ø up k (.bl b))):=rfl
@[simp]theorem ZBO(up ks b):Fm up ks (.int b)=if ks.any GW=Aa then .bad else .ok (.bl (ks.any λk=>Ø up k (.int b))):=rfl
@[simp]theorem ZBL(up ks b):Fm up ks (.str b)=if ks.any GW=Aa then .bad else .ok (.bl (ks.any λk=>Ø up k (.str b))):=rfl
@[simp]theorem ZBK(up ks b):Fm up ks (.H b)=if ks.any GW=Aa then .bad else .ok (.bl (ks.any λk=>Ø up k (.H b))):=rfl
@[simp]theorem ZBN(up ks b):Fm up ks (.L b)=if ks.any GW=Aa then .bad else .ok (.bl (ks.any λk=>Ø up k (.L b))):=rfl
@[simp]theorem Zza:GW .int=Ae:=rfl
@[simp]theorem ZxW:GW .bool=Ae:=rfl
@[simp]theorem Zy9:GW .str=Ae:=rfl
@[simp]theorem ZxV:GW .list=Ae:=rfl
@[simp]theorem Zt1:GW .tuple=Ae:=rfl
@[simp]theorem ZtV(up i):Ø up .int (.int i)=Aa:=rfl
@[simp]theorem ZrV(up i):Ø up .bool (.int i)=Ae:=rfl
@[simp]theorem ZtW(up i):Ø up .bool (.bl i)=Aa:=rfl
@[simp]theorem ZrU(up i):Ø up .list (.L i)=Aa:=rfl
@[simp]theorem Zpc(up i):Ø up .tuple (.H i)=Aa:=rfl
theorem vE(xs:Ac D)(k:Ag)(h:k<xs.length):Dl xs (k:Ad)=.ok (xs[k]):=by
 unfold Dl ϳ;have h1:(0:Ad)<=k:=Int.natCast_nonneg k;have h2:(k:Ad)<(xs.length:Ag):=by omega
 rw[AC h1,AC h2];simp[h]
theorem Su(h0:0<=i)(h:xs[i.toNat]?=Ab d):Dl xs i=.ok d:=by
 unfold Dl ϳ;obtain⟨h1,_⟩:=Br.mp h;rw[AC h0,AC (by omega)]
 dsimp only;rw[h]
section
variable(Z:Z2)(U:Rho)
@[simp]theorem ZyU:Y4 Z U .nil=.next U:=rfl
noncomputable def Ic(Z:Z2)(ss:Ss)(o:O):O:=o.seq λU'=>Y4 Z U' ss
@[simp]theorem Mm(s ss):Y4 Z U (.cons s ss)=Ic Z ss (Ú Z U s):=rfl
@[simp]theorem zT(ss):Ic Z ss (.next U)=Y4 Z U ss:=rfl
@[simp]theorem ZDE(ss d b):Ic Z ss (.ret d b)=.ret d b:=rfl
@[simp]theorem ZDF(ss)(c:Prop)[HP c](a b:O):Ic Z ss (if c then a else b)=if c then Ic Z ss a else Ic Z ss b:=by split<;>rfl
@[simp]theorem zi(o:O):Ic Z .nil o=o:=by cases o<;>rfl
noncomputable def Bu(Z:Z2)(t:Ag)(body:Ss):D->Rho->O:=λx U'=>Y4 Z (U'.set t (Ab (x,Ae))) body
noncomputable def whC(Z:Z2)(c:E):Rho->R Al:=λU'=>(top U' c (evE Z U' c)).bind Dh
noncomputable def whB(Z:Z2)(body:Ss):Rho->O:=λU'=>Y4 Z U' body
noncomputable def UP(Z:Z2)(t:Ag)(body:Ss)(U:Rho)(r:R (Ac D)):O:=O.of U r λxs=>CD (Bu Z t body) xs U
@[simp]theorem Th(t body xs):UP Z t body U (.ok xs)=CD (Bu Z t body) xs U:=rfl
@[simp]theorem ZCa(i e):Ú Z U (.asg i Ae e)=O.of U (evE Z U e) λd=>.next (U.set i (Ab (d,Ae))):=rfl
@[simp]theorem ZyW(e):Ú Z U (.expr e)=O.of U (evE Z U e) λ_=>.next U:=rfl
@[simp]theorem i8(e):Ú Z U (.ret e)=O.of U (top U e (evE Z U e)) λd=>.ret d (Dy Z e||(match e with | .v i=>(match U[i]? with|some (Ab (_,o))=>o|_=>Ae)|_=>Ae)):=rfl
@[simp]theorem ZB8(c a b):Ú Z U (.ife c a b)=O.of U ((top U c (evE Z U c)).bind Dh) λk=>if k=Aa then Y4 Z U a else Y4 Z U b:=rfl
@[simp]theorem Sy(t it body):Ú Z U (.fors t it body)=UP Z t body U (GF Z U it):=rfl
noncomputable def EI(Z:Z2)(ts:Ac Ag)(body:Ss):D->Rho->O:=λx U'=>O.of U' (FH ts x U') λΑ=>Y4 Z Α body
noncomputable def Zy(Z:Z2)(ts:Ac Ag)(body:Ss)(U:Rho)(r:R (Ac D)):O:=O.of U r λxs=>CD (EI Z ts body) xs U
@[simp]theorem WJ(t body xs):Zy Z t body U (.ok xs)=CD (EI Z t body) xs U:=rfl
@[simp]theorem WP(t it body):Ú Z U (.forT t it body)=Zy Z t body U (GF Z U it):=rfl
@[simp]theorem ZyX(ts e):Ú Z U (.asgT ts e)=O.of U (evE Z U e) λd=>O.of U (LK ts d U) λU'=>.next U':=rfl
theorem vG(i e):Ú Z U (.asg i Aa e)=O.of U (evE Z U e) λd=>if Dy Z e=Aa then (match d with
      |.L xs=>.next (U.set i (Ab (.L xs,Aa)))
      |.dic xs=>.next (U.set i (Ab (.dic xs,Aa)))
      | _=>.bad) else .bad:=rfl
noncomputable def setF(U:Rho)(i:Ag):D->O
 |.L xs=>.next (U.set i (Ab (.L xs,Aa)))
 |.dic xs=>.next (U.set i (Ab (.dic xs,Aa)))
 |_=>.bad
@[simp]theorem ZDj(i xs):setF U i (.L xs)=.next (U.set i (Ab (.L xs,Aa))):=rfl
@[simp]theorem ZxG(i e):Ú Z U (.asg i Aa e)=O.of U (evE Z U e) λd=>if Dy Z e=Aa then setF U i d else .bad:=by
 rw[vG]
 congr 1
@[simp]theorem ZCb(i e):Ú Z U (.app i e)=O.of U (DG U i) λxs=>O.of U (evE Z U e) λd=>if Dv (xs.length+1)=Aa then .next (U.set i (Ab (.L (xs++[d]),Aa))) else .bad:=rfl
@[simp]theorem ZB9(i e):Ú Z U (.ext i e)=O.of U (DG U i) λxs=>O.of U (evE Z U e) λd=>O.of U (Qi d) λys=>if Dv (xs.length+ys.length)=Aa then .next (U.set i (Ab (.L (xs++ys),Aa))) else .bad:=rfl
theorem Tk(i k e):Ú Z U (.put i k e)=O.of U (evE Z U e) λd=>O.of U (DG U i) λxs=>O.of U ((top U k (evE Z U k)).bind FJ) λj=>match ϳ xs.length j with
      |some n=>.next (U.set i (Ab (.L (xs.set n d),Aa)))
      |none=>.bad:=rfl
theorem Tj(i):Ú Z U (.rel i)=match U[i]? with
      |some (Ab (d,Aa))=>.next (U.set i (Ab (d,Ae)))
      |_=>.next U:=rfl
@[simp]theorem ZyV(c as):Ú Z U (.rais c as)=O.of U (ϣ (Ϲ Z U as)) λxs=>O.of U (Z.xn c xs) λx=>.exn x U:=rfl
end
end Ov
namespace Ov
open PySem
theorem WK(P:Rho->Prop):∀(xs:Ac D)(U:Rho),P U->(∀ x∈xs,∀ U,P U->∃ U',body x U=.next U'/\P U')->∃ U',CD body xs U=.next U'/\P U'
 |[],U,h,_=>⟨U,rfl,h⟩
 |x::xs,U,h,k=>by
  obtain⟨U1,e1,h1⟩:=k x Ax U h;obtain⟨U2,e2,h2⟩:=WK P xs U1 h1 λy hy=>k y (Av _ hy)
  exact⟨U2,by show (body x U).turn _=_;rw[e1];exact e2,h2⟩
theorem RJ(P:Ag->Rho->Prop):∀(xs:Ac D)(n:Ag)(U:Rho),P n U->(∀ i x,xs[i]?=Ab x->∀ U,P (n+i) U->∃ U',body x U=.next U'/\P (n+i+1) U')->∃ U',CD body xs U=.next U'/\P (n+xs.length) U'
 |[],n,U,h,_=>⟨U,rfl,h⟩
 |x::xs,n,U,h,k=>by
  obtain⟨U1,e1,h1⟩:=k 0 x rfl U h;obtain⟨U2,e2,h2⟩:=RJ P xs (n+1) U1 h1 λi y hy U hρ=>by
   have:=k (i+1) y (by simpa using hy) U (by rw[show n+(i+1)=n+1+i by omega];exact hρ)
   rw[show n+(i+1)=n+1+i by omega]at this
   exact this
  exact⟨U2,by show (body x U).turn _=_;rw[e1];exact e2,by rw[show n+(x::xs).length=n+1+xs.length by simp;omega];exact h2⟩
theorem uC(h:x∈Dx lo n):∃ k:Ag,k<n/\x=.int (lo+(k:Ad)):=by
 obtain⟨k,hk,e⟩:=A7.mp h;exact⟨k,A9.mp hk,e.symm⟩
theorem NA(lo:Ad)(n:Ag):(Dx lo n).length=n:=by simp[Dx]
theorem Sr(h:(Dx lo n)[i]?=Ab x):i<n/\x=.int (lo+(i:Ad)):=by
 have hl:=(Br.mp h).1;rw[NA]at hl;unfold Dx at h;rw[D7,List.getElem?_range hl]at h;cases h;exact⟨hl,rfl⟩
noncomputable def Ss.take:Ag->Ss->Ss
 |0,_=>.nil
 |_,.nil=>.nil
 |n+1,.cons s ss=>.cons s (ss.take n)
noncomputable def Ss.drop:Ag->Ss->Ss
 |0,ss=>ss
 |_,.nil=>.nil
 |n+1,.cons _ ss=>ss.drop n
theorem WO(Z:Z2):∀(n:Ag)(ss:Ss)(U:Rho),Y4 Z U ss=Ic Z (ss.drop n) (Y4 Z U (ss.take n))
 |0,_,_=>rfl
 |_+1,.nil,_=>rfl
 |n+1,.cons s ss,U=>by
  show (Ú Z U s).seq (λU'=>Y4 Z U' ss)=Ic Z (ss.drop n) ((Ú Z U s).seq λU'=>Y4 Z U' (ss.take n))
  cases Ú Z U s with
  |next U'=>exact WO Z n ss U'
  |_=>rfl
end Ov
namespace Ov
end Ov
namespace OvC
open PySem Ov PyProof.Rows
noncomputable abbrev þ(ns:Ac Ad):D:=.L (ns.map .int)
noncomputable abbrev sh(d:D):Sl:=Ab (d,Ae)
noncomputable abbrev si(i:Ad):Sl:=Ab (.int i,Ae)
theorem four{j:Ad}{P:Ag->Prop}(h0:P 0)(h1:P 1)(h2:P 2)(h3:P 3):P (j%4).toNat:=by
 have:(j%4).toNat=0\/(j%4).toNat=1\/(j%4).toNat=2\/(j%4).toNat=3:=by omega
 rcases this with e|e|e|e<;>rw[e]<;>assumption
def P4(p:Ad):Prop:=p=3\/p=5\/p=7\/p=11
theorem P4.pos(h:P4 p):0<p:=by rcases h with rfl|rfl|rfl|rfl<;>decide
theorem P4.lo(h:P4 p):3<=p:=by rcases h with rfl|rfl|rfl|rfl<;>decide
theorem P4.hi(h:P4 p):p<=11:=by rcases h with rfl|rfl|rfl|rfl<;>decide
theorem IT(h0:-18446744073709551616<i)(h1:i<18446744073709551616):Ey i j=Aa:=by simp[Ey];left;exact⟨h0,h1⟩
theorem Td(h0:-18446744073709551616<j)(h1:j<18446744073709551616):Ey i j=Aa:=by simp[Ey];right;exact⟨h0,h1⟩
noncomputable def TN:Df:=⟨2,Ae,{.ret (.B .Mod (.v 1) (.v 0))}⟩
def IV(Z:Z2):Prop:=∀ p n:Ad,0<p->Z.F 1 [.int p,.int n]=.ok (.int (n%p))
theorem v4(Z:Z2)(p n:Ad)(h:0<p):TN.run Z [.int p,.int n]=.ok (.int (n%p)):=by simp[TN,Df.run,Bc,h]
end OvC
namespace Ov
open PySem PySem.Spec PyProof.Rows L2
variable{A:Am->Prop}{H:Hp}{a b q:Am}{xs:Ac V}{v:V}{d:D}{r:R D}{e c iter elt:Aq}{i n j k:Ag}{Y:L2.St}{K:Fg}{pI:Pn}{s:At}{Z9 Cl:Ac Aj}{ys us:AO Aj}{h h' h2:AS}{es ifs:Ac Aq}{fs:Rho->R (Ac D)}{x:An}{id:Du}{p pos:Bf}{α:Type}{o:Dr}
abbrev ClA:=Ag->As Am
def KL(K:Fg)(a:Am)(xs:Ac V):Prop:=∃(o:Dr)(Z9:AO Aj)(n:Ag),K.lookup a=Ab o/\o.cls=.type "list"/\o.dict=Af/\o.data=.seq Z9 n/\Z9.size<=sizeLine/\Bl xs Z9.toList
def KT(K:Fg)(a:Am)(xs:Ac V):Prop:=∃(o:Dr)(Z9:AO Aj)(n:Ag),K.lookup a=Ab o/\o.cls=.type "tuple"/\o.data=.seq Z9 n/\Z9.size<=sizeLine/\Bl xs Z9.toList
section
variable(K:Fg)(CL:ClA)(H:Hp)(A:Am->Prop)
mutual
def U8:V->D->Prop
 |v,.O=>v=.O
 |v,.bl b=>v=.bl b
 |v,.int i=>v=.int i
 |v,.str x=>v=.str x
 |v,.H ds=>∃ a xs,v=.ref a/\(¬ A a\/KT K a xs)/\ð K H a xs/\Z7 xs ds
 |v,.L ds=>∃ a xs,v=.ref a/\(¬ A a\/KL K a xs)/\fI K H a xs/\Z7 xs ds
 |v,.obj c fs=>∃ a C dx vs,v=.ref a/\¬ A a/\CL c=Ab C/\H a=Ab (.ins C dx vs)/\oI vs fs
 |_,.dic _=>BV
 |v,.exc c fs=>∃ a C φ,v=.ref a/\¬ A a/\CL c=Ab C/\H a=Ab (.ext φ)/\(∀ h,φ h->∃ o,h.get? a=Ab o/\o.cls=.ref C)/\(fs=[]\/∃ dx vs,¬ A dx/\H dx=Ab (.xd vs)/\oI vs fs/\∀ h,φ h->∃ o,h.get? a=Ab o/\o.dict=Ab dx/\∃ us,o.data=.fields us)
def Z7:Ac V->Ac D->Prop
 |[],[]=>Jj
 |v::vs,d::ds=>U8 v d/\Z7 vs ds
 |_,_=>BV
def oI:Ac (An×V)->Ac (An×D)->Prop
 |[],[]=>Jj
 |v::vs,d::ds=>ç v d/\oI vs ds
 |_,_=>BV
def ç:An×V->An×D->Prop
 |v,(n,d)=>v.1=n/\U8 v.2 d
end
def DQ(v:V)(d:D):Prop:=U8 K CL H A v d\/∃ a xs ds,v=.ref a/\d=.L ds/\H a=Ab (.L xs)/\Z7 K CL H A xs ds
end
def Kp(A:Am->Prop)(H H':Hp):Prop:=∀ b o,H b=Ab o->¬ A b->H' b=Ab o
def we(H:Hp)(A:Am->Prop):Prop:=∀ a,A a->∃ xs,H a=Ab (.L xs)
theorem Kp.of(h:A1 H H'):Kp A H H':=λb o e _=>h b o e
theorem we.same(h:we H A)(s:A1 H H'):we H' A:=λa ha=>let ⟨xs,e⟩:=h a ha;⟨xs,s _ _ e⟩
theorem we.new{p:Am}(h:we H A)(e:H p=Af):¬ A p:=λha=>by
 obtain⟨xs,q⟩:=h p ha;rw[e]at q;cases q
section
variable{K:Fg}{CL:ClA}{H H':Hp}{A B:Am->Prop}
theorem Za(k:Kp A H H')(na:¬ A a)(h:Rd H a u):Rd H' a u:=by
 rcases h with h|⟨o,h⟩
 .exact .inl (k _ _ h na)
 .exact .inr ⟨o,k _ _ h na⟩
theorem Pu(k:Kp A H H')(na:¬ A a\/KL K a xs)(h:fI K H a xs):fI K H' a xs:=na.elim (λna=>h.imp (Za k na) id) .inr
theorem Pt(k:Kp A H H')(na:¬ A a\/KT K a xs)(h:ð K H a xs):ð K H' a xs:=na.elim (λna=>h.imp (Za k na) id) .inr
mutual
theorem U8.kp(k:Kp A H H'):∀{v:V}(d:D),U8 K CL H A v d->U8 K CL H' A v d
 |_,.O,h=>h
 |_,.bl _,h=>h
 |_,.int _,h=>h
 |_,.str _,h=>h
 |_,.dic _,h=>h.elim
 |_,.H ds,h=>by
  obtain⟨a,xs,e,na,s,r⟩:=h;exact⟨a,xs,e,na,by first|exact Pt k na s|exact Pu k na s,Z7.kp k ds r⟩
 |_,.L ds,h=>by
  obtain⟨a,xs,e,na,s,r⟩:=h;exact⟨a,xs,e,na,by first|exact Pt k na s|exact Pu k na s,Z7.kp k ds r⟩
 |_,.obj c fs,h=>by
  obtain⟨a,C,dx,vs,e,na,c,s,r⟩:=h;exact⟨a,C,dx,vs,e,na,c,k _ _ s na,oI.kp k fs r⟩
 |_,.exc c fs,h=>by
  obtain⟨a,C,φ,e,na,c,s,p,q⟩:=h;refine⟨a,C,φ,e,na,c,k _ _ s na,p,q.imp id ?_⟩;rintro⟨dx,vs,nx,s2,r,z⟩;exact⟨dx,vs,nx,k _ _ s2 nx,oI.kp k fs r,z⟩
theorem Z7.kp(k:Kp A H H'):∀{vs:Ac V}(ds:Ac D),Z7 K CL H A vs ds->Z7 K CL H' A vs ds
 |[],[],h=>h
 |_::_,d::ds,h=>⟨U8.kp k d h.1,Z7.kp k ds h.2⟩
 |[],_::_,h=>h.elim
 |_::_,[],h=>h.elim
theorem oI.kp(k:Kp A H H'):∀{vs:Ac (An×V)}(ds:Ac (An×D)),oI K CL H A vs ds->oI K CL H' A vs ds
 |[],[],h=>h
 |_::_,d::ds,h=>⟨ç.kp k d h.1,oI.kp k ds h.2⟩
 |[],_::_,h=>h.elim
 |_::_,[],h=>h.elim
theorem ç.kp(k:Kp A H H'):∀{v:An×V}(d:An×D),ç K CL H A v d->ç K CL H' A v d
 |_,(_,d),h=>⟨h.1,U8.kp k d h.2⟩
end
mutual
theorem U8.sub(k:∀ a,B a->A a):∀{v:V}(d:D),U8 K CL H A v d->U8 K CL H B v d
 |_,.O,h=>h
 |_,.bl _,h=>h
 |_,.int _,h=>h
 |_,.str _,h=>h
 |_,.dic _,h=>h.elim
 |_,.H ds,h=>by
  obtain⟨a,xs,e,na,s,r⟩:=h;exact⟨a,xs,e,na.imp (λna z=>na (k _ z)) id,s,Z7.sub k ds r⟩
 |_,.L ds,h=>by
  obtain⟨a,xs,e,na,s,r⟩:=h;exact⟨a,xs,e,na.imp (λna z=>na (k _ z)) id,s,Z7.sub k ds r⟩
 |_,.obj c fs,h=>by
  obtain⟨a,C,dx,vs,e,na,c,s,r⟩:=h;exact⟨a,C,dx,vs,e,λz=>na (k _ z),c,s,oI.sub k fs r⟩
 |_,.exc c fs,h=>by
  obtain⟨a,C,φ,e,na,c,s,p,q⟩:=h;refine⟨a,C,φ,e,λz=>na (k _ z),c,s,p,q.imp id ?_⟩
  rintro⟨dx,vs,nx,s2,r,z⟩;exact⟨dx,vs,λz=>nx (k _ z),s2,oI.sub k fs r,z⟩
theorem Z7.sub(k:∀ a,B a->A a):∀{vs:Ac V}(ds:Ac D),Z7 K CL H A vs ds->Z7 K CL H B vs ds
 |[],[],h=>h
 |_::_,d::ds,h=>⟨U8.sub k d h.1,Z7.sub k ds h.2⟩
 |[],_::_,h=>h.elim
 |_::_,[],h=>h.elim
theorem oI.sub(k:∀ a,B a->A a):∀{vs:Ac (An×V)}(ds:Ac (An×D)),oI K CL H A vs ds->oI K CL H B vs ds
 |[],[],h=>h
 |_::_,d::ds,h=>⟨ç.sub k d h.1,oI.sub k ds h.2⟩
 |[],_::_,h=>h.elim
 |_::_,[],h=>h.elim
theorem ç.sub(k:∀ a,B a->A a):∀{v:An×V}(d:An×D),ç K CL H A v d->ç K CL H B v d
 |_,(_,d),h=>⟨h.1,U8.sub k d h.2⟩
end
mutual
theorem U8.wide(hp:∀ a,B a->A a\/H a=Af):∀{v:V}(d:D),U8 K CL H A v d->U8 K CL H B v d
 |_,.O,h=>h
 |_,.bl _,h=>h
 |_,.int _,h=>h
 |_,.str _,h=>h
 |_,.dic _,h=>h.elim
 |_,.H ds,h=>by
  obtain⟨a,xs,e,na,s,r⟩:=h;refine⟨a,xs,e,?_,s,Z7.wide hp ds r⟩;rcases s with s|s
  .refine na.imp (λna z=>(hp _ z).elim na λe=>?_) id
   rcases s with s|⟨o,s⟩<;>rw[e]at s<;>cases s
  .exact .inr s
 |_,.L ds,h=>by
  obtain⟨a,xs,e,na,s,r⟩:=h;refine⟨a,xs,e,?_,s,Z7.wide hp ds r⟩;rcases s with s|s
  .refine na.imp (λna z=>(hp _ z).elim na λe=>?_) id
   rcases s with s|⟨o,s⟩<;>rw[e]at s<;>cases s
  .exact .inr s
 |_,.obj c fs,h=>by
  obtain⟨a,C,dx,vs,e,na,c,s,r⟩:=h;exact⟨a,C,dx,vs,e,(λz=>(hp _ z).elim na λe=>by rw[e]at s;cases s),c,s,oI.wide hp fs r⟩
 |_,.exc c fs,h=>by
  obtain⟨a,C,φ,e,na,c,s,p,q⟩:=h;refine⟨a,C,φ,e,(λz=>(hp _ z).elim na λe=>by rw[e]at s;cases s),c,s,p,q.imp id ?_⟩
  rintro⟨dx,vs,nx,s2,r,z⟩;exact⟨dx,vs,(λz=>(hp _ z).elim nx λe=>by rw[e]at s2;cases s2),s2,oI.wide hp fs r,z⟩
theorem Z7.wide(hp:∀ a,B a->A a\/H a=Af):∀{vs:Ac V}(ds:Ac D),Z7 K CL H A vs ds->Z7 K CL H B vs ds
 |[],[],h=>h
 |_::_,d::ds,h=>⟨U8.wide hp d h.1,Z7.wide hp ds h.2⟩
 |[],_::_,h=>h.elim
 |_::_,[],h=>h.elim
theorem oI.wide(hp:∀ a,B a->A a\/H a=Af):∀{vs:Ac (An×V)}(ds:Ac (An×D)),oI K CL H A vs ds->oI K CL H B vs ds
 |[],[],h=>h
 |_::_,d::ds,h=>⟨ç.wide hp d h.1,oI.wide hp ds h.2⟩
 |[],_::_,h=>h.elim
 |_::_,[],h=>h.elim
theorem ç.wide(hp:∀ a,B a->A a\/H a=Af):∀{v:An×V}(d:An×D),ç K CL H A v d->ç K CL H B v d
 |_,(_,d),h=>⟨h.1,U8.wide hp d h.2⟩
end
theorem U8.same(s:A1 H H')(h:U8 K CL H A v d):U8 K CL H' A v d:=U8.kp (Kp.of s) d h
theorem Z7.same{v:Ac V}{d:Ac D}(s:A1 H H')(h:Z7 K CL H A v d):Z7 K CL H' A v d:=Z7.kp (Kp.of s) d h
theorem DQ.same{v:V}{d:D}(s:A1 H H')(h:DQ K CL H A v d):DQ K CL H' A v d:=by
 rcases h with h|⟨a,xs,ds,e,e2,q,r⟩
 .exact .inl (h.same s)
 .exact .inr ⟨a,xs,ds,e,e2,s _ _ q,r.same s⟩
theorem Z7.length:∀{vs:Ac V}{ds:Ac D},Z7 K CL H A vs ds->vs.length=ds.length
 |[],[],_=>rfl
 |_::_,_::_,h=>congrArg (· + 1) (Z7.length h.2)
 |[],_::_,h=>h.elim
 |_::_,[],h=>h.elim
theorem Z7.append:∀{vs ws:Ac V}{ds es:Ac D},Z7 K CL H A vs ds->Z7 K CL H A ws es->Z7 K CL H A (vs++ws) (ds++es)
 |[],_,[],_,_,h=>h
 |_::_,_,_::_,_,h,g=>⟨h.1,Z7.append h.2 g⟩
 |[],_,_::_,_,h,_=>h.elim
 |_::_,_,[],_,h,_=>h.elim
theorem Z7.get:∀{vs:Ac V}{ds:Ac D}{i:Ag}{d:D},Z7 K CL H A vs ds->ds[i]?=Ab d->∃ v,vs[i]?=Ab v/\U8 K CL H A v d
 |[],[],_,_,_,e=>by simp at e
 |v::_,_::_,0,_,h,e=>by simp at e;subst e;exact⟨v,rfl,h.1⟩
 |_::_,_::_,i+1,_,h,e=>by
  obtain⟨v,q,r⟩:=Z7.get (i:=i) h.2 (by simpa using e)
  exact⟨v,by simpa using q,r⟩
 |[],_::_,_,_,h,_=>h.elim
 |_::_,[],_,_,h,_=>h.elim
theorem Z7.take:∀{vs:Ac V}{ds:Ac D}(n:Ag),Z7 K CL H A vs ds->Z7 K CL H A (vs.take n) (ds.take n)
 |_,_,0,_=>trivial
 |[],[],_+1,_=>trivial
 |_::_,_::_,n+1,h=>⟨h.1,Z7.take n h.2⟩
 |[],_::_,_+1,h=>h.elim
 |_::_,[],_+1,h=>h.elim
theorem Z7.drop:∀{vs:Ac V}{ds:Ac D}(n:Ag),Z7 K CL H A vs ds->Z7 K CL H A (vs.drop n) (ds.drop n)
 |_,_,0,h=>h
 |[],[],_+1,_=>trivial
 |_::_,_::_,n+1,h=>Z7.drop n h.2
 |[],_::_,_+1,h=>h.elim
 |_::_,[],_+1,h=>h.elim
theorem Z7.set{x:V}{e:D}(r:U8 K CL H A x e):∀{vs:Ac V}{ds:Ac D}(n:Ag),Z7 K CL H A vs ds->Z7 K CL H A (vs.set n x) (ds.set n e)
 |[],[],_,_=>trivial
 |_::_,_::_,0,h=>⟨r,h.2⟩
 |_::_,_::_,n+1,h=>⟨h.1,Z7.set r n h.2⟩
 |[],_::_,_,h=>h.elim
 |_::_,[],_,h=>h.elim
end
structure U9 (K:Fg) (CL:ClA) (A:Am->Prop) (U:Rho) (Y:L2.St) (H:Hp):Prop where
 sh:∀(i:Ag)(d:D),U[i]?=Ab (Ab (d,Ae))->∃ v,Y[i]?=Ab (Ab v)/\U8 K CL H A v d
 ow:∀(i:Ag)(d:D),U[i]?=Ab (Ab (d,Aa))->∃ a xs ds,Y[i]?=Ab (Ab (.ref a))/\d=.L ds/\A a/\H a=Ab (.L xs)/\Z7 K CL H A xs ds
 len:U.length=Y.length
theorem U9.same{K:Fg}{A:Am->Prop}{Y:L2.St}{H:Hp}(g:U9 K CL A U Y H)(s:A1 H H'):U9 K CL A U Y H':=
 ⟨λi d e=>let ⟨v,q,r⟩:=g.sh i d e;⟨v,q,r.same s⟩,λi d e=>let ⟨a,xs,ds,q,z,na,h,r⟩:=g.ow i d e;⟨a,xs,ds,q,z,na,s _ _ h,r.same s⟩,g.len⟩
abbrev XW:=Ex->Hp->Prop
def BN(Rp:Hp->V->D->Prop)(W:XW)(H:Hp)(r:R D)(Q:VK):Prop:=match r with
  |.ok d=>∀ v H',A1 H H'->Rp H' v d->Q v H'
  |.exn x=>∀ H',A1 H H'->W x H'
  |.bad=>BV
def Ib(Rp:Hp->Ac V->Ac D->Prop)(W:XW)(H:Hp)(r:R (Ac D))(Q:Ac V->Hp->Prop):Prop:=match r with
  |.ok d=>∀ v H',A1 H H'->Rp H' v d->Q v H'
  |.exn x=>∀ H',A1 H H'->W x H'
  |.bad=>BV
def DV(W:XW)(H:Hp)(r:R Al)(Q:Al->Hp->Prop):Prop:=match r with
  |.ok b=>∀ H',A1 H H'->Q b H'
  |.exn x=>∀ H',A1 H H'->W x H'
  |.bad=>BV
theorem BN.same(s:A1 H H')(h:BN Rp W H r Q):BN Rp W H' r Q:=by
 cases r with
 |ok d=>exact λv H2 s2 q=>h v H2 (s.trans s2) q
 |exn x=>exact λH2 s2=>h H2 (s.trans s2)
 |bad=>exact h
theorem DV.same{r:R Al}(s:A1 H H')(h:DV W H r Q):DV W H' r Q:=by
 cases r with
 |ok d=>exact λH2 s2=>h H2 (s.trans s2)
 |exn x=>exact λH2 s2=>h H2 (s.trans s2)
 |bad=>exact h
theorem BN.bind(h:BN Rq W H (r.bind f) Q)(k:∀ d v H',r=.ok d->A1 H H'->Rp H' v d->BN Rq W H' (f d) Q->Q' v H'):BN Rp W H r Q':=by
 cases r with
 |ok d=>exact λv H2 s2 q=>k d v H2 rfl s2 q (BN.same s2 h)
 |exn x=>exact h
 |bad=>exact h
section
variable(X:Cx)(CL:ClA)(W:XW)
def SE(e:Aq)(f:Rho->R D):Prop:=∀ A,PE X e (λY H Q=>we H A/\∃ U,U9 X.K CL A U Y H/\BN (λH=>U8 X.K CL H A) W H (f U) Q)
def ST(e:Aq)(f:Rho->R D):Prop:=∀ A,PE X e (λY H Q=>we H A/\∃ U,U9 X.K CL A U Y H/\BN (λH=>DQ X.K CL H A) W H (f U) Q)
def SB(e:Aq)(f:Rho->R Al):Prop:=∀ A,PT X e (λY H Q=>we H A/\∃ U,U9 X.K CL A U Y H/\DV W H (f U) Q)
def SA(es:Ac Aq)(f:Rho->R (Ac D)):Prop:=∀ A,PA X es (λY H Q=>we H A/\∃ U,U9 X.K CL A U Y H/\Ib (λH=>Z7 X.K CL H A) W H (f U) Q)
end
theorem PE.weak(h:PE X e t)(k:∀ Y H Q,t' Y H Q->t Y H Q):PE X e t':=λpI s Y H Q I q=>h pI s Y H Q I (k _ _ _ q)
theorem PT.weak(h:PT X e t)(k:∀ Y H Q,t' Y H Q->t Y H Q):PT X e t':=λpI s Y H Q I q=>h pI s Y H Q I (k _ _ _ q)
theorem PA.weak{e:Ac Aq}(h:PA X e t)(k:∀ Y H Q,t' Y H Q->t Y H Q):PA X e t':=λpos pI s Y H Q I q=>h pos pI s Y H Q I (k _ _ _ q)
noncomputable def Ϗ(X:Cx)(CL:ClA)(W:XW)(f:Aj->Aj->HU Aj)(g:D->D->R D):Prop:=
 ∀ A,ê X f (λx y H Q=>we H A/\∃ dx dy,DQ X.K CL H A x dx/\DQ X.K CL H A y dy/\BN (λH=>U8 X.K CL H A) W H (g dx dy) Q)
section
variable{a b:Aq}{fa fb:Rho->R D}
theorem SE.st(h:SE X CL W a fa):ST X CL W a fa:=λA=>PE.weak (h A) λY H Q ⟨hA,U,g,p⟩=>⟨hA,U,g,by
 cases e:fa U with
 |ok d=>rw[e]at p;exact λv H' s r=>p v H' s (.inl r)
 |exn x=>rw[e]at p;exact p
 | bad=>rw[e]at p;exact p⟩
theorem SE.congr(h:SE X CL W a f)(e:∀ U,g U=f U):SE X CL W a g:=λA=>PE.weak (h A) λY H Q ⟨hA,U,q,p⟩=>⟨hA,U,q,by rw[<-e];exact p⟩
theorem PV(h:PE X a (tC v))(r:∀ H A,we H A->U8 X.K CL H A v d):SE X CL W a (λ_=>.ok d):=λA=>PE.weak h λY H Q ⟨hA,U,g,p⟩=>p v H (A1.refl H) (r H A hA)
theorem lg{i j}:SE X CL W (.Constant (.int i) j pos) (λ_=>.ok (.int i)):=PV xi λ_ _ _=>rfl
theorem iI{b j}:SE X CL W (.Constant (.bool b) j pos) (λ_=>.ok (.bl b)):=PV jX λ_ _ _=>rfl
theorem oi{j}:SE X CL W (.Constant .none j pos) (λ_=>.ok .O):=PV xf λ_ _ _=>rfl
theorem og{x j}:SE X CL W (.Constant (.str x) j pos) (λ_=>.ok (.str x)):=PV x6 λ_ _ _=>rfl
theorem wT(h:GE U i=.ok d):U[i]?=Ab (Ab (d,Ae)):=by
 unfold GE at h;split at h
 .rename_i e;cases h;exact e
 .cases h
theorem Xj(h:FT U i=.ok d):∃ o,U[i]?=Ab (Ab (d,o)):=by
 unfold FT at h;split at h
 .rename_i e;cases h;exact⟨_,e⟩
 .cases h
theorem sS{x:Ex}(h:GE U i=.exn x):BV:=by
 unfold GE at h;split at h<;>cases h
theorem Wt{x:Ex}(h:FT U i=.exn x):BV:=by
 unfold FT at h;split at h<;>cases h
theorem o8(h:PE X a (K0 i)):SE X CL W a (λU=>GE U i):=λA=>PE.weak h λY H Q ⟨hA,U,g,p⟩=>by
 dsimp only at p;cases e:GE U i with
 |ok d=>
  rw[e]at p;obtain⟨v,q,r⟩:=g.sh i d (wT e);exact⟨v,q,p v H (A1.refl H) r⟩
 |exn x=>exact(sS e).elim
 |bad=>rw[e]at p;exact p.elim
theorem mh(h:PE X a (K0 i)):ST X CL W a (λU=>FT U i):=λA=>PE.weak h λY H Q ⟨hA,U,g,p⟩=>by
 dsimp only at p;cases e:FT U i with
 |ok d=>
  rw[e]at p;obtain⟨o,e⟩:=Xj e;cases o with
  |false=>
   obtain⟨v,q,r⟩:=g.sh i d e;exact⟨v,q,p v H (A1.refl H) (.inl r)⟩
  |true=>
   obtain⟨x,xs,ds,q,rfl,ha,hh,r⟩:=g.ow i d e;exact⟨_,q,p _ H (A1.refl H) (.inr ⟨x,xs,ds,rfl,rfl,hh,r⟩)⟩
 |exn x=>exact(Wt e).elim
 |bad=>rw[e]at p;exact p.elim
theorem Ϥ{g:D->D->R D}{X:Cx}(h:we H A/\∃ U,U9 X.K CL A U Y H/\BN Rq W H ((fa U).bind λx=>(fb U).bind λy=>g x y) Q):we H A/\∃ U,U9 X.K CL A U Y H/\BN (λH=>DQ X.K CL H A) W H (fa U) (λx H1=>we H1 A/\∃ U,U9 X.K CL A U Y H1/\BN (λH=>DQ X.K CL H A) W H1 (fb U) (λy H2=>we H2 A/\∃ dx dy,DQ X.K CL H2 A x dx/\DQ X.K CL H2 A y dy/\BN Rq W H2 (g dx dy) Q)):=by
 obtain⟨hA,U,gd,p⟩:=h;refine⟨hA,U,gd,BN.bind p λdx x H1 _ s1 r1 p1=>⟨hA.same s1,U,gd.same s1,BN.bind p1 λdy y H2 _ s2 r2 p2=>⟨(hA.same s1).same s2,dx,dy,r1.same s2,r2,p2⟩⟩⟩
theorem Yp(ho:Ϗ X CL W (CQ op) g)(ha:ST X CL W a fa)(hb:ST X CL W b fb):SE X CL W (.BinOp a op b pos) (λU=>(fa U).bind λx=>(fb U).bind λy=>g x y):=
 λA=>PE.weak (Zk (ho A) (ha A) (hb A)) λY H Q h=>Ϥ h
theorem m6(ho:Ϗ X CL W (Da op) g)(ha:ST X CL W a fa)(hb:ST X CL W b fb)(hm:HV op b=Ae):SE X CL W (.Compare a [op] [b] pos) (λU=>(fa U).bind λx=>(fb U).bind λy=>g x y):=
 λA=>PE.weak (xJ (ho A) (ha A) (hb A) hm) λY H Q h=>Ϥ h
theorem DQ.int_of{i:Ad}(h:DQ K CL H A v (.int i)):v=.int i:=by
 rcases h with h|⟨_,_,_,_,e,_⟩
 .exact h
 .cases e
theorem DQ.str_of{i:An}(h:DQ K CL H A v (.str i)):v=.str i:=by
 rcases h with h|⟨_,_,_,_,e,_⟩
 .exact h
 .cases e
theorem DQ.bl_of{i:Al}(h:DQ K CL H A v (.bl i)):v=.bl i:=by
 rcases h with h|⟨_,_,_,_,e,_⟩
 .exact h
 .cases e
theorem DQ.non_of(h:DQ K CL H A v .O):v=.O:=by
 rcases h with h|⟨_,_,_,_,e,_⟩
 .exact h
 .cases e
theorem DQ.lst_of(h:DQ K CL H A v (.L ds)):∃ a xs,v=.ref a/\fI K H a xs/\Z7 K CL H A xs ds:=by
 rcases h with ⟨a,xs,e,_,s,r⟩|⟨a,xs,es,rfl,e,s,r⟩
 .exact⟨a,xs,e,s,r⟩
 .cases e;exact⟨a,xs,rfl,fI.of s,r⟩
theorem DQ.tup_of(h:DQ K CL H A v (.H ds)):∃ a xs,v=.ref a/\(¬ A a\/KT K a xs)/\ð K H a xs/\Z7 K CL H A xs ds:=by
 rcases h with ⟨a,xs,e,n,s,r⟩|⟨_,_,_,_,e,_⟩
 .exact⟨a,xs,e,n,s,r⟩
 .cases e
theorem aa{i j:Ad}(h:Ey i j=Aa):Qz i j:=by
 unfold Ey at h;simp only[DH,Ap,AW]at h;unfold Qz;omega
theorem Xo{a:Ad}(h:a.natAbs<2 ^ 2000):bB a<=2 ^ 20:=by
 unfold bB;split
 .omega
 .rename_i hz;have h0:a.natAbs≠0:=by intro z;exact hz (by rw[Int.natAbs_eq_zero.mp z];rfl)
  have:=(Nat.log2_lt h0).mpr h;omega
theorem zZ{i j:Ad}(h:(Ey i j||E5 i j)=Aa):Nj i j:=by
 rcases Bool.or_eq_true_iff.mp h with h|h
 .exact(aa h).ok
 .unfold E5 at h;rw[Ap,AW,AW]at h;exact .of_bits (Xo h.1) (Xo h.2)
theorem bq:ê X (CQ .Mult) (rI Nj λi j=>.int (i*j)):=opI λ_ _ _ _ _ _ _ hc q=>mul_int q hc
theorem KM(h:Dv n=Aa):n<=sizeLine:=by
 unfold Dv at h;rw[CN];have:=Et h;omega
theorem S5{p:Am}(hA:we H A)(hp:H p=Af)(r:Z7 K CL H A xs ds):U8 K CL (upd H p (.L xs)) A (.ref p) (.L ds):=
 ⟨p,xs,rfl,.inl (hA.new hp),fI.of J3,r.same λb o e=>by rw[DM (GQ e hp)];exact e⟩
theorem Mz{p:Am}(hA:we H A)(hp:H p=Af)(r:Z7 K CL H A xs ds):U8 K CL (upd H p (.H xs)) A (.ref p) (.H ds):=
 ⟨p,xs,rfl,.inl (hA.new hp),ð.of J3,r.same λb o e=>by rw[DM (GQ e hp)];exact e⟩
theorem GA{p:Am}(h:H p=Af)(o:HO):A1 H (upd H p o):=λb u q=>by rw[DM (GQ q h)];exact q
def fR(K:Fg):R2:=λx y H Q=>∃ l b xs zs,x=.ref l/\y=.ref b/\fI K H l xs/\fI K H b zs/\xs.length+zs.length<=sizeLine/\∀ p,H p=Af->Q (.ref p) (upd H p (.L (xs++zs)))
end
section
variable{X:Cx}{CL:ClA}
theorem XI:ê X (CQ .Add) (fR X.K):=by
 intro pI s Y H x y v u Q I rx ry h;obtain⟨l,b,xs,zs,rfl,rfl,hH,hB,hz,q⟩:=h;cases rx;cases ry;obtain⟨Z9,r,⟨o,n,e,c,dd,dt⟩,z⟩:=I.list hH;obtain⟨Cl,r2,⟨o2,n2,e2,c2,dd2,dt2⟩,z2⟩:=I.list hB;have hl:=r.length;have hl2:=r2.length;obtain⟨cls,dd0,data,sl⟩:=o;obtain⟨cls2,dd02,data2,sl2⟩:=o2;simp only at c dd dt c2 dd2 dt2;subst c dd dt c2 dd2 dt2;have ea:Z9.toArray++Cl.toArray=(Z9++Cl).toArray:=by simp
 refine Ky ⟨_,e,rfl⟩ ⟨_,e2,rfl⟩ noFill_list_add seq_list_add PySem.F.slot_list_add PySem.F.entry_list_add (PySem.F.args_list_add_2 _ _) (list_addW l b Z9.toArray Cl.toArray n n2 Af Af sl sl2 (by simp;omega)) ⟨e,e2,?_⟩
 rw[ea];exact⟨.ref _,_,I.lnew (t':=s.toks) (r.append r2) (by rw[BE];omega),rfl,q _ I.fresh⟩
theorem W5:Ϗ X CL W (CQ .Add) (DD .Add):=by
 intro A pI s Y H x y v u Q I rx ry ⟨hA,dx,dy,hx,hy,p⟩;cases dx with
 |int i=>
  cases dy with
  |int j=>
   have ex:=hx.int_of;have ey:=hy.int_of
   subst ex ey;exact vo pI s Y H _ _ v u Q I rx ry ⟨i,j,rfl,rfl,p _ H (A1.refl H) rfl⟩
  |_=>exact p.elim
 |str i=>
  cases dy with
  |str j=>
   have ex:=hx.str_of;have ey:=hy.str_of
   subst ex ey;simp only[YA]at p;split at p
   .rename_i h;exact qH pI s Y H _ _ v u Q I rx ry ⟨i,j,rfl,rfl,KM h,p _ H (A1.refl H) rfl⟩
   .exact p.elim
  |_=>exact p.elim
 |L ds=>
  cases dy with
  |L es=>
   obtain⟨a,xs,rfl,s1,r1⟩:=hx.lst_of;obtain⟨b,ys,rfl,s2,r2⟩:=hy.lst_of;simp only[YB]at p;split at p
   .rename_i h;refine XI pI s Y H _ _ v u Q I rx ry ⟨a,b,xs,ys,rfl,rfl,s1,s2,by rw[r1.length,r2.length];exact KM h,λq hq=>?_⟩
    exact p _ _ (GA hq _) (S5 hA hq (r1.append r2))
   .exact p.elim
  |_=>exact p.elim
 |H ds=>
  cases dy with
  |H es=>
   obtain⟨a,xs,rfl,na1,s1,r1⟩:=hx.tup_of;obtain⟨b,ys,rfl,_,s2,r2⟩:=hy.tup_of;simp only[Y_3]at p;split at p
   .rename_i h;simp only[Ap]at h;refine bt pI s Y H _ _ v u Q I rx ry ⟨a,b,xs,ys,rfl,rfl,s1,s2,?_,by rw[r1.length,r2.length];exact KM h.2,λhy0=>?_,λ_ q hq=>?_⟩
    .rintro rfl;cases ds with
     |nil=>cases h.1
     |cons _ _=>exact r1.elim
    .subst hy0;cases es with
     |nil=>rw[Eo]at p;exact p _ H (A1.refl H) ⟨a,xs,rfl,na1,s1,r1⟩
     |cons _ _=>exact r2.elim
    .exact p _ _ (GA hq _) (Mz hA hq (r1.append r2))
   .exact p.elim
  |_=>exact p.elim
 |_=>exact p.elim
theorem Pc{g:Ad->Ad->Ad}(ho:ê X (CQ op) (rI C λi j=>.int (g i j)))(hg:∀ dx dy,(∃ i j,dx=.int i/\dy=.int j/\((C i j/\DD op dx dy=.ok (.int (g i j)))\/DD op dx dy=.bad))\/DD op dx dy=.bad):Ϗ X CL W (CQ op) (DD op):=by
 intro A pI s Y H x y v u Q I rx ry ⟨hA,dx,dy,hx,hy,p⟩;rcases hg dx dy with ⟨i,j,rfl,rfl,⟨c,e⟩|e⟩|e
 .have ex:=hx.int_of;have ey:=hy.int_of
  subst ex ey;rw[e]at p;exact ho pI s Y H _ _ v u Q I rx ry ⟨i,j,rfl,rfl,c,p _ H (A1.refl H) rfl⟩
 .rw[e]at p;exact p.elim
 .rw[e]at p;exact p.elim
theorem bh:Ϗ X CL W (CQ .Sub) (DD .Sub):=by
 intro A pI s Y H x y v u Q I rx ry ⟨hA,dx,dy,hx,hy,p⟩;cases dx with
 |int i=>
  cases dy with
  |int j=>
   have ex:=hx.int_of;have ey:=hy.int_of
   subst ex ey;exact xp pI s Y H _ _ v u Q I rx ry ⟨i,j,rfl,rfl,p _ H (A1.refl H) rfl⟩
  |_=>exact p.elim
 |_=>exact p.elim
theorem bn:Ϗ X CL W (CQ .Mult) (DD .Mult):=Pc bq λdx dy=>by
 cases dx with
 |int i=>
  cases dy with
  |int j=>
   refine .inl ⟨i,j,rfl,rfl,?_⟩;rw[w9];split
   .rename_i h;exact .inl ⟨zZ h,rfl⟩
   .exact .inr rfl
  |_=>exact .inr rfl
 |_=>exact .inr rfl
theorem uZ:Ϗ X CL W (CQ .FloorDiv) (DD .FloorDiv):=Pc br λdx dy=>by
 cases dx with
 |int i=>
  cases dy with
  |int j=>
   refine .inl ⟨i,j,rfl,rfl,?_⟩;rw[i7];split
   .rename_i h;exact .inl ⟨h,rfl⟩
   .exact .inr rfl
  |_=>exact .inr rfl
 |_=>exact .inr rfl
theorem bo:Ϗ X CL W (CQ .Mod) (DD .Mod):=Pc vm λdx dy=>by
 cases dx with
 |int i=>
  cases dy with
  |int j=>
   refine .inl ⟨i,j,rfl,rfl,?_⟩;rw[wd];split
   .rename_i h;exact .inl ⟨h,rfl⟩
   .exact .inr rfl
  |_=>exact .inr rfl
 |_=>exact .inr rfl
theorem bj:Ϗ X CL W (CQ .Pow) (DD .Pow):=Pc xq λdx dy=>by
 cases dx with
 |int i=>
  cases dy with
  |int j=>
   refine .inl ⟨i,j,rfl,rfl,?_⟩;rw[wq];split
   .rename_i h;exact .inl ⟨⟨h.1.1,h.1.2,by omega⟩,rfl⟩
   .exact .inr rfl
  |_=>exact .inr rfl
 |_=>exact .inr rfl
theorem W4(op:GP):Ϗ X CL W (CQ op) (DD op):=by
 cases op with
 |Add=>exact W5
 |Sub=>exact bh
 |Mult=>exact bn
 |FloorDiv=>exact uZ
 |Mod=>exact bo
 |Pow=>exact bj
 |_=>
  intro A pI s Y H x y v u Q I rx ry ⟨hA,dx,dy,hx,hy,p⟩;exact p.elim
noncomputable abbrev A0:Am->Prop:=λ_=>BV
theorem DQ.plain(h:DQ K CL H A v d):U8 K CL H A0 v d:=by
 rcases h with h|⟨a,xs,ds,rfl,rfl,e,r⟩
 .exact U8.sub (λ_ z=>z.elim) d h
 .exact⟨a,xs,rfl,.inl λz=>z.elim,fI.of e,Z7.sub (λ_ z=>z.elim) ds r⟩
mutual
theorem Sz:∀(n:Ag)(d:D),Y8 n d=Aa->U4 d d=Aa
 |_,.O,_=>rfl
 |_,.bl b,_=>by simp
 |_,.int i,_=>by simp
 |_,.str x,_=>by simp
 |n+1,.H ds,h=>by
  show My ds ds=Aa;exact am n ds h
 |n+1,.L ds,h=>by
  show My ds ds=Aa;exact am n ds h
 |0,.H ds,h=>by cases h
 |0,.L ds,h=>by cases h
 |n,.obj _ _,h=>by cases n<;>cases h
 |n,.exc _ _,h=>by cases n<;>cases h
 |n,.dic _,h=>by cases n<;>cases h
theorem am:∀(n:Ag)(ds:Ac D),ds.all (Y8 n)=Aa->My ds ds=Aa
 |_,[],_=>rfl
 |n,d::ds,h=>by
  simp only[E9,Ap]at h;simp only[R4,Ap];exact⟨Sz n d h.1,am n ds h.2⟩
end
theorem VG{ys:Ac V}(I:Z6 X pI Y H s)(h:fI X.K H a xs)(h':ð X.K H a ys):BV:=by
 obtain⟨Z9,r,⟨o,n,e,c,_,_⟩,_⟩:=I.list h;obtain⟨its',r',⟨o',e',c',_⟩,_⟩:=I.tuple h';rw[e]at e';cases e';rw[c]at c'
 injection c' with z
 exact absurd z (by decide)
mutual
theorem Pk{pI:Pn}{Y:L2.St}{H:Hp}{s:At}(I:Z6 X pI Y H s):∀(n:Ag)(d e:D){v:V},Y8 n d=Aa->Y8 n e=Aa->U8 X.K CL H A0 v d->U8 X.K CL H A0 v e->d=e
 |n,.H ds,e,v,hd,he,r,q=>by
  obtain⟨a,xs,rfl,_,s1,r1⟩:=r;cases e with
  |H es=>
   obtain⟨b,ys,e,_,s2,r2⟩:=q;cases e;have z:=I.tuple_inj s1 s2;subst z;cases n with
   |zero=>cases hd
   |succ n=>rw[Ù I n ds es hd he r1 r2]
  |L es=>
   obtain⟨b,ys,e,_,s2,r2⟩:=q;cases e;exact(VG I s2 s1).elim
  |obj=>cases n<;>cases he
  |exc=>cases n<;>cases he
  |dic=>cases n<;>cases he
  |_=>cases q
 |n,.L ds,e,v,hd,he,r,q=>by
  obtain⟨a,xs,rfl,_,s1,r1⟩:=r;cases e with
  |L es=>
   obtain⟨b,ys,e,_,s2,r2⟩:=q;cases e;have z:=I.list_inj s1 s2;subst z;cases n with
   |zero=>cases hd
   |succ n=>rw[Ù I n ds es hd he r1 r2]
  |H es=>
   obtain⟨b,ys,e,_,s2,r2⟩:=q;cases e;exact(VG I s1 s2).elim
  |obj=>cases n<;>cases he
  |exc=>cases n<;>cases he
  |dic=>cases n<;>cases he
  |_=>cases q
 |n,.obj _ _,e,v,hd,he,r,q=>by cases n<;>cases hd
 |n,.exc _ _,e,v,hd,he,r,q=>by cases n<;>cases hd
 |n,.dic _,e,v,hd,he,r,q=>by cases n<;>cases hd
 |n,.O,e,v,hd,he,r,q=>by
  cases r;cases e with
  |H=>obtain⟨_,_,z,_⟩:=q;cases z
  |L=>obtain⟨_,_,z,_⟩:=q;cases z
  |obj=>cases n<;>cases he
  |exc=>cases n<;>cases he
  |dic=>cases n<;>cases he
  |_=>cases q<;>rfl
 |n,.bl b,e,v,hd,he,r,q=>by
  cases r;cases e with
  |H=>obtain⟨_,_,z,_⟩:=q;cases z
  |L=>obtain⟨_,_,z,_⟩:=q;cases z
  |obj=>cases n<;>cases he
  |exc=>cases n<;>cases he
  |dic=>cases n<;>cases he
  |_=>cases q<;>rfl
 |n,.int b,e,v,hd,he,r,q=>by
  cases r;cases e with
  |H=>obtain⟨_,_,z,_⟩:=q;cases z
  |L=>obtain⟨_,_,z,_⟩:=q;cases z
  |obj=>cases n<;>cases he
  |exc=>cases n<;>cases he
  |dic=>cases n<;>cases he
  |_=>cases q<;>rfl
 |n,.str b,e,v,hd,he,r,q=>by
  cases r;cases e with
  |H=>obtain⟨_,_,z,_⟩:=q;cases z
  |L=>obtain⟨_,_,z,_⟩:=q;cases z
  |obj=>cases n<;>cases he
  |exc=>cases n<;>cases he
  |dic=>cases n<;>cases he
  |_=>cases q<;>rfl
theorem Ù{pI:Pn}{Y:L2.St}{H:Hp}{s:At}(I:Z6 X pI Y H s):∀(n:Ag)(ds es:Ac D){xs:Ac V},ds.all (Y8 n)=Aa->es.all (Y8 n)=Aa->Z7 X.K CL H A0 xs ds->Z7 X.K CL H A0 xs es->ds=es
 |_,[],[],_,_,_,_,_=>rfl
 |n,d::ds,e::es,x::xs,hd,he,r,q=>by
  simp only[E9,Ap]at hd he;rw[Pk I n d e hd.1 he.1 r.1 q.1,Ù I n ds es hd.2 he.2 r.2 q.2]
 |_,[],_::_,[],_,_,_,q=>q.elim
 |_,[],_::_,_::_,_,_,r,_=>r.elim
 |_,_::_,[],[],_,_,r,_=>r.elim
 |_,_::_,[],_::_,_,_,_,q=>q.elim
 |_,_::_,_::_,[],_,_,r,_=>r.elim
end
theorem NI:∀{ds es:Ac D},ds.length≠es.length->My ds es=Ae
 |[],[],h=>absurd rfl h
 |[],_::_,_=>rfl
 |_::_,[],_=>rfl
 |d::ds,e::es,h=>by
  simp only[R4,NI (ds:=ds) (es:=es) (by simpa using h),Hu]
theorem Vd(n:Ag)(f:Ag->Al):(AK (n+1)).all f=(f 0&&(AK n).all λj=>f (j+1)):=by
 rw[Fi,E9,ZS];rfl
theorem NJ:∀{ds es:Ac D},ds.length=es.length->My ds es=(AK ds.length).all λj=>U4 (ds.getD j .O) (es.getD j .O)
 |[],[],_=>rfl
 |d::ds,e::es,h=>by
  rw[R4,NJ (ds:=ds) (es:=es) (by simpa using h),BS,Vd]
  rfl
 |[],_::_,h=>by cases h
 |_::_,[],h=>by cases h
theorem LG(r:Z7 K CL H A0 xs ds)(rv:Bl xs Z9)(h:j<Z9.length):∃ x,U8 K CL H A0 x (ds.getD j .O)/\Co x Z9[j]:=by
 have e1:=rv.length;have e2:=r.length;have hd:ds[j]?=Ab (ds.getD j .O):=by
  rw[A5,AR (by omega)];rfl
 obtain⟨x,hx,q⟩:=r.get hd;obtain⟨u,hu,ru⟩:=rv.get hx;refine⟨x,q,?_⟩;rw[AR h]at hu;cases hu;exact ru
theorem LD{ds:Ac D}(h:ds.all (Y8 n)=Aa)(j:Ag):Y8 n (ds.getD j .O)=Aa:=by
 rw[A5];cases e:ds[j]? with
 |none=>cases n<;>rfl
 |some d=>exact List.all_eq_true.mp h d (D5 e)
def Di(B:Bm)(s:At)(u t:Aj)(k:Al):Prop:=LX B s u t k/\Hf B s u t k/\Ks B s u t (!k)
section
open SeqAt
theorem iY:Di B s .none .none Aa:=⟨RcAt.none_none,EqAt.same _,RcNeAt.none_none⟩
theorem gR(a b:Al):Di B s (.bool a) (.bool b) (a==b):=⟨RcAt.bool_bool _ _,EqAt.bool_bool _ _,RcNeAt.bool_bool _ _⟩
theorem jB(b:Al):Di B s .none (.bool b) Ae:=⟨RcAt.none_bool _,EqAt.none_bool _,RcNeAt.none_bool _⟩
theorem gO(b:Al):Di B s (.bool b) .none Ae:=⟨RcAt.bool_none _,EqAt.bool_none _,RcNeAt.bool_none _⟩
theorem gK(a:Ad)(t:Ea)(b:Ad)(u:Ea):Di B s (.int a t) (.int b u) (a==b):=⟨RcAt.int_int _ _ _ _,EqAt.int_int _ _ _ _,RcNeAt.int_int _ _ _ _⟩
theorem iQ(a:An)(t:Ea)(b:An)(u:Ea):Di B s (.str a t) (.str b u) (a==b):=⟨RcAt.str_str _ _ _ _,EqAt.str_str _ _ _ _,RcNeAt.str_str _ _ _ _⟩
theorem gH(a:Ad)(t:Ea)(b:An)(u:Ea):Di B s (.int a t) (.str b u) Ae:=⟨RcAt.int_str _ _ _ _,EqAt.int_str _ _ _ _,RcNeAt.int_str _ _ _ _⟩
theorem iT(a:An)(t:Ea)(b:Ad)(u:Ea):Di B s (.str a t) (.int b u) Ae:=⟨RcAt.str_int _ _ _ _,EqAt.str_int _ _ _ _,RcNeAt.str_int _ _ _ _⟩
theorem jA(b:Ad)(u:Ea):Di B s .none (.int b u) Ae:=⟨RcAt.none_int _ _,EqAt.none_int _ _,RcNeAt.none_int _ _⟩
theorem gI(b:Ad)(u:Ea):Di B s (.int b u) .none Ae:=⟨RcAt.int_none _ _,EqAt.int_none _ _,RcNeAt.int_none _ _⟩
theorem iW(b:An)(u:Ea):Di B s .none (.str b u) Ae:=⟨RcAt.none_str _ _,EqAt.none_str _ _,RcNeAt.none_str _ _⟩
theorem iR(b:An)(u:Ea):Di B s (.str b u) .none Ae:=⟨RcAt.str_none _ _,EqAt.str_none _ _,RcNeAt.str_none _ _⟩
theorem gQ(a:Al)(b:Ad)(u:Ea):Di B s (.bool a) (.int b u) (b2i a==b):=⟨RcAt.bool_int _ _ _,EqAt.bool_int _ _ _,RcNeAt.bool_int _ _ _⟩
theorem gL(a:Al)(b:Ad)(u:Ea):Di B s (.int b u) (.bool a) (b==b2i a):=⟨RcAt.int_bool _ _ _,EqAt.int_bool _ _ _,RcNeAt.int_bool _ _ _⟩
theorem gN(a:Al)(b:An)(u:Ea):Di B s (.bool a) (.str b u) Ae:=⟨RcAt.bool_str _ _ _,EqAt.bool_str _ _ _,RcNeAt.bool_str _ _ _⟩
theorem iU(a:Al)(b:An)(u:Ea):Di B s (.str b u) (.bool a) Ae:=⟨RcAt.str_bool _ _ _,EqAt.str_bool _ _ _,RcNeAt.str_bool _ _ _⟩
theorem gC(h:s.heap.IsList l items)(hu:B.units<CF):Di B s (.ref l) .none Ae:=⟨RcAt.list_none h hu,EqAt.list_none h hu,RcNeAt.list_none h hu⟩
theorem iZ(h:s.heap.IsList l items)(hu:B.units<CF):Di B s .none (.ref l) Ae:=⟨RcAt.none_list h hu,EqAt.none_list h hu,RcNeAt.none_list h hu⟩
theorem gE(b:Al)(h:s.heap.IsList l items)(hu:B.units<CF):Di B s (.ref l) (.bool b) Ae:=⟨RcAt.list_bool b h hu,EqAt.list_bool b h hu,RcNeAt.list_bool b h hu⟩
theorem gP(b:Al)(h:s.heap.IsList l items)(hu:B.units<CF):Di B s (.bool b) (.ref l) Ae:=⟨RcAt.bool_list b h hu,EqAt.bool_list b h hu,RcNeAt.bool_list b h hu⟩
theorem gD(b:Ad)(u:Ea)(h:s.heap.IsList l items)(hu:B.units<CF):Di B s (.ref l) (.int b u) Ae:=⟨RcAt.list_int b u h hu,EqAt.list_int b u h hu,RcNeAt.list_int b u h hu⟩
theorem gJ(b:Ad)(u:Ea)(h:s.heap.IsList l items)(hu:B.units<CF):Di B s (.int b u) (.ref l) Ae:=⟨RcAt.int_list b u h hu,EqAt.int_list b u h hu,RcNeAt.int_list b u h hu⟩
theorem jD(b:An)(u:Ea)(h:s.heap.IsList l items)(hu:B.units<CF):Di B s (.ref l) (.str b u) Ae:=⟨RcAt.list_str b u h hu,EqAt.list_str b u h hu,RcNeAt.list_str b u h hu⟩
theorem iS(b:An)(u:Ea)(h:s.heap.IsList l items)(hu:B.units<CF):Di B s (.str b u) (.ref l) Ae:=⟨RcAt.str_list b u h hu,EqAt.str_list b u h hu,RcNeAt.str_list b u h hu⟩
theorem iL(h:s.heap.IsTuple l items)(hu:B.units<CF):Di B s (.ref l) .none Ae:=⟨RcAt.tuple_none h hu,EqAt.tuple_none h hu,RcNeAt.tuple_none h hu⟩
theorem iV(h:s.heap.IsTuple l items)(hu:B.units<CF):Di B s .none (.ref l) Ae:=⟨RcAt.none_tuple h hu,EqAt.none_tuple h hu,RcNeAt.none_tuple h hu⟩
theorem iO(b:Al)(h:s.heap.IsTuple l items)(hu:B.units<CF):Di B s (.ref l) (.bool b) Ae:=⟨RcAt.tuple_bool b h hu,EqAt.tuple_bool b h hu,RcNeAt.tuple_bool b h hu⟩
theorem gM(b:Al)(h:s.heap.IsTuple l items)(hu:B.units<CF):Di B s (.bool b) (.ref l) Ae:=⟨RcAt.bool_tuple b h hu,EqAt.bool_tuple b h hu,RcNeAt.bool_tuple b h hu⟩
theorem iN(b:Ad)(u:Ea)(h:s.heap.IsTuple l items)(hu:B.units<CF):Di B s (.ref l) (.int b u) Ae:=⟨RcAt.tuple_int b u h hu,EqAt.tuple_int b u h hu,RcNeAt.tuple_int b u h hu⟩
theorem gG(b:Ad)(u:Ea)(h:s.heap.IsTuple l items)(hu:B.units<CF):Di B s (.int b u) (.ref l) Ae:=⟨RcAt.int_tuple b u h hu,EqAt.int_tuple b u h hu,RcNeAt.int_tuple b u h hu⟩
theorem iK(b:An)(u:Ea)(h:s.heap.IsTuple l items)(hu:B.units<CF):Di B s (.ref l) (.str b u) Ae:=⟨RcAt.tuple_str b u h hu,EqAt.tuple_str b u h hu,RcNeAt.tuple_str b u h hu⟩
theorem iP(b:An)(u:Ea)(h:s.heap.IsTuple l items)(hu:B.units<CF):Di B s (.str b u) (.ref l) Ae:=⟨RcAt.str_tuple b u h hu,EqAt.str_tuple b u h hu,RcNeAt.str_tuple b u h hu⟩
theorem jC(h:s.heap.IsList l items)(h2:s.heap.IsTuple b items2)(hu:B.units<CF):Di B s (.ref l) (.ref b) Ae:=⟨RcAt.list_tuple h h2 hu,EqAt.list_tuple h h2 hu,RcNeAt.list_tuple h h2 hu⟩
theorem iM(h:s.heap.IsTuple l items)(h2:s.heap.IsList b items2)(hu:B.units<CF):Di B s (.ref l) (.ref b) Ae:=⟨RcAt.tuple_list h h2 hu,EqAt.tuple_list h h2 hu,RcNeAt.tuple_list h h2 hu⟩
end
end
theorem Jo{Z9:AO Aj}(x:PlainL h a Z9):h.IsList a Z9:=let ⟨o,n,e,c,_,d⟩:=x;⟨o,e,c,n,d⟩
def oG(X:Cx)(CL:ClA)(H:Hp)(s:At)(d:D)(u:Aj):Prop:=match d with
  |.O=>u=.none
  |.bl b=>u=.bool b
  |.int i=>∃ t,u=.int i t
  |.str x=>∃ t,u=.str x t
  |.H ds=>∃ a xs Z9,u=.ref a/\Z7 X.K CL H A0 xs ds/\Bl xs Z9/\s.heap.IsTuple a Z9.toArray
  |.L ds=>∃ a xs Z9,u=.ref a/\Z7 X.K CL H A0 xs ds/\Bl xs Z9/\s.heap.IsList a Z9.toArray
  |_=>BV
theorem Xb(I:Z6 X pI Y H s)(hd:Y8 n d=Aa)(r:U8 X.K CL H A0 v d)(q:Co v u):oG X CL H s d u:=by
 cases d with
 |O=>cases r;exact q
 |bl b=>cases r;exact q
 |int b=>cases r;exact q
 |str b=>cases r;exact q
 |H ds=>
  obtain⟨a,xs,rfl,_,sq,r⟩:=r;obtain⟨Z9,rv,p,_⟩:=I.tuple sq;cases q;exact⟨a,xs,Z9,rfl,r,rv,p⟩
 |L ds=>
  obtain⟨a,xs,rfl,_,sq,r⟩:=r;obtain⟨Z9,rv,p,_⟩:=I.list sq;cases q;exact⟨a,xs,Z9,rfl,r,rv,Jo p⟩
 |obj=>cases n<;>cases hd
 |exc=>cases n<;>cases hd
 |dic=>cases n<;>cases hd
theorem zH{es:Ac D}(hl:s.heap.IsList l Z9.toArray)(hb:s.heap.IsList b Cl.toArray)(e1:Z9.length=ds.length)(e2:Cl.length=es.length)(hu:B.units<CF)(hs:l=b->My ds es=Aa)(he:∀ j (h1:j<Z9.length) (h2:j<Cl.length),Hf B.in1 s Z9[j] Cl[j] (U4 (ds.getD j .O) (es.getD j .O))):Di B s (.ref l) (.ref b) (My ds es):=by
 have rc:LX B s (.ref l) (.ref b) (My ds es):=by
  by_cases hz:Z9.length=Cl.length
  .have q:=SeqAt.RcAt.lists (e:=λj=>U4 (ds.getD j .O) (es.getD j .O)) hl hb (by simpa using hz) hu (λj h1 h2=>by simpa using he j (by simpa using h1) (by simpa using h2))
   rw[NJ (by omega)]
   have e:Z9.toArray.size=ds.length:=by simpa using e1
   rw[e]at q;exact q
  .rw[NI (by omega)]
   exact SeqAt.RcAt.lists_lengths hl hb (by simpa using hz) hu
 have ne:Ks B s (.ref l) (.ref b) (!My ds es):=by
  by_cases hz:Z9.length=Cl.length
  .have q:=SeqAt.RcNeAt.lists (e:=λj=>U4 (ds.getD j .O) (es.getD j .O)) hl hb (by simpa using hz) hu (λj h1 h2=>by simpa using he j (by simpa using h1) (by simpa using h2))
   rw[NJ (by omega)]
   have e:Z9.toArray.size=ds.length:=by simpa using e1
   rw[e]at q;exact q
  .rw[NI (by omega)]
   exact SeqAt.RcNeAt.lists_lengths hl hb (by simpa using hz) hu
 refine⟨rc,?_,ne⟩;by_cases hlb:l=b
 .rw[hs hlb,hlb];exact dQ _
 .exact dP hlb rc
theorem zG{es:Ac D}(hl:s.heap.IsTuple l Z9.toArray)(hb:s.heap.IsTuple b Cl.toArray)(e1:Z9.length=ds.length)(e2:Cl.length=es.length)(hu:B.units<CF)(hs:l=b->My ds es=Aa)(he:∀ j (h1:j<Z9.length) (h2:j<Cl.length),Hf B.in1 s Z9[j] Cl[j] (U4 (ds.getD j .O) (es.getD j .O))):Di B s (.ref l) (.ref b) (My ds es):=by
 have rc:LX B s (.ref l) (.ref b) (My ds es):=by
  have q:=SeqAt.RcAt.tuples (e:=λj=>U4 (ds.getD j .O) (es.getD j .O)) hl hb hu (λj h1 h2=>by simpa using he j (by simpa using h1) (by simpa using h2))
  have e:Z9.toArray.size=ds.length:=by simpa using e1
  have e':Cl.toArray.size=es.length:=by simpa using e2
  rw[e,e']at q;by_cases hz:ds.length=es.length
  .rw[NJ hz];rw[hz,aQ,GX,ZJ]at q;rw[hz];exact q
  .rw[NI hz];rw[DJ.mpr hz,Hu]at q;exact q
 have ne:Ks B s (.ref l) (.ref b) (!My ds es):=by
  have q:=SeqAt.RcNeAt.tuples (e:=λj=>U4 (ds.getD j .O) (es.getD j .O)) hl hb hu (λj h1 h2=>by simpa using he j (by simpa using h1) (by simpa using h2))
  have e:Z9.toArray.size=ds.length:=by simpa using e1
  have e':Cl.toArray.size=es.length:=by simpa using e2
  rw[e,e']at q;by_cases hz:ds.length=es.length
  .rw[NJ hz];rw[hz,aQ,GX,ZJ]at q;rw[hz];exact q
  .rw[NI hz];rw[DJ.mpr hz,Hu]at q;exact q
 refine⟨rc,?_,ne⟩;by_cases hlb:l=b
 .rw[hs hlb,hlb];exact dQ _
 .exact dP hlb rc
theorem NW{pI:Pn}{Y:L2.St}{H:Hp}{s:At}(I:Z6 X pI Y H s):∀(n:Ag)(d e:D)(v w':V)(u t:Aj)(B:Bm),Y8 n d=Aa->Y8 n e=Aa->U8 X.K CL H A0 v d->U8 X.K CL H A0 w' e->Co v u->Co w' t->B.units+n<CF->Di B s u t (U4 d e)
  |n,d,e,v,w',u,t,B,hd,he,r,q,rv,Â,hu=>by
    have Ñ:B.units<CF:=by omega
    have sd:=Xb I hd r rv;have se:=Xb I he q Â
    match d,e,sd,se with
    |.O,.O,s1,s2=>cases s1;cases s2;exact iY
    |.O,.bl b,s1,s2=>cases s1;cases s2;exact jB b
    |.O,.int b,s1,s2=>cases s1;obtain⟨_,rfl⟩:=s2;exact jA b _
    |.O,.str b,s1,s2=>cases s1;obtain⟨_,rfl⟩:=s2;exact iW b _
    |.O,.H es,s1,s2=>cases s1;obtain⟨_,_,_,rfl,_,_,p⟩:=s2;exact iV p Ñ
    |.O,.L es,s1,s2=>cases s1;obtain⟨_,_,_,rfl,_,_,p⟩:=s2;exact iZ p Ñ
    |.bl a,.O,s1,s2=>cases s1;cases s2;exact gO a
    |.bl a,.bl b,s1,s2=>cases s1;cases s2;exact gR a b
    |.bl a,.int b,s1,s2=>cases s1;obtain⟨_,rfl⟩:=s2;exact gQ a b _
    |.bl a,.str b,s1,s2=>cases s1;obtain⟨_,rfl⟩:=s2;exact gN a b _
    |.bl a,.H es,s1,s2=>cases s1;obtain⟨_,_,_,rfl,_,_,p⟩:=s2;exact gM a p Ñ
    |.bl a,.L es,s1,s2=>cases s1;obtain⟨_,_,_,rfl,_,_,p⟩:=s2;exact gP a p Ñ
    |.int a,.O,s1,s2=>obtain⟨_,rfl⟩:=s1;cases s2;exact gI a _
    |.int a,.bl b,s1,s2=>obtain⟨_,rfl⟩:=s1;cases s2;exact gL b a _
    |.int a,.int b,s1,s2=>obtain⟨_,rfl⟩:=s1;obtain⟨_,rfl⟩:=s2;exact gK a _ b _
    |.int a,.str b,s1,s2=>obtain⟨_,rfl⟩:=s1;obtain⟨_,rfl⟩:=s2;exact gH a _ b _
    |.int a,.H es,s1,s2=>obtain⟨_,rfl⟩:=s1;obtain⟨_,_,_,rfl,_,_,p⟩:=s2;exact gG a _ p Ñ
    |.int a,.L es,s1,s2=>obtain⟨_,rfl⟩:=s1;obtain⟨_,_,_,rfl,_,_,p⟩:=s2;exact gJ a _ p Ñ
    |.str a,.O,s1,s2=>obtain⟨_,rfl⟩:=s1;cases s2;exact iR a _
    |.str a,.bl b,s1,s2=>obtain⟨_,rfl⟩:=s1;cases s2;exact iU b a _
    |.str a,.int b,s1,s2=>obtain⟨_,rfl⟩:=s1;obtain⟨_,rfl⟩:=s2;exact iT a _ b _
    |.str a,.str b,s1,s2=>obtain⟨_,rfl⟩:=s1;obtain⟨_,rfl⟩:=s2;exact iQ a _ b _
    |.str a,.H es,s1,s2=>obtain⟨_,rfl⟩:=s1;obtain⟨_,_,_,rfl,_,_,p⟩:=s2;exact iP a _ p Ñ
    |.str a,.L es,s1,s2=>obtain⟨_,rfl⟩:=s1;obtain⟨_,_,_,rfl,_,_,p⟩:=s2;exact iS a _ p Ñ
    |.H ds,.O,s1,s2=>cases s2;obtain⟨_,_,_,rfl,_,_,p⟩:=s1;exact iL p Ñ
    |.H ds,.bl b,s1,s2=>cases s2;obtain⟨_,_,_,rfl,_,_,p⟩:=s1;exact iO b p Ñ
    |.H ds,.int b,s1,s2=>obtain⟨_,rfl⟩:=s2;obtain⟨_,_,_,rfl,_,_,p⟩:=s1;exact iN b _ p Ñ
    |.H ds,.str b,s1,s2=>obtain⟨_,rfl⟩:=s2;obtain⟨_,_,_,rfl,_,_,p⟩:=s1;exact iK b _ p Ñ
    |.H ds,.L es,s1,s2=>obtain⟨_,_,_,rfl,_,_,p⟩:=s1;obtain⟨_,_,_,rfl,_,_,p2⟩:=s2;exact iM p p2 Ñ
    |.L ds,.O,s1,s2=>cases s2;obtain⟨_,_,_,rfl,_,_,p⟩:=s1;exact gC p Ñ
    |.L ds,.bl b,s1,s2=>cases s2;obtain⟨_,_,_,rfl,_,_,p⟩:=s1;exact gE b p Ñ
    |.L ds,.int b,s1,s2=>obtain⟨_,rfl⟩:=s2;obtain⟨_,_,_,rfl,_,_,p⟩:=s1;exact gD b _ p Ñ
    |.L ds,.str b,s1,s2=>obtain⟨_,rfl⟩:=s2;obtain⟨_,_,_,rfl,_,_,p⟩:=s1;exact jD b _ p Ñ
    |.L ds,.H es,s1,s2=>obtain⟨_,_,_,rfl,_,_,p⟩:=s1;obtain⟨_,_,_,rfl,_,_,p2⟩:=s2;exact jC p p2 Ñ
    |.H ds,.H es,s1,s2=>
      match n,hd,he,hu with
      |n+1,hd,he,hu=>
        obtain⟨a,xs,Z9,rfl,r1,v1,p1⟩:=s1;obtain⟨b,ys,Cl,rfl,r2,v2,p2⟩:=s2;have l1:=v1.length;have l2:=r1.length;have l3:=v2.length;have l4:=r2.length
        refine zG p1 p2 (by omega) (by omega) Ñ (λhab=>?_) λj h1 h2=>?_
        · have e1:v=.ref a:=Co.inj rv rfl;have e2:w'=.ref b:=Co.inj Â rfl;subst e1 e2 hab;have z:=Pk I (n+1) _ _ hd he r q
          injection z with z
          rw[z];exact am n es he
        · obtain⟨x,rx,qx⟩:=LG r1 v1 h1;obtain⟨y,ry,qy⟩:=LG r2 v2 h2;exact(NW I n _ _ x y _ _ B.in1 (LD hd j) (LD he j) rx ry qx qy (by show B.units+1+n<CF;omega)).2.1
    |.L ds,.L es,s1,s2=>
      match n,hd,he,hu with
      |n+1,hd,he,hu=>
        obtain⟨a,xs,Z9,rfl,r1,v1,p1⟩:=s1;obtain⟨b,ys,Cl,rfl,r2,v2,p2⟩:=s2;have l1:=v1.length;have l2:=r1.length;have l3:=v2.length;have l4:=r2.length
        refine zH p1 p2 (by omega) (by omega) Ñ (λhab=>?_) λj h1 h2=>?_
        · have e1:v=.ref a:=Co.inj rv rfl;have e2:w'=.ref b:=Co.inj Â rfl;subst e1 e2 hab;have z:=Pk I (n+1) _ _ hd he r q
          injection z with z
          rw[z];exact am n es he
        · obtain⟨x,rx,qx⟩:=LG r1 v1 h1;obtain⟨y,ry,qy⟩:=LG r2 v2 h2;exact(NW I n _ _ x y _ _ B.in1 (LD hd j) (LD he j) rx ry qx qy (by show B.units+1+n<CF;omega)).2.1
    |.obj _ _,_,s1,_=>exact s1.elim
    |.exc _ _,_,s1,_=>exact s1.elim
    |.dic _,_,s1,_=>exact s1.elim
    |_,.obj _ _,_,s2=>exact s2.elim
    |_,.exc _ _,_,s2=>exact s2.elim
    |_,.dic _,_,s2=>exact s2.elim
theorem PM(I:Z6 X pI Y H s)(B:Bm)(hd:Y8 n d=Aa)(hs:ds.all (Y8 n)=Aa)(r:Z7 X.K CL H A0 xs ds)(rv:Bl xs Z9)(q:U8 X.K CL H A0 v d)(qv:Co v u)(hu:B.units+n<CF):∃ e:Aj->Al,(∀ y,y∈Z9.toArray->Hf B s y u (e y))/\Z9.toArray.any e=ds.any λy=>U4 y d:=by
 have l1:=rv.length;have l2:=r.length
 have key:∀ y,y∈Z9->∃ k:Al,Hf B s y u k/\∀ j (h:j<Z9.length),Z9[j]=y->U4 (ds.getD j .O) d=k:=λy hy=>by
  obtain⟨j,hj,rfl⟩:=Ed hy;obtain⟨x,rx,qx⟩:=LG r rv hj;refine⟨U4 (ds.getD j .O) d,(NW I n _ _ x v _ _ B (LD hs j) hd rx q qx qv hu).2.1,λj' ε e=>?_⟩
  obtain⟨x',rx',qx'⟩:=LG r rv ε;rw[e]at qx';have z:=Co.inj qx qx';subst z;rw[Pk I n _ _ (LD hs j') (LD hs j) rx' rx]
 have ŵ:∀ y,∃ k:Al,y∈Z9->Hf B s y u k/\∀ j (h:j<Z9.length),Z9[j]=y->U4 (ds.getD j .O) d=k:=λy=>by
  by_cases hy:y∈Z9
  .obtain⟨k,hk⟩:=key y hy;exact⟨k,λ_=>hk⟩
  .exact⟨Aa,λh=>absurd h hy⟩
 refine⟨λy=>Iz (ŵ y),λy hy=>(DW (ŵ y) (by simpa using hy)).1,?_⟩
 rw[Dj];simp only[List.any_toArray,EO];constructor
 .rintro⟨y,hy,hk⟩;obtain⟨j,hj,rfl⟩:=Ed hy;have z:=(DW (ŵ Z9[j]) hy).2 j hj rfl;rw[hk]at z;refine⟨ds.getD j .O,?_,z⟩;rw[A5,AR (by omega)]
  exact CI _
 .rintro⟨y,hy,hk⟩;obtain⟨j,hj,rfl⟩:=Ed hy;have ε:j<Z9.length:=by omega
  refine⟨Z9[j],CI _,?_⟩;have z:=(DW (ŵ Z9[j]) (CI _)).2 j ε rfl;rw[<-z,A5,AR hj];exact hk
theorem OY{g:Ad->Ad->Al}(ho:ê X (Da op) (ź λi j=>.bl (g i j)))(hg:∀ dx dy,(∃ i j,dx=.int i/\dy=.int j/\Ci op dx dy=.ok (.bl (g i j)))\/Ci op dx dy=.bad):Ϗ X CL W (Da op) (Ci op):=by
 intro A pI s Y H x y v u Q I rx ry ⟨hA,dx,dy,hx,hy,p⟩;rcases hg dx dy with ⟨i,j,rfl,rfl,e⟩|e
 .have ex:=hx.int_of;have ey:=hy.int_of
  subst ex ey;rw[e]at p;exact ho pI s Y H _ _ v u Q I rx ry ⟨i,j,rfl,rfl,p _ H (A1.refl H) rfl⟩
 .rw[e]at p;exact p.elim
theorem YK{X:Cx}{x:V}(h:DQ X.K CL H A x d)(hd:d≠.O):x≠.O:=by
 rintro rfl;have h:=h.plain;cases d with
 |O=>exact hd rfl
 |H=>obtain⟨_,_,e,_⟩:=h;cases e
 |L=>obtain⟨_,_,e,_⟩:=h;cases e
 |obj=>obtain⟨_,_,_,_,e,_⟩:=h;cases e
 |exc=>obtain⟨_,_,_,e,_⟩:=h;cases e
 |dic=>exact h.elim
 |_=>cases h
theorem Mx(hu:X.A.units+64<CF)(op:D0):Ϗ X CL W (Da op) (Ci op):=by
 cases op with
 |Eq=>
  intro A pI s Y H x y v u Q I rx ry ⟨hA,dx,dy,hx,hy,p⟩;rw[lL]at p;split at p
  .rename_i h;simp only[Ap]at h;exact(NW I 5 dx dy x y v u X.A h.1 h.2 hx.plain hy.plain rx ry (by omega)).1 X.prog X.w X.xe _ ⟨.bl _,H,I,rfl,p _ H (A1.refl H) rfl⟩
  .exact p.elim
 |NotEq=>
  intro A pI s Y H x y v u Q I rx ry ⟨hA,dx,dy,hx,hy,p⟩;rw[kJ]at p;split at p
  .rename_i h;simp only[Ap]at h;exact(NW I 5 dx dy x y v u X.A h.1 h.2 hx.plain hy.plain rx ry (by omega)).2.2 X.prog X.w X.xe _ ⟨.bl _,H,I,rfl,p _ H (A1.refl H) rfl⟩
  .exact p.elim
 |Lt=>
  refine OY kA λdx dy=>?_
  cases dx with
  |int i=>
   cases dy with
   |int j=>exact .inl ⟨i,j,rfl,rfl,rfl⟩
   |_=>exact .inr rfl
  |_=>exact .inr rfl
 |LtE=>
  refine OY kB λdx dy=>?_
  cases dx with
  |int i=>
   cases dy with
   |int j=>exact .inl ⟨i,j,rfl,rfl,rfl⟩
   |_=>exact .inr rfl
  |_=>exact .inr rfl
 |Gt=>
  refine OY kC λdx dy=>?_
  cases dx with
  |int i=>
   cases dy with
   |int j=>exact .inl ⟨i,j,rfl,rfl,rfl⟩
   |_=>exact .inr rfl
  |_=>exact .inr rfl
 |GtE=>
  refine OY kD λdx dy=>?_
  cases dx with
  |int i=>
   cases dy with
   |int j=>exact .inl ⟨i,j,rfl,rfl,rfl⟩
   |_=>exact .inr rfl
  |_=>exact .inr rfl
 |In=>
  intro A pI s Y H x y v u Q I rx ry ⟨hA,dx,dy,hx,hy,p⟩;cases dy with
  |L es=>
   rw[mR]at p;split at p
   .rename_i h;simp only[Ap]at h;obtain⟨a,xs,e,_,sq,r⟩:=hy.plain;subst e;cases ry;obtain⟨Z9,rv,pl,_⟩:=I.list sq;obtain⟨e,he,ha⟩:=PM I (n:=5) X.A.in1 h.1 h.2 r rv hx.plain rx (by show X.A.units+1+5<CF;omega)
    refine SeqAt.in_listAt e (Jo pl) he ?_;rw[ha];exact⟨.bl _,H,I,rfl,p _ H (A1.refl H) rfl⟩
   .exact p.elim
  |H es=>
   rw[mQ]at p;split at p
   .rename_i h;simp only[Ap]at h;obtain⟨a,xs,e,_,sq,r⟩:=hy.plain;subst e;cases ry;obtain⟨Z9,rv,pl,_⟩:=I.tuple sq;obtain⟨e,he,ha⟩:=PM I (n:=5) X.A.in1 h.1 h.2 r rv hx.plain rx (by show X.A.units+1+5<CF;omega)
    refine SeqAt.in_tupleAt e pl he ?_;rw[ha];exact⟨.bl _,H,I,rfl,p _ H (A1.refl H) rfl⟩
   .exact p.elim
  |dic kvs=>exact hy.plain.elim
  |_=>exact p.elim
 |NotIn=>
  intro A pI s Y H x y v u Q I rx ry ⟨hA,dx,dy,hx,hy,p⟩;cases dy with
  |L es=>
   rw[kG]at p;split at p
   .rename_i h;simp only[Ap]at h;obtain⟨a,xs,e,_,sq,r⟩:=hy.plain;subst e;cases ry;obtain⟨Z9,rv,pl,_⟩:=I.list sq;obtain⟨e,he,ha⟩:=PM I (n:=5) X.A.in1 h.1 h.2 r rv hx.plain rx (by show X.A.units+1+5<CF;omega)
    refine SeqAt.notIn_listAt e (Jo pl) he ?_;rw[ha];exact⟨.bl _,H,I,rfl,p _ H (A1.refl H) rfl⟩
   .exact p.elim
  |H es=>
   rw[kF]at p;split at p
   .rename_i h;simp only[Ap]at h;obtain⟨a,xs,e,_,sq,r⟩:=hy.plain;subst e;cases ry;obtain⟨Z9,rv,pl,_⟩:=I.tuple sq;obtain⟨e,he,ha⟩:=PM I (n:=5) X.A.in1 h.1 h.2 r rv hx.plain rx (by show X.A.units+1+5<CF;omega)
    refine SeqAt.notIn_tupleAt e pl he ?_;rw[ha];exact⟨.bl _,H,I,rfl,p _ H (A1.refl H) rfl⟩
   .exact p.elim
  |_=>exact p.elim
 |Is=>
  intro A pI s Y H x y v u Q I rx ry ⟨hA,dx,dy,hx,hy,p⟩;cases dy with
  |O=>
   have ey:=hy.non_of;subst ey;refine vn pI s Y H _ _ v u Q I rx ry ⟨rfl,?_⟩;cases dx with
   |O=>
    have ex:=hx.non_of;subst ex;exact p _ H (A1.refl H) rfl
   |exc=>exact p.elim
   |dic=>exact p.elim
   |_=>rw[Bw (YK hx (by simp))];exact p _ H (A1.refl H) rfl
  |bl b=>
   cases dx with
   |bl a=>
    have ey:=hy.bl_of;have ex:=hx.bl_of;subst ex ey;cases rx;cases ry;refine wpAny_is_plain rfl ⟨.bl (a==b),H,I,?_,p _ H (A1.refl H) rfl⟩;cases a<;>cases b<;>rfl
   |_=>exact p.elim
  |_=>cases dx<;>exact p.elim
 |IsNot=>
  intro A pI s Y H x y v u Q I rx ry ⟨hA,dx,dy,hx,hy,p⟩;cases dy with
  |O=>
   have ey:=hy.non_of;subst ey;refine bp pI s Y H _ _ v u Q I rx ry ⟨rfl,?_⟩;cases dx with
   |O=>
    have ex:=hx.non_of;subst ex;exact p _ H (A1.refl H) rfl
   |exc=>exact p.elim
   |dic=>exact p.elim
   |_=>rw[Bw (YK hx (by simp))];exact p _ H (A1.refl H) rfl
  |bl b=>
   cases dx with
   |bl a=>
    have ey:=hy.bl_of;have ex:=hx.bl_of;subst ex ey;cases rx;cases ry;refine wpAny_isNot_plain rfl ⟨.bl (!(a==b)),H,I,?_,p _ H (A1.refl H) rfl⟩;cases a<;>cases b<;>rfl
   |_=>exact p.elim
  |_=>cases dx<;>exact p.elim
section
variable{a b:Aq}
theorem DV.bind(h:DV W H (r.bind f) Q)(k:∀ d v H',r=.ok d->A1 H H'->Rp H' v d->DV W H' (f d) Q->Q' v H'):BN Rp W H r Q':=by
 cases r with
 |ok d=>exact λv H2 s2 q=>k d v H2 rfl s2 q (DV.same s2 h)
 |exn x=>exact h
 |bad=>exact h
theorem DV.bindB{r:R Al}(h:DV W H (r.bind f) Q)(k:∀ b H',r=.ok b->A1 H H'->DV W H' (f b) Q->Q' b H'):DV W H r Q':=by
 cases r with
 |ok d=>exact λH2 s2=>k d H2 rfl s2 (DV.same s2 h)
 |exn x=>exact h
 |bad=>exact h
theorem Ib.bind{r:R (Ac D)}(h:BN Rq W H (r.bind f) Q)(k:∀ d v H',r=.ok d->A1 H H'->Rp H' v d->BN Rq W H' (f d) Q->Q' v H'):Ib Rp W H r Q':=by
 cases r with
 |ok d=>exact λv H2 s2 q=>k d v H2 rfl s2 q (BN.same s2 h)
 |exn x=>exact h
 |bad=>exact h
theorem om(ha:ST X CL W a fa):SE X CL W (.UnaryOp .USub a pos) (λU=>(fa U).bind λx=>unD .USub x):=λA=>PE.weak (gA ou (ha A)) λY H Q ⟨hA,U,g,p⟩=>⟨hA,U,g,BN.bind p λd v H1 _ s1 r1 p1=>by
 cases d with
 |int i=>
  have e:=r1.int_of;subst e;exact⟨i,rfl,p1 _ H1 (A1.refl H1) rfl⟩
 | _=>exact p1.elim⟩
theorem O8(h:BN Rq W H ((Ez d).bind f) Q):∃ c,d=.bl c/\BN Rq W H (f c) Q:=by
 cases d with
 |bl c=>exact⟨c,rfl,h⟩
 |_=>exact h.elim
theorem oh(ha:ST X CL W a fa):SE X CL W (.UnaryOp .Not a pos) (λU=>(fa U).bind λx=>(Ez x).bind λb=>.ok (.bl (!b))):=λA=>PE.weak (x9 (ha A)) λY H Q ⟨hA,U,g,p⟩=>⟨hA,U,g,BN.bind p λd v H1 _ s1 r1 p1=>by
 obtain⟨c,rfl,p2⟩:=O8 p1;exact⟨c,r1.bl_of,p2 _ H1 (A1.refl H1) rfl⟩⟩
theorem Yo(ha:SE X CL W a fa):SE X CL W (.BoolOp op [a] pos) fa:=λA=>x8 (ha A)
theorem m8{rest:Ac Aq}(ha:SE X CL W a fa)(hb:SE X CL W (.BoolOp .And (b::rest) pos) fb):SE X CL W (.BoolOp .And (a::b::rest) pos) (λU=>(fa U).bind λx=>(Ez x).bind λc=>if c=Aa then fb U else .ok (.bl Ae)):=
 λA=>PE.weak (xk (ha A) (hb A)) λY H Q ⟨hA,U,g,p⟩=>⟨hA,U,g,BN.bind p λd v H1 _ s1 r1 p1=>by
  obtain⟨c,rfl,p2⟩:=O8 p1;refine⟨c,r1,?_⟩;cases c with
  |true=>exact⟨hA.same s1,U,g.same s1,p2⟩
  | false=>exact p2 _ H1 (A1.refl H1) rfl⟩
theorem iH{rest:Ac Aq}(ha:SE X CL W a fa)(hb:SE X CL W (.BoolOp .Or (b::rest) pos) fb):SE X CL W (.BoolOp .Or (a::b::rest) pos) (λU=>(fa U).bind λx=>(Ez x).bind λc=>if c=Aa then .ok (.bl Aa) else fb U):=
 λA=>PE.weak (gB (ha A) (hb A)) λY H Q ⟨hA,U,g,p⟩=>⟨hA,U,g,BN.bind p λd v H1 _ s1 r1 p1=>by
  obtain⟨c,rfl,p2⟩:=O8 p1;refine⟨c,r1,?_⟩;cases c with
  |false=>exact⟨hA.same s1,U,g.same s1,p2⟩
  | true=>exact p2 _ H1 (A1.refl H1) rfl⟩
theorem rZ(hu:X.A.units+64<CF)(ha:ST X CL W a fa)(hb:ST X CL W b fb)(hc:ST X CL W c fc)(hm:Kz [op,op'] [b,c]=Ae):SE X CL W (.Compare a [op,op'] [b,c] pos) (λU=>(fa U).bind λx=>(fb U).bind λy=>(Ci op x y).bind λz=>(Ez z).bind λk=>if k=Aa then (fc U).bind λu=>Ci op' y u else .ok (.bl Ae)):=
 λA=>PE.weak (uT (Mx hu op A) (Mx hu op' A) (ha A) (hb A) (hc A) hm) λY H Q ⟨hA,U,g,p⟩=>⟨hA,U,g,BN.bind p λdx x H1 _ s1 r1 p1=>⟨hA.same s1,U,g.same s1,BN.bind p1 λdy y H2 _ s2 r2 p2=>
  ⟨(hA.same s1).same s2,dx,dy,r1.same s2,r2,BN.bind p2 λdz z H3 _ s3 r3 p3=>by
   obtain⟨k,rfl,p4⟩:=O8 p3;refine⟨k,r3,?_⟩;cases k with
   |false=>exact p4 _ H3 (A1.refl H3) rfl
   | true=>exact⟨((hA.same s1).same s2).same s3,U,((g.same s1).same s2).same s3,BN.bind p4 λdu u H4 _ s4 r4 p5=>⟨(((hA.same s1).same s2).same s3).same s4,dy,du,(r2.same s3).same s4,r4,p5⟩⟩⟩⟩⟩
theorem gv{xs:Ac D}{i:Ad}(h:Dl xs i=.ok d):∃ k,ϳ xs.length i=Ab k/\xs[k]?=Ab d:=by
 unfold Dl at h;split at h
 .rename_i k e;split at h
  .rename_i d' e';cases h;exact⟨k,e,e'⟩
  .cases h
 .cases h
theorem WI{xs:Ac D}{i:Ad}{x:Ex}(h:Dl xs i=.exn x):BV:=by
 unfold Dl at h;split at h
 .split at h<;>cases h
 .cases h
theorem Xp{i:Ad}(r:Z7 K CL H A xs ds)(h:Dl ds i=.ok d):∃ v,υ xs i=Ab v/\U8 K CL H A v d:=by
 obtain⟨k,e,q⟩:=gv h;obtain⟨v,hv,rv⟩:=r.get q;refine⟨v,?_,rv⟩;unfold υ;have:ī xs.length i=Ab k:=by rw[r.length];exact e
 rw[this];exact hv
theorem lh(hs:Tv b)(ha:ST X CL W a fa)(hb:ST X CL W b fb):SE X CL W (.Subscript a b pos) (λU=>(fa U).bind λx=>(fb U).bind λy=>BR x y):=
 λA=>PE.weak (jW (r:=λx y H Q=>U_6 X.K x y H Q\/U_5 X.K x y H Q) (zK.or zb) (ha A) (hb A) hs) λY H Q h=>by
  obtain⟨hA,U,g,h⟩:=Ϥ h;refine⟨hA,U,g,?_⟩;cases e:fa U with
  |bad=>rw[e]at h;exact h
  |exn x=>rw[e]at h;exact h
  |ok dx0=>
   rw[e]at h;intro x H1 s1 r1;obtain⟨hA1,U1,g1,h1⟩:=h x H1 s1 r1;refine⟨hA1,U1,g1,?_⟩;cases e1:fb U1 with
   |bad=>rw[e1]at h1;exact h1
   |exn x=>rw[e1]at h1;exact h1
   |ok dy0=>
    rw[e1]at h1;intro y H2 s2 r2;obtain⟨hA2,dx,dy,rx,ry,p⟩:=h1 y H2 s2 r2;cases dy with
    |int i=>
     have ey:=ry.int_of;subst ey;cases dx with
     |L ds=>
      obtain⟨q,xs,rfl,sq,r⟩:=rx.lst_of;rw[jR]at p;cases e2:Dl ds i with
      |ok d=>
       rw[e2]at p;obtain⟨v,hv,rv⟩:=Xp r e2;exact .inl ⟨q,xs,i,v,rfl,rfl,sq,hv,p v H2 (A1.refl H2) rv⟩
      |exn x=>exact(WI e2).elim
      |bad=>rw[e2]at p;exact p.elim
     |H ds=>
      obtain⟨q,xs,rfl,_,sq,r⟩:=rx.tup_of;rw[jQ]at p;cases e2:Dl ds i with
      |ok d=>
       rw[e2]at p;obtain⟨v,hv,rv⟩:=Xp r e2;exact .inr ⟨q,xs,i,v,rfl,rfl,sq,hv,p v H2 (A1.refl H2) rv⟩
      |exn x=>exact(WI e2).elim
      |bad=>rw[e2]at p;exact p.elim
     |dic=>exact rx.plain.elim
     |_=>exact p.elim
    |_=>cases dx<;>first|exact p.elim|exact rx.plain.elim
theorem uc:SA X CL W [] (λ_=>.ok []):=λA=>PA.weak HZ λY H Q ⟨hA,U,g,p⟩=>p [] H (A1.refl H) trivial
theorem zD(ha:SE X CL W a fa)(hs:SA X CL W es fs)(Ϡ:AN (a::es) X.env=(Ae,eval a X.env)::AN es X.env):SA X CL W (a::es) (λU=>(fa U).bind λx=>(fs U).bind λxs=>.ok (x::xs)):=
 λA=>PA.weak (Gi (ha A) (hs A) Ϡ) λY H Q ⟨hA,U,g,p⟩=>by
  dsimp only at p;refine⟨hA,U,g,?_⟩;cases e:fa U with
  |bad=>rw[e]at p;exact p
  |exn x=>rw[e]at p;exact p
  |ok d=>
   rw[e]at p;intro v H1 s1 r1;refine⟨hA.same s1,U,g.same s1,?_⟩;cases e1:fs U with
   |bad=>rw[R.bind_ok,e1]at p;exact p
   |exn x=>rw[R.bind_ok,e1]at p;exact λH2 s2=>p H2 (s1.trans s2)
   |ok ds=>
    rw[R.bind_ok,e1]at p;exact λvs H2 s2 r2=>p (v::vs) H2 (s1.trans s2) ⟨r1.same s2,r2⟩
theorem o9(hs:SA X CL W es fs)(hz:∀ U ds,fs U=.ok ds->ds.length<=100000):SE X CL W (.Tuple es k pos) (λU=>(fs U).bind λxs=>.ok (.H xs)):=
 λA=>PE.weak (wy (hs A)) λY H Q ⟨hA,U,g,p⟩=>⟨hA,U,g,Ib.bind p λds vs H1 e s1 r1 p1=>⟨by
  rw[r1.length,CN];have:=hz U ds e;omega,λq hq=>p1 _ _ (GA hq _) (Mz (hA.same s1) hq r1)⟩⟩
def Oa(W:XW)(H:Hp)(r:R (As Ad))(Q:As Ad->Hp->Prop):Prop:=match r with
  |.ok o=>∀ H',A1 H H'->Q o H'
  |.exn x=>∀ H',A1 H H'->W x H'
  |.bad=>BV
def SO(X:Cx)(CL:ClA)(W:XW)(e:As Aq)(f:Rho->R (As Ad)):Prop:=∀ A,PO X e (λY H Q=>we H A/\∃ U,U9 X.K CL A U Y H/\Oa W H (f U) Q)
theorem PO.weak{e:As Aq}(h:PO X e t)(k:∀ Y H Q,t' Y H Q->t Y H Q):PO X e t':=λpI s Y H Q I q=>h pI s Y H Q I (k _ _ _ q)
theorem yR:SO X CL W Af (λ_=>.ok Af):=λA=>PO.weak xF λY H Q ⟨hA,U,g,p⟩=>p H (A1.refl H)
theorem yQ(ha:ST X CL W a fa):SO X CL W (Ab a) (λU=>(fa U).bind λd=>(FJ d).bind λi=>.ok (Ab i)):=λA=>PO.weak (xE (ha A)) λY H Q ⟨hA,U,g,p⟩=>by
 dsimp only at p;refine⟨hA,U,g,?_⟩;cases e:fa U with
 |bad=>rw[e]at p;exact p
 |exn x=>rw[e]at p;exact p
 |ok d=>
  rw[e]at p;intro v H1 s1 r1;cases d with
  |int i=>exact⟨i,r1.int_of,p H1 s1⟩
  |_=>exact p.elim
theorem Xz(lo hi:As Ad)(r:Z7 K CL H A xs ds):Z7 K CL H A (K7 xs lo hi) (MW ds lo hi):=by
 unfold K7 MW;have e:∀ d o,HT.sIx xs.length d o=EX ds.length d o:=λd o=>by rw[r.length];cases o<;>rfl
 rw[e,e,r.length];exact(r.drop _).take _
end
section
variable{a:Aq}
def J9(K:Fg)(CL:ClA)(H:Hp)(A:Am->Prop):Ac V->Ac D->Prop
 |[],[]=>Jj
 |v::vs,d::ds=>DQ K CL H A v d/\J9 K CL H A vs ds
 |_,_=>BV
theorem J9.one(h:J9 K CL H A vs [d]):∃ v,vs=[v]/\DQ K CL H A v d:=by
 cases vs with
 |nil=>exact h.elim
 |cons v vs=>
  cases vs with
  |nil=>exact⟨v,rfl,h.1⟩
  |cons=>exact h.2.elim
def τ(X:Cx)(CL:ClA)(W:XW)(es:Ac Aq)(f:Rho->R (Ac D)):Prop:=∀ A,PA X es (λY H Q=>we H A/\∃ U,U9 X.K CL A U Y H/\Ib (λH=>J9 X.K CL H A) W H (f U) Q)
theorem zC:τ X CL W [] (λ_=>.ok []):=λA=>PA.weak HZ λY H Q ⟨hA,U,g,p⟩=>p [] H (A1.refl H) trivial
theorem sB(ha:ST X CL W a fa)(hs:τ X CL W es fs)(Ϡ:AN (a::es) X.env=(Ae,eval a X.env)::AN es X.env):τ X CL W (a::es) (λU=>(fa U).bind λx=>(fs U).bind λxs=>.ok (x::xs)):=
 λA=>PA.weak (Gi (ha A) (hs A) Ϡ) λY H Q ⟨hA,U,g,p⟩=>by
  dsimp only at p;refine⟨hA,U,g,?_⟩;cases e:fa U with
  |bad=>rw[e]at p;exact p
  |exn x=>rw[e]at p;exact p
  |ok d=>
   rw[e]at p;intro v H1 s1 r1;refine⟨hA.same s1,U,g.same s1,?_⟩;cases e1:fs U with
   |bad=>rw[R.bind_ok,e1]at p;exact p
   |exn x=>rw[R.bind_ok,e1]at p;exact λH2 s2=>p H2 (s1.trans s2)
   |ok ds=>
    rw[R.bind_ok,e1]at p;exact λvs H2 s2 r2=>p (v::vs) H2 (s1.trans s2) ⟨r1.same s2,r2⟩
def LO(X:Cx)(CL:ClA)(W:XW)(f:Aj)(g:Ac D->R D):Prop:=∀ A,KU X f (λxs H Q=>we H A/\∃ ds,J9 X.K CL H A xs ds/\BN (λH=>U8 X.K CL H A) W H (g ds) Q)
theorem Px(hc:LO X CL W (.builtin id) g)(hg:Gl X x)(hm:X.mg x=Af)(hv:Dt x=Ab (.builtin id))(ha:τ X CL W (e::es) fs)(hn:x≠"__name__")(Ï:(x==("__debug__" : An))=Ae)(he:AN (e::es) X.env=(Ae,eval e X.env)::AN es X.env)(è:∀ pos,(C8 pos (AN es X.env)).any (·.1)=Ae):SE X CL W (.Call (.Name x p) (e::es) [] pos) (λU=>(fs U).bind g):=λA=>PE.weak (SN (hc A) hg hm hv (ha A) hn Ï he (è _)) λY H Q ⟨hA,U,gd,q⟩=>⟨hA,U,gd,Ib.bind q λds vs H1 _ s1 r1 p1=>⟨hA.same s1,ds,r1,p1⟩⟩
theorem m7(hc:LO X CL W (.type T) g)(hg:Gl X x)(hm:X.mg x=Af)(hv:Dt x=Ab (.type T))(ha:τ X CL W (e::es) fs)(hn:x≠"__name__")(Ï:(x==("__debug__" : An))=Ae)(he:AN (e::es) X.env=(Ae,eval e X.env)::AN es X.env)(è:∀ pos,(C8 pos (AN es X.env)).any (·.1)=Ae):SE X CL W (.Call (.Name x p) (e::es) [] pos) (λU=>(fs U).bind g):=λA=>PE.weak (V3 (hc A) hg hm hv (ha A) hn Ï he (è _)) λY H Q ⟨hA,U,gd,q⟩=>⟨hA,U,gd,Ib.bind q λds vs H1 _ s1 r1 p1=>⟨hA.same s1,ds,r1,p1⟩⟩
theorem zr:LO X CL W (.builtin "len") (Tm .len):=by
  intro A pI s Y H xs us Q I r ⟨hA,ds,rs,p⟩
  match ds,rs,p with
  |[.L es],rs,p=>
    obtain⟨v,rfl,rv⟩:=rs.one;obtain⟨q,ys,rfl,sq,ry⟩:=rv.lst_of;exact Vi pI s Y H _ us Q I r ⟨q,ys,rfl,.inl sq,p _ H (A1.refl H) (by rw[ry.length];rfl)⟩
  |[.H es],rs,p=>
    obtain⟨v,rfl,rv⟩:=rs.one;obtain⟨q,ys,rfl,_,sq,ry⟩:=rv.tup_of;exact Vi pI s Y H _ us Q I r ⟨q,ys,rfl,.inr sq,p _ H (A1.refl H) (by rw[ry.length];rfl)⟩
  |[.str x],rs,p=>
    obtain⟨v,rfl,rv⟩:=rs.one;have e:=rv.str_of;subst e;have p':BN (λH=>U8 X.K CL H A) W H (if Dv x.length=Aa then .ok (.int x.length) else .bad) Q:=p
    split at p'
    · rename_i h;exact pB pI s Y H _ us Q I r ⟨x,rfl,KM h,p' _ H (A1.refl H) rfl⟩
    · exact p'.elim
  |[],_,p=>exact p.elim
  |[.O],_,p=>exact p.elim
  |[.bl _],_,p=>exact p.elim
  |[.int _],_,p=>exact p.elim
  |[.obj _ _],_,p=>exact p.elim
  |[.exc _ _],_,p=>exact p.elim
  |[.dic _],rs,p=>first|exact p.elim|(obtain⟨v,rfl,rv⟩:=rs.one;exact rv.plain.elim)
  |x::_::_,_,p=>cases x<;>exact p.elim
theorem RH{K:Fg}{H:Hp}{A:Am->Prop}:∀{es:Ac D}{is:Ac Ad}{ys:Ac V},Ju es=Ab is->Z7 K CL H A ys es->ys=is.map V.int
 |[],_,[],h,_=>by cases h;rfl
 |[],_,_::_,_,r=>r.elim
 |_::_,_,[],_,r=>r.elim
 |e::es,is,y::ys,h,r=>by
  cases e with
  |int i=>
   have h':(Ju es).map (i :: ·)=Ab is:=h;cases e2:Ju es with
   |none=>rw[e2]at h';cases h'
   |some js=>
    rw[e2]at h';cases h';have ih:=RH e2 r.2;have e1:y=.int i:=r.1;rw[ih,e1];rfl
  |_=>cases h
theorem vR:LO X CL W (.type "tuple") (Tm .tuple):=by
  intro A pI s Y H xs us Q I r ⟨hA,ds,rs,p⟩
  match ds,rs,p with
  |[.L es],rs,p=>
    obtain⟨v,rfl,rv⟩:=rs.one;obtain⟨q,ys,rfl,sq,ry⟩:=rv.lst_of;exact Vk pI s Y H _ us Q I r ⟨q,ys,rfl,.inl ⟨sq,λl hl=>p _ _ (GA hl _) (Mz hA hl ry)⟩⟩
  |[.H es],rs,p=>
    obtain⟨v,rfl,rv⟩:=rs.one;obtain⟨q,ys,rfl,na,sq,ry⟩:=rv.tup_of;exact Vk pI s Y H _ us Q I r ⟨q,ys,rfl,.inr ⟨sq,p _ H (A1.refl H) ⟨q,ys,rfl,na,sq,ry⟩⟩⟩
  |[],_,p=>exact p.elim
  |[.O],_,p=>exact p.elim
  |[.bl _],_,p=>exact p.elim
  |[.int _],_,p=>exact p.elim
  |[.str _],_,p=>exact p.elim
  |[.obj _ _],_,p=>exact p.elim
  |[.exc _ _],_,p=>exact p.elim
  |[.dic _],rs,p=>first|exact p.elim|(obtain⟨v,rfl,rv⟩:=rs.one;exact rv.plain.elim)
  |x::_::_,_,p=>cases x<;>exact p.elim
end
section
variable{a b:Aq}
theorem mf(ha:SB X CL W a f):SB X CL W (.UnaryOp .Not a pos) (λU=>(f U).bind λb=>.ok (!b)):=λA=>PT.weak (qo (ha A)) λY H Q ⟨hA,U,g,p⟩=>⟨hA,U,g,DV.bindB p λb H1 _ s1 p1=>p1 H1 (A1.refl H1)⟩
def SW(X:Cx)(CL:ClA)(W:XW)(e:Aq)(f:Rho->R Al):Prop:=∀ A,PW X e (λY H Q=>we H A/\∃ U,U9 X.K CL A U Y H/\DV W H (f U) Q)
theorem PW.weak(h:PW X e t)(k:∀ Y H Q,t' Y H Q->t Y H Q):PW X e t':=λwh pI s Y H Q I q=>h wh pI s Y H Q I (k _ _ _ q)
theorem SW.sb(h:SW X CL W a f):SB X CL W a f:=λA=>PW.pt (h A)
theorem wG(ha:SB X CL W a f):SW X CL W (.BoolOp .And [a] pos) f:=λA=>yH (ha A)
theorem pv(ha:SB X CL W a f):SW X CL W (.BoolOp .Or [a] pos) f:=λA=>ql (ha A)
theorem qa{rest:Ac Aq}(ha:SB X CL W a f)(hb:SW X CL W (.BoolOp .And (b::rest) pos) g):SW X CL W (.BoolOp .And (a::b::rest) pos) (λU=>(f U).bind λc=>if c=Aa then g U else .ok Ae):=
 λA=>PW.weak (qm (ha A) (hb A)) λY H Q ⟨hA,U,gd,p⟩=>⟨hA,U,gd,DV.bindB p λc H1 _ s1 p1=>by
  cases c with
  |true=>exact⟨hA.same s1,U,gd.same s1,p1⟩
  | false=>exact p1 H1 (A1.refl H1)⟩
theorem ZzO{rest:Ac Aq}(ha:SB X CL W a f)(hb:SW X CL W (.BoolOp .Or (b::rest) pos) g):SW X CL W (.BoolOp .Or (a::b::rest) pos) (λU=>(f U).bind λc=>if c=Aa then .ok Aa else g U):=
 λA=>PW.weak (fS (ha A) (hb A)) λY H Q ⟨hA,U,gd,p⟩=>⟨hA,U,gd,DV.bindB p λc H1 _ s1 p1=>by
  cases c with
  |false=>exact⟨hA.same s1,U,gd.same s1,p1⟩
  | true=>exact p1 H1 (A1.refl H1)⟩
theorem ub(ho:Ϗ X CL W (Da op) g)(ha:ST X CL W a fa)(hb:ST X CL W b fb)(hm:HV op b=Ae):SB X CL W (.Compare a [op] [b] pos) (λU=>(fa U).bind λx=>(fb U).bind λy=>(g x y).bind Ez):=
 λA=>PT.weak (xB (ho A) (ha A) (hb A) hm) λY H Q ⟨hA,U,gd,p⟩=>⟨hA,U,gd,DV.bind p λdx x H1 _ s1 r1 p1=>⟨hA.same s1,U,gd.same s1,DV.bind p1 λdy y H2 _ s2 r2 p2=>
  ⟨(hA.same s1).same s2,dx,dy,r1.same s2,r2,DV.bind p2 λdz z H3 _ s3 r3 p3=>by
   cases dz with
   |bl k=>exact⟨k,r3,p3 H3 (A1.refl H3)⟩
   | _=>exact p3.elim⟩⟩⟩
theorem sA(hu:X.A.units+64<CF)(ha:ST X CL W a fa)(hb:ST X CL W b fb)(hc:ST X CL W c fc)(hm:Kz [op,op'] [b,c]=Ae):SB X CL W (.Compare a [op,op'] [b,c] pos) (λU=>(fa U).bind λx=>(fb U).bind λy=>(Ci op x y).bind λz=>(Ez z).bind λk=>if k=Aa then (fc U).bind λu=>(Ci op' y u).bind Ez else .ok Ae):=
  λA=>PT.weak (uO (Mx hu op A) (Mx hu op' A) (ha A) (hb A) (hc A) hm) λY H Q ⟨hA,U,g,p⟩=>⟨hA,U,g,DV.bind p λdx x H1 _ s1 r1 p1=>⟨hA.same s1,U,g.same s1,DV.bind p1 λdy y H2 _ s2 r2 p2=>
    ⟨(hA.same s1).same s2,dx,dy,r1.same s2,r2,DV.bind p2 λdz z H3 _ s3 r3 p3=>by
      cases dz with
      |bl k=>
        refine⟨k,r3,?_⟩;cases k with
        |false=>exact⟨Ae,rfl,p3 H3 (A1.refl H3)⟩
        | true=>exact⟨((hA.same s1).same s2).same s3,U,((g.same s1).same s2).same s3,DV.bind p3 λdu u H4 _ s4 r4 p5=>⟨(((hA.same s1).same s2).same s3).same s4,dy,du,(r2.same s3).same s4,r4,DV.bind p5 λdv v H5 _ s5 r5 p6=>by
            cases dv with
            |bl k'=>exact⟨k',r5,p6 H5 (A1.refl H5)⟩
            | _=>exact p6.elim⟩⟩
      | _=>exact p3.elim⟩⟩⟩
theorem m9(ha:ST X CL W a fa)(he:∀ whole,JN a X.env whole=(do let v <-whole;Lf a.pos;holding [v] (truthy v))):SB X CL W a (λU=>(fa U).bind Dh):=
 λA=>PT.weak (uN (ha A) he) λY H Q ⟨hA,U,g,p⟩=>⟨hA,U,g,DV.bind p λd v H1 _ s1 r1 p1=>by
  cases d with
  |O=>
   have e:=r1.non_of;subst e;exact⟨Ae,rfl,p1 H1 (A1.refl H1)⟩
  |bl b=>
   have e:=r1.bl_of;subst e;exact⟨b,rfl,p1 H1 (A1.refl H1)⟩
  |int i=>
   have e:=r1.int_of;subst e;exact⟨_,rfl,p1 H1 (A1.refl H1)⟩
  |str x=>
   have e:=r1.str_of;subst e;have p2:DV W H1 (if Dv x.length=Aa then .ok (x.length != 0) else .bad) Q:=p1
   split at p2
   .rename_i h;refine⟨_,⟨KM h,rfl⟩,?_⟩;have e:((x.length:Ad) != 0)=(x.length != 0):=by
     rw[Dj];simp
    rw[e];exact p2 H1 (A1.refl H1)
   .exact p2.elim
  |H ds=>
   obtain⟨q,xs,rfl,_,sq,r⟩:=r1.tup_of;refine⟨_,.inr (.inl ⟨xs,sq,rfl⟩),?_⟩;have e:xs.isEmpty=ds.isEmpty:=by
    have:=r.length;cases xs<;>cases ds<;>first|rfl|cases this
   rw[e];exact p1 H1 (A1.refl H1)
  |L ds=>
   obtain⟨q,xs,rfl,sq,r⟩:=r1.lst_of;refine⟨_,.inl ⟨xs,sq,rfl⟩,?_⟩;have e:xs.isEmpty=ds.isEmpty:=by
    have:=r.length;cases xs<;>cases ds<;>first|rfl|cases this
   rw[e];exact p1 H1 (A1.refl H1)
  | _=>exact p1.elim⟩
noncomputable def mL(K:Fg)(CL:ClA)(H:Hp)(A:Am->Prop)(cls:Aj)(dx:As Am)(x:Ex):Prop:=
 ∃ C,CL x.c=Ab C/\cls=.ref C/\(x.fs=[]\/∃ d vs,dx=Ab d/\¬ A d/\H d=Ab (.xd vs)/\oI K CL H A vs x.fs)
def Jx(K:Fg)(CL:ClA)(H:Hp)(cls:Aj)(dx:As Am)(x:Ex):Prop:=∀ A,we H A->mL K CL H A cls dx x
end
def C9(B:Am->Prop)(U:Rho)(Y:L2.St):Am->Prop:=λa=>B a\/∃(j:Ag)(d:D),U[j]?=Ab (Ab (d,Aa))/\Y[j]?=Ab (Ab (.ref a))
structure Sx (K:Fg) (CL:ClA) (Fz:Am->HO->Prop) (B:Am->Prop) (U:Rho) (Y:L2.St) (H:Hp):Prop where
 good:U9 K CL (C9 B U Y) U Y H
 aok:we H (C9 B U Y)
 new:∀(j:Ag)(d:D)(a:Am),U[j]?=Ab (Ab (d,Aa))->Y[j]?=Ab (Ab (.ref a))->(∀ o,¬ Fz a o)/\¬ B a
 dis:∀(i j:Ag)(d e:D)(a:Am),U[i]?=Ab (Ab (d,Aa))->U[j]?=Ab (Ab (e,Aa))->Y[i]?=Ab (Ab (.ref a))->Y[j]?=Ab (Ab (.ref a))->i=j
 same:∀ b o,Fz b o->H b=Ab o
 len:U.length=Y.length
def Dg(K:Fg)(CL:ClA)(Fz:Am->HO->Prop)(B:Am->Prop)(W:XW)(o:O)(D:Η):Prop:=match o with
  |.next U=>∀ Y H,Sx K CL Fz B U Y H->D.nx Y H
  |.brk U=>∀ Y H,Sx K CL Fz B U Y H->D.bk Y H
  |.cont U=>∀ Y H,Sx K CL Fz B U Y H->D.ct Y H
  |.ret d fr=>∀ v H,(∀ b o,Fz b o->H b=Ab o)->U8 K CL H B v d->(fr=Aa->∀ ds,d=.L ds->∃ a xs,v=.ref a/\(∀ o,¬ Fz a o)/\H a=Ab (.L xs)/\Z7 K CL H (λb=>B b\/b=a) xs ds)->D.rt v H
  |.exn x _=>∀ H,(∀ b o,Fz b o->H b=Ab o)->W x H
  |.bad=>BV
theorem Sx.mono(k:∀ b o,Fz b o->Fy b o)(x:Sx K CL Fy B U Y H):Sx K CL Fz B U Y H:=⟨x.good,x.aok,λj d a h1 h2=>⟨λo z=>(x.new j d a h1 h2).1 o (k _ _ z),(x.new j d a h1 h2).2⟩,x.dis,λb o z=>x.same b o (k _ _ z),x.len⟩
theorem Sx.grow(x:Sx K CL Fz B U Y H)(s:A1 H H'):Sx K CL Fz B U Y H':=⟨x.good.same s,x.aok.same s,x.new,x.dis,λb o z=>s _ _ (x.same b o z),x.len⟩
theorem DB{l:Ac α}{v:α}(h:i≠j):(l.set i v)[j]?=l[j]?:=by rw[G6 h]
theorem IP{l:Ac α}{v w':α}(h:(l.set i v)[i]?=Ab w'):w'=v:=by
 rw[Gs]at h;cases e:l[i]? with
 |none=>rw[e]at h;cases h
 |some x=>rw[e]at h;cases h;rfl
theorem Sx.set(x:Sx K CL Fz B U Y H){v:V}{d:D}(i:Ag)(r:U8 K CL H (C9 B U Y) v d):Sx K CL Fz B (U.set i (Ab (d,Ae))) (Y.set i (Ab v)) H:=by
 have own:∀(j:Ag)(e:D),(U.set i (Ab (d,Ae)))[j]?=Ab (Ab (e,Aa))->i≠j/\U[j]?=Ab (Ab (e,Aa)):=λj e h=>by
  by_cases hj:i=j
  .subst hj;have:=IP h;cases this
  .exact⟨hj,by rw[DB hj]at h;exact h⟩
 have sub:∀ a,C9 B (U.set i (Ab (d,Ae))) (Y.set i (Ab v)) a->C9 B U Y a:=λa h=>by
  rcases h with h|⟨j,e,h1,h2⟩
  .exact .inl h
  .obtain⟨hj,h1⟩:=own j e h1;rw[DB hj]at h2;exact .inr ⟨j,e,h1,h2⟩
 refine⟨⟨λj e h=>?_,λj e h=>?_,by rw[BW,BW];exact x.len⟩,λa h=>x.aok a (sub a h),λj e a h1 h2=>?_,λj k e f a h1 h2 h3 h4=>?_,x.same,by rw[BW,BW];exact x.len⟩
 .by_cases hj:i=j
  .subst hj;have e1:=IP h;cases e1;refine⟨v,?_,U8.sub sub _ r⟩;have hl:i<Y.length:=by
    rw[<-x.len];have:=(Br.mp h).1;simpa using this
   rw[DL hl]
  .rw[DB hj]at h;obtain⟨w',q,Â⟩:=x.good.sh j e h;exact⟨w',by rw[DB hj];exact q,U8.sub sub _ Â⟩
 .obtain⟨hj,h1⟩:=own j e h;obtain⟨a,xs,ds,q,z,ha,hh,rr⟩:=x.good.ow j e h1;exact⟨a,xs,ds,by rw[DB hj];exact q,z,.inr ⟨j,e,h,by rw[DB hj];exact q⟩,hh,Z7.sub sub _ rr⟩
 .obtain⟨hj,h1⟩:=own j e h1;rw[DB hj]at h2;exact x.new j e a h1 h2
 .obtain⟨hj,h1⟩:=own j e h1;obtain⟨hk,h2⟩:=own k f h2;rw[DB hj]at h3;rw[DB hk]at h4;exact x.dis j k e f a h1 h2 h3 h4
section
variable{X:Cx}
def SS(X:Cx)(CL:ClA)(W:XW)(st:BQ)(f:Rho->O):Prop:=∀ Fz B,PS X st (λD Y H=>∃ U,Sx X.K CL Fz B U Y H/\Dg X.K CL Fz B W (f U) D)
def ž(X:Cx)(CL:ClA)(W:XW)(st:Ac BQ)(f:Rho->O):Prop:=∀ Fz B,È X st (λD Y H=>∃ U,Sx X.K CL Fz B U Y H/\Dg X.K CL Fz B W (f U) D)
theorem PS.weak{e:BQ}(h:PS X e t)(k:∀ D Y H,t' D Y H->t D Y H):PS X e t':=λpI s Y H D I q=>h pI s Y H D I (k _ _ _ q)
theorem È.weak{e:Ac BQ}(h:È X e t)(k:∀ D Y H,t' D Y H->t D Y H):È X e t':=λpI s Y H D I q=>h pI s Y H D I (k _ _ _ q)
theorem Dg.ex(x:Sx X.K CL Fz B U Y H)(h:Dg X.K CL Fz B W (O.of U r f) D')(k:∀ d v H',r=.ok d->A1 H H'->Rp H' v d->Sx X.K CL Fz B U Y H'->Dg X.K CL Fz B W (f d) D'->Q v H'):BN Rp W H r Q:=by
 cases r with
 |ok d=>exact λv H' s r=>k d v H' rfl s r (x.grow s) h
 |exn y=>exact λH' s=>h H' λb o z=>s _ _ (x.same b o z)
 |bad=>exact h
theorem Dg.exB{r:R Al}(x:Sx X.K CL Fz B U Y H)(h:Dg X.K CL Fz B W (O.of U r f) D')(k:∀ b H',r=.ok b->A1 H H'->Sx X.K CL Fz B U Y H'->Dg X.K CL Fz B W (f b) D'->Q b H'):DV W H r Q:=by
 cases r with
 |ok d=>exact λH' s=>k d H' rfl s (x.grow s) h
 |exn y=>exact λH' s=>h H' λb o z=>s _ _ (x.same b o z)
 |bad=>exact h
theorem yN(he:SE X CL W e fe)(hs:EL e Af pos.line X.env=pure Ae):SS X CL W (.Expr e pos) (λU=>O.of U (fe U) λ_=>.next U):=λFz B pI s Y H D I ⟨U,x,p⟩=>
 SU (he (C9 B U Y)) hs pI s Y H D I ⟨x.aok,U,x.good,Dg.ex x p λd v H' _ s r x' q=>q Y H' x'⟩
theorem yL(he:SE X CL W e fe):SS X CL W (.Return (Ab e) pos) (λU=>O.of U (fe U) λd=>.ret d Ae):=λFz B pI s Y H D I ⟨U,x,p⟩=>
 TD (he (C9 B U Y)) pI s Y H D I ⟨x.aok,U,x.good,Dg.ex x p λd v H' _ s r x' q=>q v H' x'.same (U8.sub (λa h=>.inl h) _ r) λz=>nomatch z⟩
theorem ZzV{a b:Ac BQ}(hc:SB X CL W c fc)(ha:ž X CL W a fa)(hb:ž X CL W b fb):SS X CL W (.If c a b pos) (λU=>O.of U (fc U) λk=>if k=Aa then fa U else fb U):=λFz B pI s Y H D I ⟨U,x,p⟩=>
 fW (hc (C9 B U Y)) (ha Fz B) (hb Fz B) pI s Y H D I ⟨x.aok,U,x.good,Dg.exB x p λk H' _ s x' q=>by
  cases k with
  |true=>exact⟨U,x',q⟩
  | false=>exact⟨U,x',q⟩⟩
theorem yJ:ž X CL W [] (λU=>.next U):=λFz B=>È.weak xC λD Y H ⟨U,x,p⟩=>p Y H x
theorem tB{st:BQ}{rest:Ac BQ}(h1:SS X CL W st f)(h2:ž X CL W rest g):ž X CL W (st::rest) (λU=>(f U).seq g):=λFz B=>È.weak (uP (h1 Fz B) (h2 Fz B)) λD Y H ⟨U,x,p⟩=>⟨U,x,by
 dsimp only at p;cases e:f U with
 |next U'=>rw[e]at p;exact λY' H' x'=>⟨U',x',p⟩
 |ret d b=>rw[e]at p;exact p
 |brk U'=>rw[e]at p;exact p
 |cont U'=>rw[e]at p;exact p
 |exn y U'=>rw[e]at p;exact p
 | bad=>rw[e]at p;exact p⟩
end
def Ke(K:Fg)(CL:ClA)(A:Am->Prop)(ds:Ac D)(J:It)(H1:Hp):Prop:=∀ H,Kp A H1 H->∀ i:Ag,(ds.length<=i->J.stop i H)/\∀ d,ds[i]?=Ab d->J.go i H/\∀ x H',J.yld i H x H'->A1 H H'/\∀ B,(∀ a,B a->A a\/H1 a=Af)->we H B->U8 K CL H' B x d
def FS(K:Fg)(CL:ClA)(A:Am->Prop)(W:XW)(H:Hp)(r:R (Ac D))(Q:It->Hp->Prop):Prop:=match r with
  |.ok ds=>∀ J H',A1 H H'->Ke K CL A ds J H'->ds.length<=sizeLine->Q J H'
  |.exn x=>∀ H',A1 H H'->W x H'
  |.bad=>BV
def SI(X:Cx)(CL:ClA)(W:XW)(tg iter:Aq)(f:Rho->R (Ac D)):Prop:=∀ A,PI X tg iter (λY H R=>we H A/\∃ U,U9 X.K CL A U Y H/\FS X.K CL A W H (f U) R)
theorem PI.weak(h:PI X tg e t)(k:∀ Y H Q,t' Y H Q->t Y H Q):PI X tg e t':=λpI s Y H Q I q=>h pI s Y H Q I (k _ _ _ q)
section
variable{X:Cx}{a b:Aq}
theorem FS.ex(h:FS X.K CL A W H (r.bind f) Q)(k:∀ d v H',r=.ok d->A1 H H'->Rp H' v d->FS X.K CL A W H' (f d) Q->Q' v H'):BN Rp W H r Q':=by
  cases r with
  | ok d=>exact λv H' s q=>k d v H' rfl s q (by
      have h':FS X.K CL A W H (f d) Q:=h;cases e:f d with
      |ok ds=>rw[e]at h';exact λJ H2 s2 y z=>h' J H2 (s.trans s2) y z
      |exn y=>rw[e]at h';exact λH2 s2=>h' H2 (s.trans s2)
      | bad=>rw[e]at h';exact h')
  |exn y=>exact h
  |bad=>exact h
theorem NB{x:V}(r:U8 K CL H1 A x d)(k:Kp A H1 H)(hB:∀ a,B a->A a\/H1 a=Af):U8 K CL H B x d:=by
 have r1:U8 K CL H1 (λa=>A a\/B a) x d:=U8.wide (λa ha=>ha.elim .inl (hB a)) _ r
 have r2:U8 K CL H (λa=>A a\/B a) x d:=U8.kp (λb o e na=>k b o e λz=>na (.inl z)) _ r1
 exact U8.sub (λa ha=>.inr ha) _ r2
theorem pY(na:¬ A q\/KL K q xs)(s:fI K H q xs)(r:Z7 K CL H A xs ds):Ke K CL A ds (Itl K q) H:=λH' k i=>by
 have s':=Pu k na s;refine⟨λh=>⟨xs,s',by rw[r.length];exact h⟩,λd hd=>?_⟩
 obtain⟨v,hv,rv⟩:=r.get hd;exact⟨⟨xs,v,s',hv⟩,λx H2 ⟨e,y⟩=>by
  subst e;have:=y xs s';rw[hv]at this;cases this;exact⟨A1.refl _,λB hB _=>NB rv k hB⟩⟩
theorem sR(na:¬ A q\/KT K q xs)(s:ð K H q xs)(r:Z7 K CL H A xs ds):Ke K CL A ds (Itt K q) H:=λH' k i=>by
 have s':=Pt k na s;refine⟨λh=>⟨xs,s',by rw[r.length];exact h⟩,λd hd=>?_⟩
 obtain⟨v,hv,rv⟩:=r.get hd;exact⟨⟨xs,v,s',hv⟩,λx H2 ⟨e,y⟩=>by
  subst e;have:=y xs s';rw[hv]at this;cases this;exact⟨A1.refl _,λB hB _=>NB rv k hB⟩⟩
theorem Ws(lo:Ad)(n:Ag):Ke K CL A (Dx lo n) (Itr lo n) H:=λH' k i=>by
 refine⟨λh=>by rw[NA]at h;exact h,λd hd=>?_⟩
 obtain⟨h1,rfl⟩:=Sr hd;exact⟨h1,λx H2 ⟨e,y⟩=>by
  subst e y;exact⟨A1.refl _,λ_ _ _=>rfl⟩⟩
theorem wu(hl:PE X l tl):PI X tg l (λY H R=>tl Y H λx H1=>(∃ a,x=.ref a/\(∃ xs,fI X.K H1 a xs/\(xs.length<=sizeLine->R (Itl X.K a) H1)))\/∃ a,x=.ref a/\(∃ xs,ð X.K H1 a xs/\(xs.length<=sizeLine->R (Itt X.K a) H1))):=by
 intro pI s Y H R I h;refine LT (hl pI s Y H _ I h) λv s1 ⟨x,H1,I1,r1,q1⟩=>?_
 rcases q1 with ⟨a,e,xs,hq,q⟩|⟨a,e,xs,hq,q⟩
 .subst e;cases r1;obtain⟨Z9,rv,p,hz⟩:=I1.list hq;refine Fv p.isList ?_;refine⟨s1.heap.objs.size,[s1.heap.objs.size],_,_,H1,rfl,I1.kept (t':=s1.toks) λb o e=>Ar _ e,rC a _,⟨_,AB _ rfl,rfl,rfl⟩,λb hb=>?_,q hz⟩
  have e:b=s1.heap.objs.size:=by simpa using hb
  subst e;exact I1.fpOk (AT _) (I1.hok.fresh (AT _))
 .subst e;cases r1;obtain⟨Z9,rv,p,hz⟩:=I1.tuple hq;refine Fh (show s1.heap.IsTuple a Z9.toArray from p) ?_
  refine⟨s1.heap.objs.size,[s1.heap.objs.size],_,_,H1,rfl,I1.kept (t':=s1.toks) λb o e=>Ar _ e,pZ a _,⟨_,AB _ rfl,rfl,rfl⟩,λb hb=>?_,q hz⟩
  have e:b=s1.heap.objs.size:=by simpa using hb
  subst e;exact I1.fpOk (AT _) (I1.hok.fresh (AT _))
theorem nZ(he:SE X CL W e fe):SI X CL W tg e (λU=>(fe U).bind Ct):=λA=>PI.weak (wu (he A)) λY H R ⟨hA,U,g,p⟩=>⟨hA,U,g,FS.ex p λd v H1 _ s1 r1 p1=>by
 cases d with
 |L ds=>
  obtain⟨q,xs,rfl,na,sq,r⟩:=r1;exact .inl ⟨q,rfl,xs,sq,λhz=>p1 _ H1 (A1.refl H1) (pY na sq r) (by rw[<-r.length];exact hz)⟩
 |H ds=>
  obtain⟨q,xs,rfl,na,sq,r⟩:=r1;exact .inr ⟨q,rfl,xs,sq,λhz=>p1 _ H1 (A1.refl H1) (sR na sq r) (by rw[<-r.length];exact hz)⟩
 | _=>exact p1.elim⟩
theorem VW{lo:Ad}(h:De lo hi=.ok ds):(-(2 ^ 62)<=lo/\lo<2 ^ 62)/\(-(2 ^ 62)<=hi/\hi<2 ^ 62)/\ds=Dx lo (hi-lo).toNat/\(Dx lo (hi-lo).toNat).length<=sizeLine:=by
 unfold De at h;split at h
 .rename_i q;cases h;exact⟨by omega,by omega,rfl,by rw[NA,CN];omega⟩
 .cases h
theorem Vn{lo:Ad}{x:Ex}(h:De lo hi=.exn x):BV:=by
 unfold De at h;split at h<;>cases h
theorem nu(ha:ST X CL W a fa)(hg:Gl X "range")(hm:X.mg "range" = Af)(hs:AN [a] X.env=[(Ae,eval a X.env)]):SI X CL W tg (.Call (.Name "range" p) [a] [] pos) (λU=>(fa U).bind λx=>(FJ x).bind λj=>De 0 j):=
 λA=>PI.weak (qK hg hm (Gi (ha A) HZ hs) hs) λY H R ⟨hA,U,g,q⟩=>⟨hA,U,g,FS.ex q λd v H1 _ s1 r1 p1=>by
  cases d with
  |int j=>
   have e:=r1.int_of;subst e;have p2:FS X.K CL A W H1 (De 0 j) R:=p1;cases e2:De 0 j with
   |ok ds=>
    rw[e2]at p2;obtain⟨_,h2,rfl,hz⟩:=VW e2;exact⟨j,rfl,h2.1,h2.2,p2 _ H1 (A1.refl H1) (by rw[G5];exact Ws 0 j.toNat) hz⟩
   |exn y=>exact(Vn e2).elim
   |bad=>rw[e2]at p2;exact p2.elim
  | _=>exact p1.elim⟩
theorem yV(ha:ST X CL W a fa)(hb:ST X CL W b fb)(hg:Gl X "range")(hm:X.mg "range" = Af)(hs:AN [a,b] X.env=[(Ae,eval a X.env),(Ae,eval b X.env)])(Ð:AN [b] X.env=[(Ae,eval b X.env)]):
  SI X CL W tg (.Call (.Name "range" p) [a,b] [] pos) (λU=>(fa U).bind λx=>(fb U).bind λy=>(FJ x).bind λi=>(FJ y).bind λj=>De i j):=
 λA=>PI.weak (qJ hg hm (Gi (ha A) (Gi (hb A) HZ Ð) (by rw[hs,Ð])) hs Ð) λY H R ⟨hA,U,g,q⟩=>⟨hA,U,g,FS.ex q λd v H1 _ s1 r1 p1=>⟨hA.same s1,U,g.same s1,FS.ex p1 λd2 v2 H2 _ s2 r2 p2=>by
  cases d with
  |int i=>
   cases d2 with
   |int j=>
    have e:=r1.int_of;have e':=r2.int_of
    subst e e';have p3:FS X.K CL A W H2 (De i j) R:=p2;cases e2:De i j with
    |ok ds=>
     rw[e2]at p3;obtain⟨h1,h2,rfl,hz⟩:=VW e2;exact⟨i,j,rfl,⟨h1.1,h1.2,h2.1,h2.2⟩,p3 _ H2 (A1.refl H2) (Ws _ _) hz⟩
    |exn y=>exact(Vn e2).elim
    |bad=>rw[e2]at p3;exact p3.elim
   |_=>exact p2.elim
  | _=>exact p2.elim⟩⟩
theorem Dg.exI{r:R (Ac D)}(x:Sx X.K CL Fz B U Y H)(h:Dg X.K CL Fz B W (O.of U r f) D')(k:∀ ds J H',r=.ok ds->A1 H H'->Ke X.K CL A ds J H'->ds.length<=sizeLine->Sx X.K CL Fz B U Y H'->Dg X.K CL Fz B W (f ds) D'->Q J H'):FS X.K CL A W H r Q:=by
 cases r with
 |ok d=>exact λJ H' s y z=>k d J H' rfl s y z (x.grow s) h
 |exn y=>exact λH' s=>h H' λb o z=>s _ _ (x.same b o z)
 |bad=>exact h
theorem Dg.turn{o:O}(hf:∀ b q,Fz b q->Fy b q)(h:Dg K CL Fz B W (o.turn g) D')(k:∀ U' Y' H',Sx K CL Fy B U' Y' H'->Dg K CL Fz B W (g U') D'->N Y' H'):Dg K CL Fy B W o {D' with nx:=N,ct:=N,bk:=D'.nx}:=by
 cases o with
 |next U'=>exact λY' H' x=>k U' Y' H' x h
 |cont U'=>exact λY' H' x=>k U' Y' H' x h
 |brk U'=>exact λY' H' x=>h Y' H' (x.mono hf)
 |ret d b=>exact λv H' s r n=>h v H' (λb o z=>s b o (hf b o z)) r λz ds e=>let ⟨a,xs,h1,h2,h3⟩:=n z ds e;⟨a,xs,h1,λo q=>h2 o (hf a o q),h3⟩
 |exn y U'=>exact λH' s=>h H' (λb o z=>s b o (hf b o z))
 |bad=>exact h
noncomputable def Gk(ts:Ac Ag)(U:Rho):Rho:=ts.foldl (λU t=>U.set t Af) U
def GT(K:Fg)(CL:ClA)(as:D->Rho->R Rho)(g:TG):Prop:=∀ Fz B U Y H v d U' Q,Sx K CL Fz B U Y H->U8 K CL H (C9 B U Y) v d->as d U=.ok U'->(∀ Y',Sx K CL Fz B U' Y' H->Q Y' H)->g v Y H Q
theorem zS(i:Ag):GT K CL (λd U=>.ok (U.set i (Ab (d,Ae)))) (Gm i):=λFz B U Y H v d U' Q x r e k=>by
 cases e;exact k _ (x.set i r)
theorem YO{K:Fg}{H:Hp}:∀(ts:Ac Ag)(ds:Ac D)(vs:Ac V)(U U':Rho)(Y:L2.St)(Q:L2.St->Hp->Prop),Sx K CL Fz B U Y H->Z7 K CL H (C9 B U Y) vs ds->F4 ts ds U=Ab U'->(∀ Y',Sx K CL Fz B U' Y' H->Q Y' H)->(ts.foldr (λt u=>Jv (Gm t) u) Jz) vs Y H Q
 |[],[],[],U,U',Y,Q,x,_,e,k=>by
  cases e;exact⟨rfl,k Y x⟩
 |t::ts,d::ds,v::vs,U,U',Y,Q,x,r,e,k=>by
  refine⟨v,vs,rfl,YO ts ds vs _ U' _ Q (x.set t r.1) (Z7.sub (λa ha=>?_) ds r.2) e k⟩
  rcases ha with ha|⟨j,c,h1,h2⟩
  .exact .inl ha
  .by_cases hj:t=j
   .subst hj;have:=IP h1;cases this
   .rw[DB hj]at h1 h2;exact .inr ⟨j,c,h1,h2⟩
 |[],_::_,_,_,_,_,_,_,_,e,_=>by cases e
 |_::_,[],_,_,_,_,_,_,_,e,_=>by cases e
 |[],[],_::_,_,_,_,_,_,r,_,_=>r.elim
 |_::_,_::_,[],_,_,_,_,_,r,_,_=>r.elim
theorem RF:∀(ts:Ac Ag)(ds:Ac D)(U U':Rho),F4 ts ds U=Ab U'->ds.length=ts.length
 |[],[],_,_,_=>rfl
 |_::ts,_::ds,_,_,e=>congrArg (· + 1) (RF ts ds _ _ e)
 |[],_::_,_,_,e=>by cases e
 |_::_,[],_,_,e=>by cases e
theorem YN(ts:Ac Ag):GT K CL (FH ts) (Na K ts.length (ts.foldr (λt u=>Jv (Gm t) u) Jz)):=λFz B U Y H v d U' Q x r e k=>by
 cases d with
 |H ds=>
  obtain⟨a,xs,rfl,na,sq,rs⟩:=r;rw[VD]at e;cases e2:F4 ts ds U with
  |none=>rw[e2]at e;cases e
  |some U2=>
   rw[e2]at e;cases e;exact⟨a,xs,rfl,sq,by rw[rs.length];exact RF _ _ _ _ e2,YO ts ds xs U _ Y Q x rs e2 k⟩
 |_=>cases e
theorem Ym(hp:Jf (model X.prog X.w) X.A X.env X.xe)(hc:X.calm=Aa)(hGT:GT X.K CL as g)(hg:PG X tg g)(hit:SI X CL W tg iter fi)(hb:ž X CL W body fbd)(hs:∀ x,DF iter X.env x=pure x)(hax:∀ d U x,as d U≠.exn x):SS X CL W (.For tg iter body [] pos) (λU=>O.of U (fi U) λxs=>CD (λx U'=>O.of U' (as x U') fbd) xs U):=λFz B pI s Y H D I ⟨U,x,p⟩=>by
 refine wn hp hc (hit (C9 B U Y)) hg (tb:=λD Y H=>∃ Fy,(λD Y H=>∃ U,Sx X.K CL Fy B U Y H/\Dg X.K CL Fy B W (fbd U) D) D Y H) (λpI s Y H D I ⟨Fy,q⟩=>hb Fy B pI s Y H D I q) hs pI s Y H D I ⟨x.aok,U,x.good,Dg.exI x p λds J H1 _ s1 y _ x1 q=>?_⟩
 let Fy:Am->HO->Prop:=λb o=>H1 b=Ab o/\¬ ∃(j:Ag)(d:Ov.D),U[j]?=Ab (Ab (d,Aa))/\Y[j]?=Ab (Ab (.ref b))
 have hfy:∀ b o,Fz b o->Fy b o:=λb o z=>⟨x1.same b o z,λ⟨j,d,h1,h2⟩=>(x1.new j d b h1 h2).1 o z⟩
 have xy:Sx X.K CL Fy B U Y H1:=⟨x1.good,x1.aok,λj d a h1 h2=>⟨λo z=>z.2 ⟨j,d,h1,h2⟩,(x1.new j d a h1 h2).2⟩,x1.dis,λb o z=>z.1,x1.len⟩
 refine⟨λk m Y' H'=>m=ds.length-k/\k<=ds.length/\∃ U',Sx X.K CL Fy B U' Y' H'/\Dg X.K CL Fz B W (CD (λx U'=>O.of U' (as x U') fbd) (ds.drop k) U') D,⟨ds.length,by simp,CC _,U,xy,q⟩,?_⟩
 rintro k m Y' H' ⟨rfl,hk,U',x',q'⟩;have kp:Kp (C9 B U Y) H1 H':=λb o e na=>x'.same b o ⟨e,λz=>na (.inr z)⟩
 obtain⟨yst,ygo⟩:=y H' kp k;by_cases ô:k<ds.length
 .have hd:ds[k]?=Ab ds[k]:=AR ô;obtain⟨hgo,hyl⟩:=ygo _ hd;refine .inr ⟨hgo,λY'' H''=>∃ Α,Sx X.K CL Fy B Α Y'' H''/\Dg X.K CL Fz B W (CD (λx U'=>O.of U' (as x U') fbd) (ds.drop (k+1)) Α) D,λY'' H'' z=>⟨ds.length-(k+1),by omega,rfl,ô,z⟩,λv H2 hv=>?_⟩
  obtain⟨e2,rv⟩:=hyl v H2 hv;rw[ZW ô]at q';have q2:Dg X.K CL Fz B W ((O.of U' (as ds[k] U') fbd).turn (CD (λx U'=>O.of U' (as x U') fbd) (ds.drop (k+1)))) D:=q'
  have rv':U8 X.K CL H2 (C9 B U' Y') v ds[k]:=rv _ (λa ha=>by
    rcases ha with ha|⟨j,d,h1,h2⟩
    .exact .inl (.inl ha)
    .cases e:H1 a with
     |none=>exact .inr rfl
     |some o=>
      by_cases ho:∃(j:Ag)(d:Ov.D),U[j]?=Ab (Ab (d,Aa))/\Y[j]?=Ab (Ab (.ref a))
      .exact .inl (.inr ho)
      .exact absurd ⟨e,ho⟩ ((x'.new j d a h1 h2).1 o)) x'.aok
  cases ea:as ds[k] U' with
  |bad=>rw[ea]at q2;exact q2.elim
  |exn z=>exact absurd ea (hax _ _ z)
  |ok U2=>
   rw[ea,O.of_ok]at q2;exact hGT Fy B U' Y' H2 v ds[k] U2 _ (x'.grow e2) rv' ea λY3 x3=>⟨Fy,U2,x3,Dg.turn hfy q2 λU3 Y3 H3 x3 q3=>⟨U3,x3,q3⟩⟩
 .have Ű:ds.length<=k:=by omega
  rw[ZX Ű]at q';exact .inl ⟨yst Ű,q' Y' H' (x'.mono hfy)⟩
end
section
variable{X:Cx}{a b c:Aq}
noncomputable def ξ:Ki->As Du
 |.int=>Ab "int"
 |.bool=>Ab "bool"
 |.str=>Ab "str"
 |.list=>Ab "list"
 |.tuple=>Ab "tuple"
 |_=>Af
noncomputable def Tw:D->Al
 |.obj _ _=>Ae
 |.exc _ _=>Ae
 |.dic _=>Ae
 |_=>Aa
theorem zc{k:Ki}{Q:Vq}{E:Vq}(I:Z6 X pI Y H s)(r:DQ X.K CL H A v d)(q:Co v u)(hT:ξ k=Ab T)(hd:Tw d=Aa)(h:∀ s',Z6 X pI Y H s'->Q (.bool (Ø up k d)) s'):
  AD (model X.prog X.w) X.A (call (.builtin "isinstance") [u,.type T]) Q E s:=by
 have r':=r.plain;have it:=λt=>h _ (I.tok t)
 cases d with
 |obj=>cases hd
 |exc=>cases hd
 |dic=>cases hd
 |O=>
  cases r';cases q;cases k<;>simp only[ξ]at hT<;>cases hT
  .exact IsiPair.NoneType_int (it _)
  .exact IsiPair.NoneType_bool (it _)
  .exact IsiPair.NoneType_str (it _)
  .exact IsiPair.NoneType_list (it _)
  .exact IsiPair.NoneType_tuple (it _)
 |bl b=>
  cases r';cases q;cases k<;>simp only[ξ]at hT<;>cases hT
  .exact IsiPair.bool_int (h _ I)
  .exact IsiPair.bool_bool (h _ I)
  .exact IsiPair.bool_str (it _)
  .exact IsiPair.bool_list (it _)
  .exact IsiPair.bool_tuple (it _)
 |int i=>
  cases r';obtain⟨t,rfl⟩:=q;cases k<;>simp only[ξ]at hT<;>cases hT
  .exact IsiPair.int_int (h _ I)
  .exact IsiPair.int_bool (it _)
  .exact IsiPair.int_str (it _)
  .exact IsiPair.int_list (it _)
  .exact IsiPair.int_tuple (it _)
 |str x=>
  cases r';obtain⟨t,rfl⟩:=q;cases k<;>simp only[ξ]at hT<;>cases hT
  .exact IsiPair.str_int (it _)
  .exact IsiPair.str_bool (it _)
  .exact IsiPair.str_str (h _ I)
  .exact IsiPair.str_list (it _)
  .exact IsiPair.str_tuple (it _)
 |H ds=>
  obtain⟨p,xs,rfl,_,sq,rr⟩:=r';obtain⟨Z9,rv,pt,_⟩:=I.tuple sq;cases q;have μ:s.heap.IsTuple p Z9.toArray:=pt;cases k<;>simp only[ξ]at hT<;>cases hT
  .exact IsiPair.isTuple_int μ (λ_ _ e=>e) (it _)
  .exact IsiPair.isTuple_bool μ (λ_ _ e=>e) (it _)
  .exact IsiPair.isTuple_str μ (λ_ _ e=>e) (it _)
  .exact IsiPair.isTuple_list μ (λ_ _ e=>e) (it _)
  .exact IsiPair.isTuple_tuple μ (λ_ _ e=>e) (h _ I)
 |L ds=>
  obtain⟨p,xs,rfl,_,sq,rr⟩:=r';obtain⟨Z9,rv,pl,_⟩:=I.list sq;cases q;have μ:s.heap.IsList p Z9.toArray:=Jo pl;cases k<;>simp only[ξ]at hT<;>cases hT
  .exact IsiPair.isList_int μ (λ_ _ e=>e) (it _)
  .exact IsiPair.isList_bool μ (λ_ _ e=>e) (it _)
  .exact IsiPair.isList_str μ (λ_ _ e=>e) (it _)
  .exact IsiPair.isList_list μ (λ_ _ e=>e) (h _ I)
  .exact IsiPair.isList_tuple μ (λ_ _ e=>e) (it _)
theorem rV{k:Ki}(hT:ξ k=Ab T)(p:BN Rp W H (Fm up [k] d) Q):Tw d=Aa/\BN Rp W H (.ok (.bl (Ø up k d))) Q:=by
 cases k<;>simp only[ξ]at hT<;>cases hT<;>cases d<;>first|exact p.elim|exact⟨rfl,by simpa using p⟩
theorem kw{k:Ki}(hT:ξ k=Ab T)(hg:Gl X "isinstance")(hm:X.mg "isinstance" = Af)(hg2:Gl X x)(hm2:X.mg x=Af)(hv:Dt x=Ab (.type T))(hn:x≠"__name__")(Ï:(x==("__debug__" : An))=Ae)(ha:ST X CL W a fa)(he:AN [a,.Name x p2] X.env=(Ae,eval a X.env)::AN [.Name x p2] X.env):SE X CL W (.Call (.Name "isinstance" p) [a,.Name x p2] [] pos) (λU=>(fa U).bind λx=>Fm up [k] x):=λA=>
 PE.weak (SN (r:=λxs H Q=>∃ y d,xs=[y,.ty T]/\DQ X.K CL H A y d/\Tw d=Aa/\Q (.bl (Ø up k d)) H) (λpI s Y H xs us Q I r ⟨y,d,e,ry,hd,q⟩=>by
   subst e;obtain⟨u,w',rfl,r1,r2⟩:=Zzq r;cases r2;exact zc I ry r1 hT hd λs' I'=>⟨.bl _,H,I',rfl,q⟩)
  hg hm boot_isinstance (Gi (ha A) (Gi (b6 (v:=.ty T) hg2 hm2 hv rfl hn Ï) HZ rfl) he) (by decide) (by decide) he rfl) λY H Q ⟨hA,U,g,q⟩=>⟨hA,U,g,BN.bind q λd v H1 _ s1 r1 p1=>by
   obtain⟨hd,p2⟩:=rV hT p1;exact⟨v,d,rfl,r1,hd,p2 _ H1 (A1.refl H1) rfl⟩⟩
theorem S7{b:Al}{E:Vq}(r:U8 X.K CL H A v d)(q:Co v u)(h:Fl d=.ok b)(hq:Q b s):AD (model prog w) A' (truthy u) Q E s:=by
 cases d with
 |O=>
  cases r;cases q;cases h;exact truthy_none hq
 |bl k=>
  cases r;cases q;cases h;exact Db hq
 |int i=>
  cases r;obtain⟨t,rfl⟩:=q;cases h;exact truthy_int hq
 |_=>cases h
theorem Vr:∀{ds:Ac D}{b:Al},Gj ds=.ok b->(∀ j,j<ds.length->∃ c,Fl (ds.getD j .O)=.ok c)/\b=(AK ds.length).all λj=>match Fl (ds.getD j .O) with
  |.ok c=>c
  |_=>Ae
 |[],b,h=>by cases h;exact⟨λj hj=>absurd hj (F8 _),rfl⟩
 |d::ds,b,h=>by
  rw[RE]at h;cases e:Fl d with
  |bad=>rw[e]at h;cases h
  |exn x=>rw[e]at h;cases h
  |ok c=>
   rw[e,R.bind_ok]at h;cases e2:Gj ds with
   |bad=>rw[e2]at h;cases h
   |exn x=>rw[e2]at h;cases h
   |ok c2=>
    rw[e2,R.bind_ok]at h;cases h;obtain⟨h1,h2⟩:=Vr e2;refine⟨λj hj=>?_,?_⟩
    .cases j with
     |zero=>exact⟨c,e⟩
     |succ j=>exact h1 j (by simpa using hj)
    .rw[BS,Vd,h2];show (c&&_)=((match Fl d with | .ok c=>c|_=>Ae)&&_)
     rw[e];rfl
theorem Vp:∀{ds:Ac D}{b:Al},F6 ds=.ok b->(∀ j,j<ds.length->∃ c,Fl (ds.getD j .O)=.ok c)/\b=(AK ds.length).any λj=>match Fl (ds.getD j .O) with
  |.ok c=>c
  |_=>Ae
 |[],b,h=>by cases h;exact⟨λj hj=>absurd hj (F8 _),rfl⟩
 |d::ds,b,h=>by
  rw[VF]at h;cases e:Fl d with
  |bad=>rw[e]at h;cases h
  |exn x=>rw[e]at h;cases h
  |ok c=>
   rw[e,R.bind_ok]at h;cases e2:F6 ds with
   |bad=>rw[e2]at h;cases h
   |exn x=>rw[e2]at h;cases h
   |ok c2=>
    rw[e2,R.bind_ok]at h;cases h;obtain⟨h1,h2⟩:=Vp e2;refine⟨λj hj=>?_,?_⟩
    .cases j with
     |zero=>exact⟨c,e⟩
     |succ j=>exact h1 j (by simpa using hj)
    .rw[BS,Fi,Kf,ZU,h2];show (c||_)=((match Fl d with | .ok c=>c|_=>Ae)||_)
     rw[e];rfl
theorem Wv:∀(ds:Ac D)(a z:Ad),HH a ds=.ok z->(∀ j,j<ds.length->∃ i,ds.getD j .O=.int i)/\z=a+KB (λj=>match ds.getD j .O with
  |.int i=>i
  | _=>0) ds.length
 |[],a,z,h=>by cases h;exact⟨λj hj=>absurd hj (F8 _),by simp[KB]⟩
 |.int i::ds,a,z,h=>by
  obtain⟨h1,h2⟩:=Wv ds (a+i) z h;refine⟨λj hj=>?_,?_⟩
  .cases j with
   |zero=>exact⟨i,rfl⟩
   |succ j=>exact h1 j (by simpa using hj)
  .have key:∀ n,KB (λj=>match (D.int i::ds).getD j .O with | .int i=>i|_=>0) (n+1)=i+KB (λj=>match ds.getD j .O with | .int i=>i|_=>0) n:=by
    intro n
    induction n with
    |zero=>show (0:Ad)+i=i+0;omega
    |succ n ih=>
     show KB _ (n+1)+(match ds.getD n .O with | .int i=>i|_=>0)=i+(KB _ n+(match ds.getD n .O with | .int i=>i|_=>0))
     rw[ih];omega
   rw[h2,BS,key];omega
 |.O::_,_,_,h=>by cases h
 |.bl _::_,_,_,h=>by cases h
 |.str _::_,_,_,h=>by cases h
 |.H _::_,_,_,h=>by cases h
 |.L _::_,_,_,h=>by cases h
 |.obj _ _::_,_,_,h=>by cases h
 |.exc _ _::_,_,_,h=>by cases h
 |.dic _::_,_,_,h=>by cases h
theorem NL(r:Z7 X.K CL H A0 xs ds)(rv:Bl xs Z9){v:Aj}(h:Z9.toArray[j]?=Ab v):j<ds.length/\∃ x,U8 X.K CL H A0 x (ds.getD j .O)/\Co x v:=by
 have h':Z9[j]?=Ab v:=by simpa using h
 obtain⟨hj,e⟩:=Br.mp h';obtain⟨x,rx,q⟩:=LG r rv hj;have l1:=rv.length;have l2:=r.length
 exact⟨by omega,x,rx,by rw[<-e];exact q⟩
theorem N4(k:∀ b q,b∉[h.objs.size]->(h.push o).get? b=Ab q->h'.get? b=Ab q):∀ b q,h.get? b=Ab q->h'.get? b=Ab q:=λb q e=>k b q (by
 intro z;have:=AQ.mp z;rw[this]at e;exact absurd (AE e) (BK _)) (Ar _ e)
theorem zw(hc:X.calm=Aa):LO X CL W (.builtin "all") (Tm .all):=by
  intro A pI s Y H xs us Q I r ⟨hA,ds,rs,p⟩
  match ds,rs,p with
  |[.L es],rs,p=>
    obtain⟨v,rfl,rv⟩:=rs.one;obtain⟨q,ys,e,_,sq,ry⟩:=rv.plain;subst e;obtain⟨u,rfl,ru⟩:=Jq r;cases ru;rw[lG]at p;cases e1:Gj es with
    |bad=>rw[e1]at p;exact p.elim
    |exn x=>
      exfalso
      have:∀(es:Ac D) x,Gj es≠.exn x:=by
        intro es
        induction es with
        |nil=>intro x h;cases h
        |cons d ds ih=>
          intro x h;rw[RE]at h;cases e:Fl d with
          |bad=>rw[e]at h;cases h
          |exn y=>cases d<;>cases e
          |ok c=>
            rw[e,R.bind_ok]at h;cases e2:Gj ds with
            |bad=>rw[e2]at h;cases h
            |exn y=>exact ih y e2
            |ok c2=>rw[e2]at h;cases h
      exact this es x e1
    |ok b=>
      rw[e1,R.bind_ok]at p;obtain⟨h1,h2⟩:=Vr e1;obtain⟨Z9,Ϧ,pl,_⟩:=I.list sq;have ô:q<s.heap.objs.size:=by obtain⟨o,n,e,_⟩:=pl;exact AE e
      have hl:Z9.toArray.size=es.length:=by rw[AJ,<-Ϧ.length,ry.length]
      refine call_all_walk (Fv (Jo pl) ⟨s.heap.objs.size,_,_,_,_,_,(λj=>match Fl (es.getD j .O) with | .ok c=>c|_=>Ae),rfl,LY (A:=X.A.in1) (I.ok.hd hc) s.heap.objs.size q (AZ ô) Z9.toArray,⟨⟨_,AB _ rfl,rfl,rfl⟩,(Jo pl).push _⟩,λj v s' Q' E' hv hQ=>?_,λh' tk k=>?_⟩)
      · obtain⟨hj,x,rx,qx⟩:=NL ry Ϧ hv;obtain⟨c,ec⟩:=h1 j hj;exact S7 rx qx ec (by dsimp only at hQ;rw[ec]at hQ;exact hQ)
      · rw[hl,<-h2];exact⟨.bl b,H,I.kept (N4 k),rfl,p _ H (A1.refl H) rfl⟩
  |[],_,p=>exact p.elim
  |[.O],_,p=>exact p.elim
  |[.bl _],_,p=>exact p.elim
  |[.int _],_,p=>exact p.elim
  |[.str _],_,p=>exact p.elim
  |[.H _],_,p=>exact p.elim
  |[.obj _ _],_,p=>exact p.elim
  |[.exc _ _],_,p=>exact p.elim
  |[.dic _],_,p=>exact p.elim
  |x::_::_,_,p=>cases x<;>exact p.elim
theorem XY(hc:X.calm=Aa){ys:Ac V}{es:Ac D}(I:Z6 X pI Y H s)(sq:fI X.K H q ys\/ð X.K H q ys)(ry:Z7 X.K CL H A0 ys es)(p:BN (λH=>U8 X.K CL H A) W H ((F6 es).bind λb=>.ok (.bl b)) Q):AD (model X.prog X.w) X.A (call (.builtin "any") [.ref q]) (EP X pI Y Q) X.xe s:=by
 cases e1:F6 es with
 |bad=>rw[e1]at p;exact p.elim
 |exn x=>
  exfalso
  clear p
  have:∀(es:Ac D) x,F6 es≠.exn x:=by
   intro es
   induction es with
   |nil=>intro x h;cases h
   |cons d ds ih=>
    intro x h;rw[VF]at h;cases e:Fl d with
    |bad=>rw[e]at h;cases h
    |exn y=>cases d<;>cases e
    |ok c=>
     rw[e,R.bind_ok]at h;cases e2:F6 ds with
     |bad=>rw[e2]at h;cases h
     |exn y=>exact ih y e2
     |ok c2=>rw[e2]at h;cases h
  exact this es x e1
 |ok b=>
  rw[e1,R.bind_ok]at p;obtain⟨h1,h2⟩:=Vp e1;rcases sq with sq|sq
  .obtain⟨Z9,Ϧ,pl,_⟩:=I.list sq;have ô:q<s.heap.objs.size:=by obtain⟨o,n,e,_⟩:=pl;exact AE e
   have hl:Z9.toArray.size=es.length:=by rw[AJ,<-Ϧ.length,ry.length]
   refine call_any_walk (Fv (Jo pl) ⟨s.heap.objs.size,_,_,_,_,_,(λj=>match Fl (es.getD j .O) with | .ok c=>c|_=>Ae),rfl,LY (A:=X.A.in1) (I.ok.hd hc) s.heap.objs.size q (AZ ô) Z9.toArray,⟨⟨_,AB _ rfl,rfl,rfl⟩,(Jo pl).push _⟩,λj v s' Q' E' hv hQ=>?_,λh' tk k=>?_⟩)
   .obtain⟨hj,x,rx,qx⟩:=NL ry Ϧ hv;obtain⟨c,ec⟩:=h1 j hj;exact S7 rx qx ec (by dsimp only at hQ;rw[ec]at hQ;exact hQ)
   .rw[hl,<-h2];exact⟨.bl b,H,I.kept (N4 k),rfl,p _ H (A1.refl H) rfl⟩
  .obtain⟨Z9,Ϧ,pl,_⟩:=I.tuple sq;have œ:s.heap.IsTuple q Z9.toArray:=pl;have ô:q<s.heap.objs.size:=by obtain⟨o,e,_⟩:=œ;exact AE e
   have hl:Z9.toArray.size=es.length:=by rw[AJ,<-Ϧ.length,ry.length]
   refine call_any_walk (Fh œ ⟨s.heap.objs.size,_,_,_,_,_,(λj=>match Fl (es.getD j .O) with | .ok c=>c|_=>Ae),rfl,Lj (A:=X.A.in1) (I.ok.hd hc) s.heap.objs.size q (AZ ô) Z9.toArray,⟨⟨_,AB _ rfl,rfl,rfl⟩,œ.push _⟩,λj v s' Q' E' hv hQ=>?_,λh' tk k=>?_⟩)
   .obtain⟨hj,x,rx,qx⟩:=NL ry Ϧ hv;obtain⟨c,ec⟩:=h1 j hj;exact S7 rx qx ec (by dsimp only at hQ;rw[ec]at hQ;exact hQ)
   .rw[hl,<-h2];exact⟨.bl b,H,I.kept (N4 k),rfl,p _ H (A1.refl H) rfl⟩
theorem zt(hc:X.calm=Aa):LO X CL W (.builtin "any") (Tm .any):=by
  intro A pI s Y H xs us Q I r ⟨hA,ds,rs,p⟩
  match ds,rs,p with
  |[.L es],rs,p=>
    obtain⟨v,rfl,rv⟩:=rs.one;obtain⟨q,ys,e,_,sq,ry⟩:=rv.plain;subst e;obtain⟨u,rfl,ru⟩:=Jq r;cases ru;exact XY hc I (.inl sq) ry p
  |[.H es],rs,p=>
    obtain⟨v,rfl,rv⟩:=rs.one;obtain⟨q,ys,e,_,sq,ry⟩:=rv.plain;subst e;obtain⟨u,rfl,ru⟩:=Jq r;cases ru;exact XY hc I (.inr sq) ry p
  |[],_,p=>exact p.elim
  |[.O],_,p=>exact p.elim
  |[.bl _],_,p=>exact p.elim
  |[.int _],_,p=>exact p.elim
  |[.str _],_,p=>exact p.elim
  |[.obj _ _],_,p=>exact p.elim
  |[.exc _ _],_,p=>exact p.elim
  |[.dic _],_,p=>exact p.elim
  |x::_::_,_,p=>cases x<;>exact p.elim
theorem W6(hc:X.calm=Aa){ys:Ac V}{es:Ac D}(I:Z6 X pI Y H s)(sq:fI X.K H q ys\/ð X.K H q ys)(ry:Z7 X.K CL H A0 ys es)(p:BN (λH=>U8 X.K CL H A) W H ((HH 0 es).bind λb=>.ok (.int b)) Q):AD (model X.prog X.w) X.A (call (.builtin "sum") [.ref q]) (EP X pI Y Q) X.xe s:=by
 cases e1:HH 0 es with
 |bad=>rw[e1]at p;exact p.elim
 |exn x=>
  exfalso
  have:∀(es:Ac D)(a:Ad) x,HH a es≠.exn x:=by
   intro es
   induction es with
   |nil=>intro a x h;cases h
   |cons d ds ih=>
    intro a x h;cases d<;>first|exact ih _ _ h|cases h
  exact this es 0 x e1
 |ok z=>
  rw[e1,R.bind_ok]at p;obtain⟨h1,h2⟩:=Wv es 0 z e1;rw[Dm]at h2;rcases sq with sq|sq
  .obtain⟨Z9,Ϧ,pl,_⟩:=I.list sq;have ô:q<s.heap.objs.size:=by obtain⟨o,n,e,_⟩:=pl;exact AE e
   have hl:Z9.toArray.size=es.length:=by rw[AJ,<-Ϧ.length,ry.length]
   refine eV (Fv (Jo pl) ⟨s.heap.objs.size,_,_,_,_,_,(λj=>match es.getD j .O with | .int i=>i|_=>0),rfl,LY (A:=X.A.in1) (I.ok.hd hc) s.heap.objs.size q (AZ ô) Z9.toArray,⟨⟨_,AB _ rfl,rfl,rfl⟩,(Jo pl).push _⟩,λb hb=>?_,λj v hv=>?_,λh' tk t' k=>?_⟩)
   .show b<(s.heap.push _).objs.size;rw[Bg];rcases Aw.mp hb with rfl|hb
    .exact ES _
    .rw[AQ.mp hb];exact CA ô
   .obtain⟨hj,x,rx,qx⟩:=NL ry Ϧ hv;obtain⟨i,ei⟩:=h1 j hj;rw[ei]at rx;dsimp only;rw[ei];cases rx;exact qx
   .rw[hl,<-h2];exact⟨.int z,H,I.kept (N4 k),⟨_,rfl⟩,p _ H (A1.refl H) rfl⟩
  .obtain⟨Z9,Ϧ,pl,_⟩:=I.tuple sq;have œ:s.heap.IsTuple q Z9.toArray:=pl;have ô:q<s.heap.objs.size:=by obtain⟨o,e,_⟩:=œ;exact AE e
   have hl:Z9.toArray.size=es.length:=by rw[AJ,<-Ϧ.length,ry.length]
   refine eV (Fh œ ⟨s.heap.objs.size,_,_,_,_,_,(λj=>match es.getD j .O with | .int i=>i|_=>0),rfl,Lj (A:=X.A.in1) (I.ok.hd hc) s.heap.objs.size q (AZ ô) Z9.toArray,⟨⟨_,AB _ rfl,rfl,rfl⟩,œ.push _⟩,λb hb=>?_,λj v hv=>?_,λh' tk t' k=>?_⟩)
   .show b<(s.heap.push _).objs.size;rw[Bg];rcases Aw.mp hb with rfl|hb
    .exact ES _
    .rw[AQ.mp hb];exact CA ô
   .obtain⟨hj,x,rx,qx⟩:=NL ry Ϧ hv;obtain⟨i,ei⟩:=h1 j hj;rw[ei]at rx;dsimp only;rw[ei];cases rx;exact qx
   .rw[hl,<-h2];exact⟨.int z,H,I.kept (N4 k),⟨_,rfl⟩,p _ H (A1.refl H) rfl⟩
theorem ya(hc:X.calm=Aa):LO X CL W (.builtin "sum") (Tm .sum):=by
  intro A pI s Y H xs us Q I r ⟨hA,ds,rs,p⟩
  match ds,rs,p with
  |[.L es],rs,p=>
    obtain⟨v,rfl,rv⟩:=rs.one;obtain⟨q,ys,e,_,sq,ry⟩:=rv.plain;subst e;obtain⟨u,rfl,ru⟩:=Jq r;cases ru;exact W6 hc I (.inl sq) ry p
  |[.H es],rs,p=>
    obtain⟨v,rfl,rv⟩:=rs.one;obtain⟨q,ys,e,_,sq,ry⟩:=rv.plain;subst e;obtain⟨u,rfl,ru⟩:=Jq r;cases ru;exact W6 hc I (.inr sq) ry p
  |[],_,p=>exact p.elim
  |[.O],_,p=>exact p.elim
  |[.bl _],_,p=>exact p.elim
  |[.int _],_,p=>exact p.elim
  |[.str _],_,p=>exact p.elim
  |[.obj _ _],_,p=>exact p.elim
  |[.exc _ _],_,p=>exact p.elim
  |[.dic _],_,p=>exact p.elim
  |x::_::_,_,p=>cases x<;>exact p.elim
end
section
variable(K:Fg)(CL:ClA)
def kO(H0:Hp)(A:Am->Prop)(H:Hp)(v:V)(d:D):Prop:=∀ ds,d=.L ds->∃ a xs,v=.ref a/\H0 a=Af/\H a=Ab (.L xs)/\Z7 K CL H (λb=>A b\/b=a) xs ds
def Fn(fr:Al)(H0:Hp)(A:Am->Prop)(H:Hp)(v:V)(d:D):Prop:=U8 K CL H A v d/\(fr=Aa->kO K CL H0 A H v d)
end
section
variable{CL:ClA}{a b:Aq}
def SC(X:Cx)(CL:ClA)(W:XW)(fr:Al)(e:Aq)(f:Rho->R D):Prop:=∀ A,PE X e (λY H Q=>we H A/\∃ U,U9 X.K CL A U Y H/\BN (Fn X.K CL fr H A) W H (f U) Q)
theorem SC.se(h:SC X CL W fr a fa):SE X CL W a fa:=λA=>PE.weak (h A) λY H Q ⟨hA,U,g,p⟩=>⟨hA,U,g,by
 cases e:fa U with
 |ok d=>rw[e]at p;exact λv H' s r=>p v H' s r.1
 |exn x=>rw[e]at p;exact p
 | bad=>rw[e]at p;exact p⟩
theorem SE.sc(h:SE X CL W a fa):SC X CL W Ae a fa:=λA=>PE.weak (h A) λY H Q ⟨hA,U,g,p⟩=>⟨hA,U,g,by
 cases e:fa U with
 |ok d=>rw[e]at p;exact λv H' s r=>p v H' s ⟨r,λz=>nomatch z⟩
 |exn x=>rw[e]at p;exact p
 | bad=>rw[e]at p;exact p⟩
theorem SC.congr(h:SC X CL W fr a f)(e:∀ U,g U=f U):SC X CL W fr a g:=λA=>PE.weak (h A) λY H Q ⟨hA,U,q,p⟩=>⟨hA,U,q,by rw[<-e];exact p⟩
theorem Lx{p:Am}(s:A1 H0 H)(hA:we H A)(hp:H p=Af)(r:Z7 K CL H A xs ds):Fn K CL Aa H0 A (upd H p (.L xs)) (.ref p) (.L ds):=
 ⟨S5 hA hp r,λ_ ū e=>by
  cases e;exact⟨p,xs,rfl,s.free hp,J3,(Z7.wide (λa ha=>ha.imp id λe=>by rw[e];exact hp) _ r).same (GA hp _)⟩⟩
theorem Xf(r:U8 K CL H A v d)(h:∀ ds,d≠.L ds):Fn K CL fr H0 A H v d:=⟨r,λ_ ds e=>absurd e (h ds)⟩
theorem n5(hs:SA X CL W es fs)(hz:∀ U ds,fs U=.ok ds->ds.length<=100000):SC X CL W Aa (.List es pos) (λU=>(fs U).bind λxs=>.ok (.L xs)):=
 λA=>PE.weak (xg (hs A)) λY H Q ⟨hA,U,g,p⟩=>⟨hA,U,g,Ib.bind p λds vs H1 e s1 r1 p1=>⟨by
  rw[r1.length,CN];have:=hz U ds e;omega,λq hq=>p1 _ _ (GA hq _) (Lx s1 (hA.same s1) hq r1)⟩⟩
theorem BN.bindF(h:BN (Fn K CL fr H A) W H (r.bind f) Q)(k:∀ d v H',r=.ok d->A1 H H'->Rp H' v d->BN (Fn K CL fr H A) W H' (f d) Q->Q' v H'):BN Rp W H r Q':=by
 cases r with
 |ok d=>exact λv H2 s2 q=>k d v H2 rfl s2 q (BN.same s2 h)
 |exn x=>exact h
 |bad=>exact h
theorem Ib.bindF{r:R (Ac D)}(h:BN Rq W H (r.bind f) Q)(k:∀ d v H',r=.ok d->A1 H H'->Rp H' v d->BN Rq W H' (f d) Q->Q' v H'):Ib Rp W H r Q':=by
 cases r with
 |ok d=>exact λv H2 s2 q=>k d v H2 rfl s2 q (BN.same s2 h)
 |exn x=>exact h
 |bad=>exact h
theorem Oa.bindF{r:R (As Ad)}(h:BN Rq W H (r.bind f) Q)(k:∀ o H',r=.ok o->A1 H H'->BN Rq W H' (f o) Q->Q' o H'):Oa W H r Q':=by
 cases r with
 |ok d=>exact λH2 s2=>k d H2 rfl s2 (BN.same s2 h)
 |exn x=>exact h
 |bad=>exact h
theorem ZzY{lo:As Aq}(ha:ST X CL W a fa)(hl:SO X CL W lo fl)(hh:SO X CL W hi fh):SC X CL W Aa (.Subscript a (.Slice lo hi Af p2) pos) (λU=>(fa U).bind λx=>(fl U).bind λl=>(fh U).bind λh=>Ý x l h):=
 λA=>PE.weak (uS (r:=λx l h H Q=>U_4 X.K x l h H Q\/U_3 X.K x l h H Q) (λpI s Y H x v vl vu lo hi sl Q I rx hs pl pu h=>h.elim (yU pI s Y H x v vl vu lo hi sl Q I rx hs pl pu) (nh pI s Y H x v vl vu lo hi sl Q I rx hs pl pu)) (ha A) (hl A) (hh A)) λY H Q ⟨hA,U,g,p⟩=>⟨hA,U,g,BN.bindF p λdx x H1 _ s1 r1 p1=>⟨hA.same s1,U,g.same s1,Oa.bindF p1 λl H2 _ s2 p2=>⟨(hA.same s1).same s2,U,(g.same s1).same s2,Oa.bindF p2 λh H3 _ s3 p3=>by
  cases dx with
  |L ds=>
   obtain⟨q,xs,rfl,sq,r⟩:=((r1.same s2).same s3).lst_of;exact .inl ⟨q,xs,rfl,sq,λt ht=>p3 _ _ (GA ht _) (Lx ((s1.trans s2).trans s3) (((hA.same s1).same s2).same s3) ht (Xz l h r))⟩
  |H ds=>
   obtain⟨q,xs,rfl,_,sq,r⟩:=((r1.same s2).same s3).tup_of;rw[nY]at p3;split at p3
   .exact p3.elim
   .rename_i hw;refine .inr ⟨q,xs,rfl,sq,?_,λt ht=>p3 _ _ (GA ht _) (Xf (Mz (((hA.same s1).same s2).same s3) ht (Xz l h r)) (by intro _ z;cases z))⟩
    rintro⟨h1,h2⟩;refine hw ?_;have e:∀ d o,HT.sIx xs.length d o=EX ds.length d o:=λd o=>by rw[r.length];cases o<;>rfl
    rw[e]at h1 h2;rw[r.length]at h2;simp[h1,h2]
  | _=>exact p3.elim⟩⟩⟩
noncomputable def OpN(X:Cx)(CL:ClA)(W:XW)(f:Aj->Aj->HU Aj)(g:D->D->R D):Prop:=
 ∀ A H0,ê X f (λx y H Q=>A1 H0 H/\we H A/\∃ dx dy,DQ X.K CL H A x dx/\DQ X.K CL H A y dy/\BN (Fn X.K CL Aa H0 A) W H (g dx dy) Q)
theorem bg:OpN X CL W (CQ .Add) (DD .Add):=by
 intro A H0 pI s Y H x y v u Q I rx ry ⟨s0,hA,dx,dy,hx,hy,p⟩;have key:(∀ ds,dx≠.L ds)->EP X pI Y Q=EP X pI Y Q->AD (model X.prog X.w) X.A (CQ .Add v u) (EP X pI Y Q) X.xe s:=λhd _=>by
  refine W5 (W:=W) A pI s Y H x y v u Q I rx ry ⟨hA,dx,dy,hx,hy,?_⟩;cases e:DD .Add dx dy with
  |bad=>rw[e]at p;exact p
  |exn x=>rw[e]at p;exact p
  |ok d=>
   rw[e]at p;refine λv' H' s' r'=>p v' H' s' (Xf r' λds z=>?_)
   subst z;cases dx with
   |L ds=>exact hd _ rfl
   |H xs=>
    cases dy with
    |H ys=>rw[Y_3]at e;split at e<;>cases e
    |_=>cases e
   |str xs=>
    cases dy with
    |str ys=>rw[YA]at e;split at e<;>cases e
    |_=>cases e
   |int i=>cases dy<;>cases e
   |_=>cases e
 cases dx with
 |L ds=>
  cases dy with
  |L es=>
   obtain⟨a,xs,rfl,s1,r1⟩:=hx.lst_of;obtain⟨b,ys,rfl,s2,r2⟩:=hy.lst_of;simp only[YB]at p;split at p
   .rename_i h;refine XI pI s Y H _ _ v u Q I rx ry ⟨a,b,xs,ys,rfl,rfl,s1,s2,by rw[r1.length,r2.length];exact KM h,λq hq=>?_⟩
    exact p _ _ (GA hq _) (Lx s0 hA hq (r1.append r2))
   .exact p.elim
  |_=>exact p.elim
 |_=>exact key (by intro _ z;cases z) rfl
theorem n9(ha:ST X CL W a fa)(hb:ST X CL W b fb):SC X CL W Aa (.BinOp a .Add b pos) (λU=>(fa U).bind λx=>(fb U).bind λy=>DD .Add x y):=
 λA pI s Y H Q I h=>by
  obtain⟨hA,U,g,p⟩:=h;exact Zk (bg (W:=W) A H) (ha A) (hb A) pI s Y H Q I ⟨hA,U,g,BN.bindF p λdx x H1 _ s1 r1 p1=>⟨hA.same s1,U,g.same s1,BN.bind (Rq:=Fn X.K CL Aa H A) p1 λdy y H2 _ s2 r2 p2=>⟨s1.trans s2,(hA.same s1).same s2,dx,dy,r1.same s2,r2,p2⟩⟩⟩
def Qh(X:Cx)(CL:ClA)(W:XW)(f:Aj)(g:Ac D->R D):Prop:=∀ A H0,KU X f (λxs H Q=>A1 H0 H/\we H A/\∃ ds,J9 X.K CL H A xs ds/\BN (Fn X.K CL Aa H0 A) W H (g ds) Q)
theorem j7:Qh X CL W (.type "list") (Tm .list):=by
  intro A H0 pI s Y H xs us Q I r ⟨s0,hA,ds,rs,p⟩
  match ds,rs,p with
  |[.L es],rs,p=>
    obtain⟨v,rfl,rv⟩:=rs.one;obtain⟨q,ys,rfl,sq,ry⟩:=rv.lst_of;exact Vh pI s Y H _ us Q I r ⟨q,ys,rfl,.inl sq,λl hl=>p _ _ (GA hl _) (Lx s0 hA hl ry)⟩
  |[.H es],rs,p=>
    obtain⟨v,rfl,rv⟩:=rs.one;obtain⟨q,ys,rfl,_,sq,ry⟩:=rv.tup_of;exact Vh pI s Y H _ us Q I r ⟨q,ys,rfl,.inr sq,λl hl=>p _ _ (GA hl _) (Lx s0 hA hl ry)⟩
  |[],_,p=>exact p.elim
  |[.O],_,p=>exact p.elim
  |[.bl _],_,p=>exact p.elim
  |[.int _],_,p=>exact p.elim
  |[.str _],_,p=>exact p.elim
  |[.obj _ _],_,p=>exact p.elim
  |[.exc _ _],_,p=>exact p.elim
  |[.dic _],_,p=>exact p.elim
  |x::_::_,_,p=>cases x<;>exact p.elim
theorem n6(hc:Qh X CL W (.type T) g)(hg:Gl X x)(hm:X.mg x=Af)(hv:Dt x=Ab (.type T))(ha:τ X CL W (e::es) fs)(hn:x≠"__name__")(Ï:(x==("__debug__" : An))=Ae)(he:AN (e::es) X.env=(Ae,eval e X.env)::AN es X.env)(è:∀ pos,(C8 pos (AN es X.env)).any (·.1)=Ae):SC X CL W Aa (.Call (.Name x p) (e::es) [] pos) (λU=>(fs U).bind g):=λA pI s Y H Q I ⟨hA,U,gd,q⟩=>
 V3 (hc A H) hg hm hv (ha A) hn Ï he (è _) pI s Y H Q I ⟨hA,U,gd,Ib.bindF q λds vs H1 _ s1 r1 p1=>⟨s1,hA.same s1,ds,r1,p1⟩⟩
theorem n8(hc:Qh X CL W (.builtin id) g)(hg:Gl X x)(hm:X.mg x=Af)(hv:Dt x=Ab (.builtin id))(ha:τ X CL W (e::es) fs)(hn:x≠"__name__")(Ï:(x==("__debug__" : An))=Ae)(he:AN (e::es) X.env=(Ae,eval e X.env)::AN es X.env)(è:∀ pos,(C8 pos (AN es X.env)).any (·.1)=Ae):SC X CL W Aa (.Call (.Name x p) (e::es) [] pos) (λU=>(fs U).bind g):=λA pI s Y H Q I ⟨hA,U,gd,q⟩=>
 SN (hc A H) hg hm hv (ha A) hn Ï he (è _) pI s Y H Q I ⟨hA,U,gd,Ib.bindF q λds vs H1 _ s1 r1 p1=>⟨s1,hA.same s1,ds,r1,p1⟩⟩
mutual
theorem Zg{K:Fg}{H:Hp}{A:Am->Prop}(hA:we H A):∀(n:Ag)(d:D){v:V},ĭ n d=Aa->U8 K CL H A0 v d->U8 K CL H A v d
 |_,.O,_,_,h=>h
 |_,.bl _,_,_,h=>h
 |_,.int _,_,_,h=>h
 |_,.str _,_,_,h=>h
 |0,.H _,_,hn,_=>by cases hn
 |n+1,.H ds,_,hn,h=>by
  obtain⟨a,xs,e,_,s,r⟩:=h;refine⟨a,xs,e,?_,s,ϲ hA n ds hn r⟩;rcases s with s|s
  .refine .inl λz=>?_
   obtain⟨ys,q⟩:=hA a z;rcases s with s|⟨o,s⟩<;>rw[q]at s<;>cases s
  .exact .inr s
 |n,.L _,_,hn,_=>by cases n<;>cases hn
 |n,.obj _ _,_,hn,_=>by cases n<;>cases hn
 |n,.exc _ _,_,hn,_=>by cases n<;>cases hn
 |n,.dic _,_,hn,_=>by cases n<;>cases hn
theorem ϲ{K:Fg}{H:Hp}{A:Am->Prop}(hA:we H A):∀(n:Ag)(ds:Ac D){vs:Ac V},ds.all (ĭ n)=Aa->Z7 K CL H A0 vs ds->Z7 K CL H A vs ds
 |_,[],[],_,h=>h
 |n,d::ds,_::_,hn,h=>by
  simp only[E9,Ap]at hn;exact⟨Zg hA n d hn.1 h.1,ϲ hA n ds hn.2 h.2⟩
 |_,[],_::_,_,h=>h.elim
 |_,_::_,[],_,h=>h.elim
end
theorem yt(hA0:we H0 A)(s:A1 H0 H)(hc:MX fr d=Aa)(r:Fn K CL fr H0 A0 H v d):Fn K CL fr H0 A H v d:=by
 have hA:=hA0.same s;cases d with
 |L ds=>
  have ϋ:(fr&&ds.all (ĭ 5))=Aa:=hc;rw[Ap]at ϋ;obtain⟨a,xs,e,h0,h1,rs⟩:=r.2 ϋ.1 ds rfl;have hA2:we H (λb=>A b\/b=a):=λb hb=>hb.elim (hA b) λe=>by rw[e];exact⟨xs,h1⟩
  have Ţ:=ϲ hA2 5 ds ϋ.2 (Z7.sub (λ_ z=>z.elim) _ rs)
  refine⟨⟨a,xs,e,.inl (hA0.new h0),fI.of h1,Z7.sub (λ_ z=>.inl z) _ Ţ⟩,λ_ ū e'=>?_⟩
  cases e';exact⟨a,xs,e,h0,h1,Ţ⟩
 |_=>exact⟨Zg hA 5 _ hc r.1,λ_ _ z=>nomatch z⟩
def spD(K:Fg)(CL:ClA)(n:Ag)(fr:Al)(F:Ac D->R D):Sp:=λvs H Q E=>∃(ds:Ac D)(A:Am->Prop),vs.length=n/\we H A/\Z7 K CL H A vs ds/\(match F ds with
  |.ok d=>∀ v H',A1 H H'->Fn K CL fr H A H' v d->Q v H'
  |.exn x=>∀ cls dx H',A1 H H'->Jx K CL H' cls dx x->E cls dx H'
  | .bad=>BV)
def EKW(K:Fg)(CL:ClA)(A:Am->Prop)(W:XW):XK:=λcls dx H'=>∃ x,Jx K CL H' cls dx x/\W x H'
theorem J9.plain{K:Fg}{H:Hp}{A:Am->Prop}:∀{vs:Ac V}{ds:Ac D},J9 K CL H A vs ds->Z7 K CL H A0 vs ds
 |[],[],h=>trivial
 |_::_,_::_,h=>⟨h.1.plain,J9.plain h.2⟩
 |[],_::_,h=>h.elim
 |_::_,[],h=>h.elim
theorem zA{sh:Rho->Al}(G:û X.prog X.w X.K X.mg X.base CX k f fd ps (spD X.K CL n fr F))(hr:gV k X.A)(hg:Gl X x)(hm:X.mg x=Ab (.ref f))(hk:DY X.K (.ref f)=Aa)(hb:Jp X.K fd ps [])(hx:∀ A,MH CX X (EKW X.K CL A W))(ha:SA X CL W (e::es) fs)(hat:τ X CL W (e::es) ft)(Ϡ:∀ U,sh U=Aa->ft U=fs U)(hn:∀ U ds,ft U=.ok ds->ds.length=n)(Ï:(x==("__debug__" : An))=Ae)(he:AN (e::es) X.env=(Ae,eval e X.env)::AN es X.env)(è:∀ pos,(C8 pos (AN es X.env)).any (·.1)=Ae):SC X CL W fr (.Call (.Name x p) (e::es) [] pos) (λU=>(ft U).bind λds=>(F ds).bind λd=>if sh U=Aa then .ok d else if MX fr d=Aa then .ok d else .bad):=λA pI s Y H Q I ⟨hA,U,gd,q⟩=>by
 dsimp only at q;by_cases hs:sh U=Aa
 .rw[Ϡ U hs]at q;refine W2 G hr hg hm hk hb .nil (hx A) (ha A) Ï he (è _) pI s Y H Q I ⟨hA,U,gd,?_⟩;cases e1:fs U with
  |bad=>rw[e1]at q;exact q
  |exn y=>rw[e1]at q;exact q
  |ok ds=>
   rw[e1]at q;intro vs H1 s1 r1;refine⟨ds,A,by rw[Eo,r1.length];exact hn U ds (by rw[Ϡ U hs];exact e1),hA.same s1,by rw[Eo];exact r1,?_⟩
   have q':BN (Fn X.K CL fr H A) W H ((F ds).bind λd=>if sh U=Aa then .ok d else if MX fr d=Aa then .ok d else .bad) Q:=q
   cases e2:F ds with
   |ok d=>
    rw[e2,R.bind_ok,AC hs]at q';exact λv H2 s2 r2=>q' v H2 (s1.trans s2) ⟨r2.1,λz ū e'=>let ⟨a,xs,z1,z2,z3⟩:=r2.2 z ū e';⟨a,xs,z1,s1.free z2,z3⟩⟩
   |exn y=>rw[e2]at q';exact λcls dx H2 s2 xr=>⟨y,xr,q' H2 (s1.trans s2)⟩
   |bad=>rw[e2]at q';exact q'.elim
 .refine W2 G hr hg hm hk hb .nil (hx A0) (hat A) Ï he (è _) pI s Y H Q I ⟨hA,U,gd,?_⟩;cases e1:ft U with
  |bad=>rw[e1]at q;exact q
  |exn y=>rw[e1]at q;exact q
  |ok ds=>
   rw[e1]at q;intro vs H1 s1 r1;refine⟨ds,A0,by rw[Eo,r1.plain.length];exact hn U ds e1,λ_ z=>z.elim,by rw[Eo];exact r1.plain,?_⟩
   have q':BN (Fn X.K CL fr H A) W H ((F ds).bind λd=>if sh U=Aa then .ok d else if MX fr d=Aa then .ok d else .bad) Q:=q
   cases e2:F ds with
   |ok d=>
    rw[e2,R.bind_ok,AH hs]at q';split at q'
    .rename_i hc;exact λv H2 s2 r2=>q' v H2 (s1.trans s2) (yt hA (s1.trans s2) hc ⟨r2.1,λz ū e'=>let ⟨a,xs,z1,z2,z3⟩:=r2.2 z ū e';⟨a,xs,z1,s1.free z2,z3⟩⟩)
    .exact q'.elim
   |exn y=>rw[e2]at q';exact λcls dx H2 s2 xr=>⟨y,xr,q' H2 (s1.trans s2)⟩
   |bad=>rw[e2]at q';exact q'.elim
end
theorem RK(env:Dc):∀(ns:Ac (An×EV))(Z1:Ac (An×Am)),(∀ x∈ns,x.2=.free->∃ c,env.cells.lookup x.1=Ab c)->(∀ x c,Z1.lookup x=Ab c->env.cells.lookup x=Ab c) ->
  ∃ cl,(forIn ns Z1 fun(x:An×EV)(cs:Ac (An×Am))=>(if (x.2==.free)=Aa then do let c <-cellOf env x.1;pure (Fa ((x.1,c)::cs)) else pure (Fa cs):HU (ForInStep (Ac (An×Am)))))=pure cl /\
   (∀ x c,cl.lookup x=Ab c->env.cells.lookup x=Ab c)/\(∀ x,((x,Ew)∈ns\/∃ c,Z1.lookup x=Ab c)->∃ c,cl.lookup x=Ab c)
 |[],Z1,_,h2=>⟨Z1,by rw[Ee],h2,λx hx=>hx.elim (λz=>nomatch z) id⟩
 |(n,k)::r,Z1,h1,h2=>by
  rw[Ep];by_cases hk:k=.free
  .subst hk;obtain⟨c,hc⟩:=h1 (n,.free) Ax rfl;obtain⟨cl,e,p,q⟩:=RK env r ((n,c)::Z1) (λx hx=>h1 x (Av _ hx)) (λx d hd=>by
    rw[Cq]at hd;split at hd
    .rename_i hx;cases hd;rw[eq_of_beq hx];exact hc
    .exact h2 x d hd)
   refine⟨cl,?_,p,λx hx=>q x ?_⟩
   .have e1:cellOf env n=pure c:=by unfold cellOf;dsimp only at hc;rw[hc]
    rw[AC (by rfl),e1]
    exact e
   .rcases hx with hx|⟨d,hd⟩
    .rcases Aw.mp hx with z|z
     .cases z;exact .inr ⟨c,by simp[Cq]⟩
     .exact .inl z
    .by_cases hxn:x=n
     .exact .inr ⟨c,by subst hxn;simp[Cq]⟩
     .exact .inr ⟨d,by rw[Cq];rw[DJ.mpr hxn];exact hd⟩
  .obtain⟨cl,e,p,q⟩:=RK env r Z1 (λx hx=>h1 x (Av _ hx)) h2
   refine⟨cl,?_,p,λx hx=>q x ?_⟩
   .rw[AH (by simpa using hk)]
    exact e
   .rcases hx with hx|hx
    .rcases Aw.mp hx with z|z
     .cases z;exact absurd rfl hk
     .exact .inl z
    .exact .inr hx
theorem VB(h:∀ x∈scope.names,x.2=.free->∃ c,env.cells.lookup x.1=Ab c):∃ cl,closureFor scope env=pure cl/\(∀ x c,cl.lookup x=Ab c->env.cells.lookup x=Ab c)/\∀ x,(x,Ew)∈scope.names->∃ c,cl.lookup x=Ab c:=by
 obtain⟨cl,e,p,q⟩:=RK env scope.names [] h (λx c z=>by simp at z)
 refine⟨cl,?_,p,λx hx=>q x (.inl hx)⟩
 unfold closureFor
 first
  |exact e
  |(simp only[bind_pure];exact e)
  |(rw[show (forIn scope.names ([]:Ac (An×Am)) _:HU _)=pure cl from e];rfl)
theorem R7:∀(names:Ac (An×EV))(h:AS)(Z1:Ac (An×Am))(x:An)(c:Am),(DZ h.objs.size names Z1).lookup x=Ab c->Z1.lookup x=Ab c\/((x,Cw)∈names/\h.objs.size<=c/\(HR h names).IsCell c Af)
 |[],_,_,_,_,e=>.inl e
 |(n,k)::r,h,Z1,x,c,e=>by
  unfold DZ at e;unfold HR;by_cases hk:(k==Cw)=Aa
  .rw[AC hk]at e ⊢;have hs:h.objs.size+1=(h.push { cls:=.type "cell",data:=.cell Af }).objs.size:=(Bg ..).symm;rw[hs]at e;rcases R7 r _ _ x c e with q|⟨q1,q2,q3⟩
   .rw[Cq]at q;cases hx:x==n with
    |true=>
     rw[hx]at q;cases q;refine .inr ⟨?_,AT _,?_⟩
     .rw[eq_of_beq hx,eq_of_beq hk];exact Ax
     .exact⟨_,Jh r _ _ _ (AB _ rfl),rfl⟩
    |false=>rw[hx]at q;exact .inl q
   .exact .inr ⟨Av _ q1,by omega,q3⟩
  .rw[AH hk]at e ⊢;rcases R7 r h Z1 x c e with q|⟨q1,q2,q3⟩
   .exact .inl q
   .exact .inr ⟨Av _ q1,q2,q3⟩
theorem R8:∀(names:Ac (An×EV))(h:AS)(Z1:Ac (An×Am)),(∀ x y c,Z1.lookup x=Ab c->Z1.lookup y=Ab c->x=y)->(∀ x c,Z1.lookup x=Ab c->c<h.objs.size)->∀ x y c,(DZ h.objs.size names Z1).lookup x=Ab c->(DZ h.objs.size names Z1).lookup y=Ab c->x=y
 |[],_,_,i,_,x,y,c,e1,e2=>i x y c e1 e2
 |(n,k)::r,h,Z1,i,b,x,y,c,e1,e2=>by
  unfold DZ at e1 e2;by_cases hk:(k==Cw)=Aa
  .rw[AC hk]at e1 e2;have hs:h.objs.size+1=(h.push { cls:=.type "cell",data:=.cell Af }).objs.size:=(Bg ..).symm;rw[hs]at e1 e2;have look:∀ z d,Z_9 z ((n,h.objs.size)::Z1)=Ab d->(z=n/\d=h.objs.size)\/(z≠n/\Z1.lookup z=Ab d):=λz d q=>by
    rw[Cq]at q;cases hx:z==n with
    |true=>rw[hx]at q;cases q;exact .inl ⟨eq_of_beq hx,rfl⟩
    |false=>rw[hx]at q;exact .inr ⟨λe=>by rw[e]at hx;simp at hx,q⟩
   refine R8 r _ _ (λz z' d q q'=>?_) (λz d q=>?_) x y c e1 e2
   .rcases look z d q with ⟨rfl,q1⟩|⟨_,q1⟩<;>rcases look z' d q' with ⟨rfl,q2⟩|⟨_,q2⟩
    .rfl
    .exact absurd (b _ _ q2) (by rw[q1];exact BK _)
    .exact absurd (b _ _ q1) (by rw[q2];exact BK _)
    .exact i _ _ _ q1 q2
   .rw[<-hs];rcases look z d q with ⟨_,q1⟩|⟨_,q1⟩
    .rw[q1];exact ES _
    .exact CA (b _ _ q1)
  .rw[AH hk]at e1 e2;exact R8 r h Z1 i b x y c e1 e2
theorem RN:∀(names:Ac (An×EV))(n:Ag)(Z1:Ac (An×Am))(x:An),(x,Cw)∉names->(DZ n names Z1).lookup x=Z1.lookup x
 |[],_,_,_,_=>rfl
 |(m,k)::r,n,Z1,x,hx=>by
  unfold DZ;have hr:(x,Cw)∉r:=λz=>hx (Av _ z)
  by_cases hk:(k==Cw)=Aa
  .rw[AC hk,RN r _ _ x hr,Cq];cases q:x==m with
   |true=>exact absurd (by rw[eq_of_beq q,eq_of_beq hk];exact Ax) hx
   |false=>rfl
  .rw[AH hk];exact RN r n Z1 x hr
theorem R9(n0:Ag):∀(names:Ac (An×EV))(n:Ag)(Z1:Ac (An×Am))(x:An),n0<=n->((x,Cw)∈names\/∃ c,Z1.lookup x=Ab c/\n0<=c)->∃ c,(DZ n names Z1).lookup x=Ab c/\n0<=c
 |[],_,_,_,_,h=>h.elim (λz=>nomatch z) id
 |(m,k)::r,n,Z1,x,hn,h=>by
  unfold DZ;by_cases hk:(k==Cw)=Aa
  .rw[AC hk];refine R9 n0 r _ _ x (by omega) ?_
   by_cases hx:(x==m)=Aa
   .exact .inr ⟨n,by rw[Cq,hx],hn⟩
   .rcases h with h|⟨c,h,hc⟩
    .rcases Aw.mp h with z|z
     .cases z;simp at hx
     .exact .inl z
    .exact .inr ⟨c,by rw[Cq];simp only[hx];exact h,hc⟩
  .rw[AH hk];refine R9 n0 r _ _ x hn (h.imp (λh=>?_) id)
   rcases Aw.mp h with z|z
   .cases z;simp at hk
   .exact z
theorem oQ{A:Bm}{E:Vq}(hQ:Q (newEnv scope s.heap.objs.size globals (DZ (s.heap.objs.size+1) scope.names cl) qual Af .none (Ab env) JX) { s with heap:=HR (s.heap.push { cls:=.type "dict",data:=.dict #[] }) scope.names }):AD M A (JO scope globals cl [] qual Af .none (Ab env)) Q E s:=by
 simp only[JO,Option.isSome_some,JQ];refine Ah (wpAny_alloc ?_);refine Ah (wpAny_layCells _ (λname kind cells=>by cases hkc:kind==Cw<;>simp[hkc]) _ _ _ _ ?_)
 rw[show ({ s with heap:=s.heap.push { cls:=.type "dict",data:=.dict #[] } }:At).heap.objs.size=s.heap.objs.size+1 from Bg ..]
 rw[Ee];exact Ah (Az (Az hQ))
noncomputable def í(X:Cx)(scope:CP)(cl:Ac (An×Am))(C:Am)(N':Ac An)(s₀:At)(H₀:Hp)(fp:Ac Am):Cx where
 prog:=X.prog
 w:=X.w
 K:=X.K
 mg:=X.mg
 base:=X.base
 A:=X.A
 N:=N'
 s₀:=s₀
 H₀:=H₀
 env:=compEnvC scope cl C X.env
 outer:=X.stack
 stack:=X.stack
 ex:=fp
 fn:=λx=>scope.names.lookup x==Ab Cw
 calm:=X.calm
 pn:=[]
 xe:=λ_ _=>BV
theorem On{env:Dc}:∀{names:Ac (An×EV)}{x:An}{k:EV},(names.map λ(n,k)=>if (k==Ew&&env.scope.kind==.function&&env.kindOf n==Ab .cell) then (n,Cw) else (n,k)).lookup x=Ab k->names.lookup x=Ab k\/(k=.cell/\names.lookup x=Ab .free)
 |[],_,_,h=>by simp at h
 |(n,j)::r,x,k,h=>by
  have ih:=@On env r x k;have h':Z_9 x ((if (j==Ew&&env.scope.kind==.function&&env.kindOf n==Ab .cell)=Aa then (n,Cw) else (n,j))::(r.map λ(n,k)=>if (k==Ew&&env.scope.kind==.function&&env.kindOf n==Ab .cell) then (n,Cw) else (n,k)))=Ab k:=h
  by_cases hc:(j==Ew&&env.scope.kind==.function&&env.kindOf n==Ab .cell)=Aa
  .rw[AC hc]at h';rw[Cq]at h' ⊢;cases hx:x==n with
   |true=>
    rw[hx]at h';cases h';simp only[Ap]at hc;exact .inr ⟨rfl,by rw[eq_of_beq hc.1.1]⟩
   |false=>rw[hx]at h';exact ih h'
  .rw[AH hc]at h';rw[Cq]at h' ⊢;cases hx:x==n with
   |true=>rw[hx]at h';exact .inl h'
   |false=>rw[hx]at h';exact ih h'
structure k5 (X:Cx) (scope:CP) (N':Ac An) (ts:Ac Ag):Prop where
 kind:scope.kind=.function
 uniq:∀ y∈scope.names,scope.names.lookup y.1=Ab y.2
 names:∀ y∈scope.names,y.2=.local->scope.names.lookup y.1=Ab .local
 free:∀ y∈scope.names,y.2=.free->X.env.scope.names.lookup y.1=Ab .cell\/X.env.scope.names.lookup y.1=Ab .free
 len:N'.length=X.N.length
 same:∀ i x,N'[i]?=Ab x->scope.names.lookup x=Ab .free->i∉ts->X.N[i]?=Ab x
 loc:∀ i x,N'[i]?=Ab x->(scope.names.lookup x=Ab .local\/scope.names.lookup x=Ab .cell)->i∈ts
structure Ζ (X:Cx) (scope:CP) (cl:Ac (An×Am)) (C:Am) (h:AS):Prop where
 own:∀ x c,cl.lookup x=Ab c->X.env.cells.lookup x=Ab c\/(scope.names.lookup x=Ab .cell/\C<c/\h.IsCell c Af)
 inj:∀ x y c,cl.lookup x=Ab c->cl.lookup y=Ab c->x=y
 has:∀ x,scope.names.lookup x=Ab .cell->∃ c,cl.lookup x=Ab c/\C<c
 fr:∀ x,(x,Ew)∈scope.names->∃ c,cl.lookup x=Ab c/\X.env.cells.lookup x=Ab c
noncomputable def hideT(ts:Ac Ag)(Y:L2.St):L2.St:=ts.foldl (λY t=>Y.set t Af) Y
theorem RX:∀(ts:Ac Ag)(Y:L2.St),(hideT ts Y).length=Y.length
 |[],_=>rfl
 |t::ts,Y=>by show (hideT ts (Y.set t Af)).length=_;rw[RX ts,BW]
theorem We:∀(ts:Ac Ag)(Y:L2.St){i:Ag}{v:V},(hideT ts Y)[i]?=Ab (Ab v)->Y[i]?=Ab (Ab v)/\i∉ts
 |[],_,_,_,h=>⟨h,by simp⟩
 |t::ts,Y,i,v,h=>by
  obtain⟨h1,h2⟩:=We ts (Y.set t Af) (i:=i) (v:=v) h;by_cases e:t=i
  .subst e;have:=IP h1;cases this
  .rw[DB e]at h1;exact⟨h1,by simp only[Aw,DR];exact⟨λz=>e z.symm,h2⟩⟩
theorem pO{fp:Ac Am}(I:Z6 X pI Y H s)(B:k5 X scope N' ts)(hf:∀ b∈fp,HJ X pI H b)(ņ:∀ b∈fp,b<s.heap.objs.size)(hb:Ζ X scope cl C h')(hk:∀ b o,s.heap.get? b=Ab o->h'.get? b=Ab o)(hC:s.heap.objs.size<=C)(hn:h'.Ns C m):Z6 (í X scope cl C N' s H fp) [] (hideT ts Y) H {s with heap:=h',toks:=tk}:=by
 have stf:∀ b∈fp,b∉å X.stack:=λb hb z=>by
  rcases Aw.mp (I.stkSub b z) with e|e
  .exact(hf b hb).2.1 e
  .exact(hf b hb).2.2.1 e
 have frOf:∀ x,((relabel scope X.env).names.lookup x=Ab .cell\/(relabel scope X.env).names.lookup x=Ab .free)->scope.names.lookup x=Ab .free\/scope.names.lookup x=Ab .cell:=λx hx=>by
  rcases hx with z|z
  .rcases On z with z|⟨_,z⟩
   .exact .inr z
   .exact .inl z
  .rcases On z with z|⟨z,_⟩
   .exact .inl z
   .cases z
 have gtC:∀ c:Am,C<c->s.heap.objs.size<=c:=λc z=>BZ hC (Ei z)
 have cellK:∀ c v,s.heap.IsCell c v->h'.IsCell c v:=λc v ⟨o,ho,hd⟩=>⟨o,hk _ _ ho,hd⟩
 refine⟨⟨I.ok.mod,B.kind,I.ok.glob,I.ok.blt,hC,hb.inj,λx hx=>?_,λx c h e=>?_,I.ok.hd,I.ok.frames,.inl rfl,λb Ņ=>⟨?_,λx c e=>?_⟩,I.bs,BZ I.ok.bsz I.sz,λb o e Ņ=>?_,stf,I.stack,I.stkFree⟩,rfl,I.bare,Un.kept hk,⟨m,hn,λi x v h1 h2 h3=>?_⟩,λx c e=>?_,I.hok.fresh hC,λx c e=>(hb.own x c e).elim (I.freeC x c) (λz=>I.hok.fresh (gtC c z.2.1)),λp hp=>absurd (show p∈([]:Pn) from hp) (by simp),I.hok.kept hk,?_⟩
 .rcases frOf x hx with z|z
  .obtain⟨c,q,_⟩:=hb.fr x (Dd z);exact⟨c,q⟩
  .obtain⟨c,q,_⟩:=hb.has x z;exact⟨c,q⟩
 .obtain⟨c',q,z⟩:=hb.has x (eq_of_beq h);have e':cl.lookup x=Ab c:=e;rw[q]at e';cases e';exact gtC _ z
 .intro z;have z':b=C:=z;have:=ņ b Ņ;rw[z']at this;exact absurd (AF this hC) (BK _)
 .rcases hb.own x c e with z|z
  .exact(hf b Ņ).2.2.2.2.1 x c z
  .intro q;have:=ņ b Ņ;have:=gtC c z.2.1;rw[q]at this;exact absurd ‹b<_› (Fe.mpr this)
 .rcases (hf b Ņ).2.2.2.1 with z|z
  .exact I.ok.noex b o e z
  .exact absurd (AF (AE e) (BZ I.ok.bsz z)) (BK _)
 .obtain⟨h2,hts⟩:=We ts Y h2;have h3':(relabel scope X.env).names.lookup x=Ab .local\/(relabel scope X.env).names.lookup x=Ab .cell\/(relabel scope X.env).names.lookup x=Ab .free:=h3;have h1':N'[i]?=Ab x:=h1;rcases h3' with z|z
  .rcases On z with z|⟨z,_⟩
   .exact absurd (B.loc i x h1' (.inl z)) hts
   .cases z
  .have fr:=(frOf x z).resolve_right λq=>hts (B.loc i x h1' (.inr q))
   have hm:=Dd fr;have hX:=B.same i x h1' fr hts;obtain⟨m0,hn0,hl0⟩:=I.loc;obtain⟨u,ru,lk⟩:=hl0 i x v hX h2 (by
    rcases B.free _ hm rfl with q|q
    .exact .inr (.inl q)
    .exact .inr (.inr q))
   refine⟨u,ru,?_⟩;obtain⟨c,hc,hcX⟩:=hb.fr x hm;rcases lk with ⟨q,_⟩|⟨_,c',ϋ,ϟ⟩
   .have q':X.env.scope.names.lookup x=Ab .local:=q;rcases B.free _ hm rfl with p|p
    .rw[show X.env.scope.names.lookup x=_ from p]at q';cases q'
    .rw[show X.env.scope.names.lookup x=_ from p]at q';cases q'
   .have e:=hcX;rw[ϋ]at e;cases e;exact .inr ⟨z,c,hc,cellK _ _ ϟ⟩
 .rcases hb.own x c e with z|z
  .obtain⟨v,q⟩:=I.cell x c z;exact⟨v,cellK _ _ q⟩
  .exact⟨_,z.2.2⟩
 .show (hideT ts Y).length=N'.length;rw[RX,I.len,B.len]
theorem VL{D:Am}{Y':L2.St}{ys:Ac Aj}(I:Z6 X pI Y H s)(hf:∀ b∈fp,HJ X pI H b)(I':Z6 (í X scope cl C N' s H fp) Ò Y' H' s')(hD:s.heap.objs.size<=D)(ŭ:D≠C)(hC:s.heap.objs.size<=C)(hd:s'.heap.get? D=Ab { cls:=.type "list",data:=.seq ys.toArray n })(ĥ:H' D=Af)(rv:Bl xs ys)(hz:xs.length<=sizeLine)(hs:FA C s'.heap ϭ):Z6 X pI Y (upd H' D (.L xs)) {s' with heap:=ϭ}:=by
  have u:Un (å X.stack) fp H H' s.heap s'.heap:=I'.base;have lt:∀ b o,s.heap.get? b=Ab o->b≠C/\b≠D:=λb o e=>⟨λz=>absurd (AF (AE e) (z ▸ hC)) (BK _),λz=>absurd (AF (AE e) (z ▸ hD)) (BK _)⟩
  have HD:H D=Af:=I.hok.fresh hD;have hCn:H' C=Af:=I'.free;have kb:∀ b o,b≠C->s'.heap.get? b=Ab o->ϭ.get? b=Ab o:=λb o hb e=>(hs.2 b hb).trans e
  have u2:Un (å X.stack) fp H (upd H' D (.L xs)) s.heap ϭ:=⟨λb o e q hb hx=>kb b o (lt b o e).1 (u.keep b o e q hb hx),λb o e q hb hx=>by
      obtain⟨sl,e1⟩:=u.slot b o e q hb hx;exact⟨sl,kb b _ (lt b o e).1 e1⟩,λb o e q hx=>by rw[DM (lt b o e).2];exact u.free b o e q hx,λb o e hx=>by
      obtain⟨o',e1⟩:=u.there b o e hx;exact⟨o',kb b _ (lt b o e).1 e1⟩,λb zs q=>by rw[DM (GQ q HD)];exact u.tups b zs q,λb o zs q=>by rw[DM (GQ q HD)];exact u.frzs b o zs q,λb ps q=>by rw[DM (GQ q HD)];exact u.tbls b ps q⟩
  have hok:ì X.prog X.w (upd H' D (.L xs)) ϭ:=λb o e=>by
    by_cases hb:b=D
    · subst hb;rw[J3]at e;cases e;exact⟨hz,ys,n,rv,kb _ _ ŭ hd⟩
    · rw[DM hb]at e;refine(I'.hok b o e).stay (λc v hc q=>kb c v ?_ q) (λc q=>by rw[DM (GQ q ĥ)];exact q) λc zs q=>by rw[DM (GQ q ĥ)];exact q
      rcases hc with rfl|hc
      · exact GQ e hCn
      · exact GQ hc hCn
  exact I.call' (s':={s' with heap:=ϭ}) (ch:=fp) I'.os u2 hok I'.bare λb hb=>⟨(hf b hb).2.2.2.1,(hf b hb).2.1,(hf b hb).2.2.2.2.1,(hf b hb).2.2.2.2.2⟩
def ġ(X:Cx)(ifs:Ac Aq)(tt:TT):Prop:=∀(pI:Pn)(s:At)(Y:L2.St)(H:Hp)(Q:Al->Hp->Prop),Z6 X pI Y H s->tt Y H Q ->
 AD (model X.prog X.w) X.A (forIn ifs Aa λc r=>if r=Aa then do let ok <-JN c X.env (eval c X.env);pure (Fa ok) else pure (Fa r)) (TP X pI Y Q) X.xe s
theorem xA:ġ X [] (λY H Q=>Q Aa H):=λpI s Y H Q I h=>wpAny_tests_nil ⟨H,I,h⟩
theorem yI(h:PT X c t):ġ X [c] t:=λpI s Y H Q I q=>wpAny_tests_one (h pI s Y H Q I q)
theorem qW{D:Am}{ys:Ac Aj}{E:Vq}{Q:Vq}(I:Z6 X ((D,{ cls:=.type "list",data:=.seq ys.toArray n })::pI) Y H s)(hD:X.s₀.heap.objs.size<=D)(hp:∀ p∈X.pn++pI,p.1≠D)(hc:∀ x c,X.env.cells.lookup x=Ab c->c≠D)(hz:ys.length<=sizeLine)(h:∀ s',Z6 X ((D,{ cls:=.type "list",data:=.seq (ys++[y]).toArray (n+1) })::pI) Y H s'->(∀ b o,b≠D->s.heap.get? b=Ab o->s'.heap.get? b=Ab o)->Q .none s'):AD (model X.prog X.w) X.A (call (.builtin "list.append") [.ref D,y]) Q E s:=by
 obtain⟨e,hn,hL,hfs,_⟩:=I.pin (D,{ cls:=.type "list",data:=.seq ys.toArray n }) (BH _ Ax);refine append_at (hsz:=by rw[AJ];exact hz) e λh' hs hd=>?_
 have hd':h'.get? D=Ab { cls:=.type "list",data:=.seq (ys++[y]).toArray (n+1) }:=by rw[hd];simp
 have kb:∀ b o,b≠D->s.heap.get? b=Ab o->h'.get? b=Ab o:=λb o hb q=>(hs.2 b hb).trans q
 have I0:Z6 X pI Y H s:=I.pins_of λp hp=>I.pin p (BH _ (Av _ hp))
 have I1:Z6 X pI Y H {s with heap:=h'}:=I0.turned (t':=s.toks) kb hn hL (.inr hD) hc hp
 refine h _ (I1.pins_of λp hp=>?_) kb
 rcases Aw.mp hp with rfl|hp
 .exact⟨hd',hn,hL,hfs,λv z=>by
   have z':Ni _ _=Nf v:=z;cases z'⟩
 .exact I1.pin p (BH _ hp)
theorem pM{scope:CP}{env:Dc}{prog:A6}{w:AM}{A:Bm}{R:Kq->At->Prop}{s:At}{target:Aq}{it Z1:Aj}(I:Ag->At->Prop)(turn:∀ n s,I n s->AD (model prog w) A (Ek it) (λr s₁=>match r with
      |none=>R (.ok .next) s₁
      | some v=>AD (model prog w) A (Hh target it v) (λ_ s₁'=>AD (model prog w) A (assign target env v) (λ_ s₂=>
          AD (model prog w) A (forIn ifs Aa λc r=>if r=Aa then do let ok <-JN c env (eval c env);pure (Fa ok) else pure (Fa r)) (λok s₃=>
            if ok=Aa then AD (model prog w) A (eval elt env) (λx s₄=>
              AD (model prog w) A (call (.builtin "list.append") [Z1,x]) (λ_ s₅=>∃ m,m<n/\I m s₅) (JP (model prog w) A env λe s'=>R (.error e) s') s₄) (JP (model prog w) A env λe s'=>R (.error e) s') s₃
            else ∃ m,m<n/\I m s₃) (JP (model prog w) A env λe s'=>R (.error e) s') s₂) (JP (model prog w) A env λe s'=>R (.error e) s') s₁') (JP (model prog w) A env λe s'=>R (.error e) s') s₁) (JP (model prog w) A env λe s'=>R (.error e) s') s)(n:Ag)(h:I n s):F0 (model prog w) A (.compLoop (.ListComp elt [⟨target,iter,ifs,0⟩] scope pos) 0 it Z1 env) R s:=by
  refine codeAny_loop rfl I (λn s hI=>?_) n h
  show AD _ A ((compTurn (.ListComp elt [⟨target,iter,ifs,0⟩] scope pos) 0 it Z1 env).onRaise (λx=>do KA x env;theTreesLotGoes x)) _ _ s
  refine wpAny_noted ?_;rw[compTurn_list];refine Ah (Kn (Ah (C3 (turn n s hI) (λr s₁ h₁=>?_) λ_ _ h'=>h')))
  cases r with
  |none=>exact Az h₁
  |some v=>
    refine Ah (C3 h₁ (λ_ s₁' h₁'=>?_) λ_ _ h'=>h')
    refine Ah (C3 h₁' (λ_ s₂ h₂=>Ah (C3 h₂ (λok s₃ h₃=>?_) λ_ _ h'=>h')) λ_ _ h'=>h')
    cases ok with
    |false=>exact Az ⟨rfl,h₃⟩
    |true=>
      exact Ah (Ah (C3 h₃ (λx s₄ h₄=>Ah (C3 h₄ (λ_ s₅ h₅=>Az (Az ⟨rfl,h₅⟩)) λ_ _ h'=>h')) λ_ _ h'=>h'))
def NK(J:It)(ts:Ac Ag)(g:TG)(tt:TT)(te:TE)(Y:L2.St)(H:Hp)(Q:VK):Prop:=∃ W:Ag->Ag->Ac V->L2.St->Hp->Prop,(∃ m,W 0 m [] (hideT ts Y) H)/\∀ i m xs Y H,W i m xs Y H ->
 (J.stop i H/\∀ p,H p=Af->Q (.ref p) (upd H p (.L xs))) \/
 (J.go i H/\xs.length<sizeLine/\∀ x H',J.yld i H x H'->g x Y H' λY2 H2=>tt Y2 H2 λb H3=>if b=Aa then te Y2 H3 λy H4=>∃ m',m'<m/\W (i+1) m' (xs++[y]) Y2 H4 else ∃ m',m'<m/\W (i+1) m' xs Y2 H3)
theorem WT{E:Vq}{RR:Aj->Am->Kq->At->Prop}(hc:X.calm=Aa)(B:k5 X scope N' ts)(I:Z6 X pI Y H s)(T:Ϫ X.prog X.w X.K tg J fp it tn)(st:tn 0 s.heap)(hf:∀ b∈fp,HJ X pI H b)(Ϻ:∀ x c,cl.lookup x=Ab c->X.env.cells.lookup x=Ab c)(Χ:∀ x,(x,Ew)∈scope.names->∃ c,cl.lookup x=Ab c)(hg:∀ cl C s H,PG (í X scope cl C N' s H fp) tg g)(ht:∀ cl C s H,ġ (í X scope cl C N' s H fp) ifs tt)(he:∀ cl C s H,PE (í X scope cl C N' s H fp) elt te)(h:NK J ts g tt te Y H Q)(hRR:∀ cl D C s' H' Y' Ò xs ys n m,Z6 (í X scope cl C N' s H fp) Ò Y' H' s'->s'.heap.get? D=Ab { cls:=.type "list",data:=.seq (BP ys) n }->H' D=Af->Bl xs ys->xs.length<=sizeLine->s.heap.objs.size<=D->D≠C->s.heap.objs.size<=C->s'.heap.Ns C m->Q (.ref D) (upd H' D (.L xs))->RR (.ref D) C (.ok .next) s'):AD (model X.prog X.w) X.A (newList []) (λZ1 s₃=>AD (model X.prog X.w) X.A (JO scope X.env.globals cl [] X.env.qual Af .none (Ab X.env)) (λcenv s₄=>F0 (model X.prog X.w) X.A (.compStart (.ListComp elt [⟨tg,iter,ifs,0⟩] scope pos) 0 (.ref it) Z1 {cenv with scope:=relabel scope X.env}) (RR Z1 cenv.locals) s₄) E s₃) E s:=by
 refine C4 (oQ ?_);dsimp only;generalize hH2:s.heap.push { cls:=.type "list",dict:=Af,data:=.seq ([]:Ac Aj).toArray }=H2;have Ă:(HR (H2.push { cls:=.type "dict",data:=.dict #[] }) scope.names).Ns H2.objs.size (λ_=>Af):=(Heap.Ns.new H2 (.type "dict")).keeps (Jh _ _)
 have ň:∀ b o,H2.get? b=Ab o->(HR (H2.push { cls:=.type "dict",data:=.dict #[] }) scope.names).get? b=Ab o:=λb o e=>Jh _ _ b o (Ar _ e)
 have ű:=R7 scope.names (H2.push { cls:=.type "dict",data:=.dict #[] }) cl;have Ň:=R8 scope.names (H2.push { cls:=.type "dict",data:=.dict #[] }) cl;rw[Bg]at ű Ň;generalize hcl':DZ (H2.objs.size+1) scope.names cl=Í at ű Ň;have hcf:∀ x,(x,Cw)∉scope.names->Í.lookup x=cl.lookup x:=λx hx=>by rw[<-hcl'];exact RN _ _ _ x hx
 have ό:∀ x,(x,Cw)∈scope.names->∃ c,Í.lookup x=Ab c/\H2.objs.size+1<=c:=λx hx=>by rw[<-hcl'];exact R9 _ _ _ _ x (AT _) (.inl hx)
 generalize hh₁:HR (H2.push { cls:=.type "dict",data:=.dict #[] }) scope.names=h₁ at Ă ň ű;have hC:H2.objs.size=s.heap.objs.size+1:=by rw[<-hH2,Bg]
 have Υ:s.heap.objs.size<=H2.objs.size:=by rw[hC];exact HM _
 have ŭ:s.heap.objs.size≠H2.objs.size:=by rw[hC];exact AZ (ES _)
 have below:∀ b,b<s.heap.objs.size->b≠H2.objs.size:=λb hb=>by rw[hC];exact AZ (CA hb)
 have old:∀ b o,s.heap.get? b=Ab o->h₁.get? b=Ab o:=λb o e=>ň b o (hH2 ▸ Ar _ e)
 have Ń:h₁.get? s.heap.objs.size=Ab { cls:=.type "list",data:=.seq ([]:Ac Aj).toArray 0 }:=ň _ _ (hH2 ▸ AB _ rfl);have clt:∀ x c,cl.lookup x=Ab c->c<s.heap.objs.size:=λx c e=>by
  obtain⟨v,q⟩:=I.cell x c (Ϻ x c e);exact q.lt
 have bc:Ζ X scope Í H2.objs.size h₁:=by
  refine⟨λx c e=>?_,Ň (λx y c e1 e2=>I.ok.inj x y c (Ϻ x c e1) (Ϻ y c e2)) (λx c e=>CA (AF (clt x c e) Υ)),λx hx=>?_,λx hx=>?_⟩
  .rcases ű x c e with q|⟨q1,q2,q3⟩
   .exact .inl (Ϻ x c q)
   .exact .inr ⟨B.uniq _ q1,q2,q3⟩
  .have hm:=Dd hx;obtain⟨c,e,hc⟩:=ό x hm;exact⟨c,e,hc⟩
  .have hno:(x,Cw)∉scope.names:=λz=>by
    have e1:=B.uniq _ hx;have e2:=B.uniq _ z;rw[show scope.names.lookup x=_ from e1]at e2
    cases e2
   obtain⟨c,e⟩:=Χ x hx;exact⟨c,by rw[hcf x hno];exact e,Ϻ x c e⟩
 have ņ:∀ b∈fp,b<s.heap.objs.size:=λb hb=>by
  obtain⟨o,e,_⟩:=T.obj 0 _ st b hb;exact AE e
 generalize hD:s.heap.objs.size=D at *;generalize hC':H2.objs.size=C at *;have I0:Z6 (í X scope Í C N' s H fp) [] (hideT ts Y) H {s with heap:=h₁,toks:=s.toks+([]:Ac (An×Aj)).length}:=pO (tk:=s.toks+([]:Ac (An×Aj)).length) I B hf (λb hb=>by rw[hD];exact ņ b hb) bc old (by rw[hD];exact Υ) Ă
 have nD:H D=Af:=I.hok.fresh (by rw[hD];exact AT _)
 have noD:∀ b∈fp,b≠D:=λb hb=>AZ (ņ b hb)
 have noC:∀ b∈fp,b≠C:=λb hb=>below b (ņ b hb)
 have stfs:D∉å X.stack:=λz=>by
  obtain⟨_,o,ho,_⟩:=I.stack.mem z;exact absurd (AE ho) (by rw[hD];exact BK _)
 have cD:∀ x c,Í.lookup x=Ab c->c≠D:=λx c e z=>by
  rcases bc.own x c e with q|⟨_,q,_⟩
  .obtain⟨v,q⟩:=I.cell x c q;exact absurd q.lt (by rw[z,hD];exact BK _)
  .rw[z]at q;exact absurd (AF q Υ) (BK _)
 have I1:Z6 (í X scope Í C N' s H fp) [(D,{ cls:=.type "list",data:=.seq ([]:Ac Aj).toArray 0 })] (hideT ts Y) H {s with heap:=h₁,toks:=s.toks+([]:Ac (An×Aj)).length}:=I0.pins_of λp hp=>by
  have e:=AQ.mp hp;subst e;exact⟨Ń,nD,ŭ,stfs,λv z=>by
   have z':Ni _ _=Nf v:=z;cases z'⟩
 have st1:tn 0 h₁:=T.keep _ _ _ st λb _ o e=>old b o e
 obtain⟨W,⟨m0,w0⟩,turn⟩:=h;have fpk:∀{pl:Pn}{H':Hp},(∀ p∈pl,p.1=D)->(∀ b∈fp,H' b=Af)->∀ b∈fp,HJ (í X scope Í C N' s H fp) pl H' b:=λ{pl H'} hp hn b hb=>
  ⟨hn b hb,noC b hb,λz=>by
   rcases Aw.mp (I.stkSub b z) with e|e
   .exact(hf b hb).2.1 e
   .exact(hf b hb).2.2.1 e,.inl hb,λx c e=>(bc.own x c e).elim ((hf b hb).2.2.2.2.1 x c) (λz q=>absurd (Ce Υ z.2.1) (Fe.mpr (by rw[q];exact Ei (ņ b hb)))),λp hp'=>by
   have Ö:p∈pl:=hp';rw[hp p Ö];exact(noD b hb).symm⟩
 have loop:∀ s₃:At,s₃={s with heap:=h₁,toks:=s.toks+([]:Ac (An×Aj)).length} ->
   F0 (model X.prog X.w) X.A (.compLoop (.ListComp elt [⟨tg,iter,ifs,0⟩] scope pos) 0 (.ref it) (.ref D) (compEnvC scope Í C X.env)) (RR (.ref D) C) s₃:=by
  rintro s₃ rfl;refine pM (λk s'=>∃ i Y' H' xs ys n,Z6 (í X scope Í C N' s H fp) [(D,{ cls:=.type "list",data:=.seq (BP ys) n })] Y' H' s'/\tn i s'.heap/\(∀ b∈fp,H' b=Af)/\Bl xs ys/\xs.length<=sizeLine/\W i k xs Y' H') ?_ m0
   ⟨0,_,H,[],[],0,I1,st1,λb hb=>(hf b hb).1,.nil,CC _,w0⟩
  rintro k s' ⟨i,Y',H',xs,ys,n,I',ÿ,fr',rv,hz,w'⟩;have one:∀ p∈[((D,{ cls:=.type "list",data:=.seq (BP ys) n }):Am×Dr)],p.1=D:=λp hp=>by rw[AQ.mp hp]
  rcases turn i k xs Y' H' w' with ⟨stop,q⟩|⟨go,ô,step⟩
  .refine C3 (T.done (í X scope Í C N' s H fp) rfl rfl rfl hc i _ s' Y' H' (λ_ _=>BV) I' (fpk one fr') ÿ stop) (λr s1 ⟨hr,J1⟩=>?_) λ_ _ f=>f.elim
   subst hr;obtain⟨e,hn,_⟩:=J1.pin _ (BH _ Ax);obtain⟨m,hm,_⟩:=J1.loc;exact hRR Í D C s1 H' Y' _ xs ys n m J1 e hn rv hz (AT _) ŭ Υ hm (q D hn)
  .refine C3 (T.item (í X scope Í C N' s H fp) rfl rfl rfl hc i _ s' Y' H' (λ_ _=>BV) I' (fpk one fr') ÿ go) (λr s1 ⟨u,hr,h4⟩=>?_) λ_ _ f=>f.elim
   subst hr;refine C3 h4 (λ_ s5 ⟨x,H5,I5,r5,y5,ŕ,fr5⟩=>?_) λ_ _ f=>f.elim
   have I5':=I5.pinned (fpk one fr5) (T.obj _ _ ŕ);refine C3 (hg Í C s H _ s5 Y' H5 x u _ I5' r5 (step x H5 y5)) (λ_ s6 ⟨Y6,H6,I6,q6⟩=>?_) λ_ _ f=>f.elim
   refine C3 (ht Í C s H _ s6 Y6 H6 _ I6 q6) (λok s7 ⟨H7,I7,q7⟩=>?_) λ_ _ f=>f.elim
   have again:∀{s8:At}{H8:Hp}{ys':Ac Aj}{n':Ag},Z6 (í X scope Í C N' s H fp) ((D,{ cls:=.type "list",data:=.seq (BP ys') n' })::LF fp s5.heap) Y6 H8 s8->Z6 (í X scope Í C N' s H fp) [(D,{ cls:=.type "list",data:=.seq (BP ys') n' })] Y6 H8 s8/\tn (i+1) s8.heap/\∀ b∈fp,H8 b=Af:=λ{s8 H8 ys' n'} I8=>
    ⟨I8.pins_of λp hp=>I8.pin p (BH _ (by rw[AQ.mp hp];exact Ax)),T.keep _ _ _ ŕ λb hb o e=>(I8.pin (b,o) (BH _ (Av _ (OQ hb e)))).1,λb hb=>by
     obtain⟨o,e,d⟩:=T.obj _ _ ŕ b hb;exact(I8.pin (b,o) (BH _ (Av _ (OQ hb e)))).2.1⟩
   cases ok with
   |false=>
    rw[AH (by decide)]at q7
    obtain⟨m',hm,w7⟩:=q7;obtain⟨a1,a2,a3⟩:=again I7;rw[AH (by decide)]
    exact⟨m',hm,i+1,Y6,H7,xs,ys,n,a1,a2,a3,rv,hz,w7⟩
   |true=>
    rw[AC rfl]at q7;rw[AC rfl];refine C3 (he Í C s H _ s7 Y6 H7 _ I7 q7) (λval s8 ⟨y,H8,I8,r8,m',hm,w8⟩=>?_) λ_ _ f=>f.elim
    have hl:=rv.length;refine qW (X:=í X scope Í C N' s H fp) (ys:=ys) (n:=n) (pI:=LF fp s5.heap) I8 (by show s.heap.objs.size<=D;rw[hD];exact AT _) (λp hp=>?_) cD (by omega) λs9 I9 kb=>?_
    .have Ö:p∈LF fp s5.heap:=hp;exact noD _ (V7 Ö).1
    .obtain⟨a1,a2,a3⟩:=again I9;exact⟨m',hm,i+1,Y6,H8,xs++[y],ys++[val],n+1,a1,a2,a3,rv.append (.cons r8 .nil),by rw[BE];exact ô,w8⟩
 exact codeAny_compStart_list (loop _ rfl) (T.self _ 0 _ _ _ st1 (loop _ rfl))
theorem xI(hc:X.calm=Aa)(B:k5 X scope N' ts)(hi:PI X tg iter wi)(hg:∀ cl C s H fp,PG (í X scope cl C N' s H fp) tg g)(ht:∀ cl C s H fp,ġ (í X scope cl C N' s H fp) ifs tt)(he:∀ cl C s H fp,PE (í X scope cl C N' s H fp) elt te)(hs:∀ x,DF iter X.env x=pure x):PE X (.ListComp elt [⟨tg,iter,ifs,0⟩] scope pos) (λY H Q=>wi Y H λJ H1=>NK J ts g tt te Y H1 Q):=by
 intro pI s Y H Q I h;obtain⟨cl,Ψ,Ϻ,Χ⟩:=VB (scope:=scope) (env:=X.env) λx hx hk=>I.ok.has x.1 ((B.free x hx hk).imp id id)
 rw[eval_ListComp];refine fH (use:=Af) rfl hs Ψ B.kind B.names (LT (hi pI s Y H _ I h) λv s1 h1=>LT h1 λitv s2 h2=>?_)
 obtain⟨it,fp,tn,J,H2,e,I2,T,Ĕ,f2,h3⟩:=h2;subst e;refine WT (RR:=λZ1 C=>compPost (model X.prog X.w) X.A X.xe Af (EP X pI Y Q) Z1 C) hc B I2 T Ĕ f2 Ϻ Χ (λcl C s H=>hg cl C s H fp) (λcl C s H=>ht cl C s H fp) (λcl C s H=>he cl C s H fp) h3 λÍ D C s' H' Y' Ò xs ys n m I' hd ĥ rv hz hD ŭ hC hm q=>?_
 exact⟨m,hm,λϭ ō=>⟨.ref D,_,VL I2 f2 I' hD ŭ hC hd ĥ rv hz ō,rfl,q⟩⟩
theorem xD{n:An}(hc:X.calm=Aa)(B:k5 X scope N' ts)(hi:PI X tg iter wi)(hg:∀ cl C s H fp,PG (í X scope cl C N' s H fp) tg g)(ht:∀ cl C s H fp,ġ (í X scope cl C N' s H fp) ifs tt)(he:∀ cl C s H fp,PE (í X scope cl C N' s H fp) elt te)(hs:∀ x,DF iter X.env x=pure x)(hN:X.N.Nodup)(hni:X.N[i]?=Ab n)(hx:X.env.scope.names.lookup n=Ab .local)(Ŏ:EL (.ListComp elt [⟨tg,iter,ifs,0⟩] scope pos) (Ab (.Name n pos')) pos2.line X.env=pure Aa):PS X (.Assign [.Name n pos'] (.ListComp elt [⟨tg,iter,ifs,0⟩] scope pos) pos2) (Qn (λY H Q=>wi Y H λJ H1=>NK J ts g tt te Y H1 Q) (Gm i)):=by
 intro pI s Y H Dn I h;obtain⟨cl,Ψ,Ϻ,Χ⟩:=VB (scope:=scope) (env:=X.env) λx hx hk=>I.ok.has x.1 ((B.free x hx hk).imp id id)
 rw[exec_Assign_Name_used _ _ _ _ Ŏ];refine Ah (Kn (Ah ?_));show AD _ X.A (do let _ <-comprehension (.ListComp elt [⟨tg,iter,ifs,0⟩] scope pos) scope X.env _ (newList []) Ae (eval iter X.env) (Ab (assign (.Name n pos') X.env))) _ _ s
 refine Ah (C3 (fH (use:=Ab (assign (.Name n pos') X.env)) (Q:=λ_ s'=>SP X pI Dn .next s') rfl hs Ψ B.kind B.names
  (LT (hi pI s Y H _ I h) λv s1 h1=>LT h1 λitv s2 h2=>?_)) (λ_ s' hq=>Az (Az hq)) λ_ _ e=>e)
 obtain⟨it,fp,tn,J,H2,e,I2,T,Ĕ,f2,h3⟩:=h2;subst e;refine WT (RR:=λZ1 C=>compPost (model X.prog X.w) X.A X.xe (Ab (assign (.Name n pos') X.env)) (λ_ s'=>SP X pI Dn .next s') Z1 C) hc B I2 T Ĕ f2 Ϻ Χ (λcl C s H=>hg cl C s H fp) (λcl C s H=>ht cl C s H fp) (λcl C s H=>he cl C s H fp) h3 λÍ D C s' H' Y' Ò xs ys n' m I' hd ĥ rv hz hD ŭ hC hm q=>?_
 have J0:Z6 X pI Y (upd H' D (.L xs)) s':=VL I2 f2 I' hD ŭ hC hd ĥ rv hz (Heap.SameBut.refl ..);refine fG (Vx J0 hN hni (.inl hx) (show Co (.ref D) (.ref D) from rfl) (λŔ J1 ⟨a,sb,ha⟩=>?_) (.inr hx))
 have hC0:X.s₀.heap.objs.size<=C:=BZ I2.sz hC;have hL:C≠X.env.locals:=λz=>absurd (AF I2.lt (z ▸ hC)) (BK _)
 have hcC:∀ x c,X.env.cells.lookup x=Ab c->c≠C:=λx c e z=>by
  obtain⟨v,q'⟩:=I2.cell x c e;exact absurd (AF q'.lt (by rw[z];exact hC)) (BK _)
 have hp:∀ p∈X.pn++pI,p.1≠C:=λp hp z=>absurd (AF (AE (I2.pin p hp).1) (by rw[z];exact hC)) (BK _)
 have hCn:upd H' D (.L xs) C=Af:=by rw[DM ŭ.symm];exact I'.free
 have hCa:C≠a:=by
  rcases ha with rfl|ha
  .exact hL
  .exact λz=>hcC n a ha z.symm
 refine⟨m,hm.sameBut sb hCa,λϭ ō=>⟨_,_,J1.turned (t':=Ŕ.toks) (λb o hb e=>(ō.2 b hb).trans e) hCn hL (.inr hC0) hcC hp,q⟩⟩
theorem Ml:∀(ts:Ac Ag)(U:Rho)(j:Ag),(Gk ts U)[j]?=if j∈ts then (U[j]?).map (λ_=>Af) else U[j]?
 |[],U,j=>by simp[Gk]
 |t::ts,U,j=>by
  show (Gk ts (U.set t Af))[j]?=_;rw[Ml ts];by_cases h1:j∈ts
  .rw[AC h1,AC (Av _ h1)];by_cases h2:t=j
   .subst h2;rw[Gs];cases U[t]?<;>rfl
   .rw[DB h2]
  .rw[AH h1];by_cases h2:t=j
   .subst h2;rw[AC Ax,Gs];cases U[t]?<;>rfl
   .rw[DB h2,AH (by simp only[Aw,DR];exact⟨λz=>h2 z.symm,h1⟩)]
theorem O5:∀(ts:Ac Ag)(U:Rho),(Gk ts U).length=U.length
 |[],_=>rfl
 |t::ts,U=>by show (Gk ts (U.set t Af)).length=_;rw[O5 ts,BW]
theorem RI:∀(ts:Ac Ag)(Y:L2.St){i:Ag},i∉ts->(hideT ts Y)[i]?=Y[i]?
 |[],_,_,_=>rfl
 |t::ts,Y,i,h=>by
  simp only[Aw,DR]at h;show (hideT ts (Y.set t Af))[i]?=_;rw[RI ts _ h.2,DB (λz=>h.1 z.symm)]
theorem Vg:∀(ts:Ac Ag)(ds:Ac D)(U1 U2:Rho),U1.length=U2.length->(∀ j,j∉ts->U1[j]?=U2[j]?)->F4 ts ds U1=F4 ts ds U2
 |[],[],U1,U2,hl,h=>congrArg Ab (Ii λj=>h j (by simp))
 |[],_::_,_,_,_,_=>rfl
 |_::_,[],_,_,_,_=>rfl
 |t::ts,d::ds,U1,U2,hl,h=>by
  refine Vg ts ds _ _ (by rw[BW,BW];exact hl) λj hj=>?_
  by_cases e:t=j
  .subst e;rw[Ik,Ik,AC rfl,AC rfl,hl]
  .rw[DB e,DB e];exact h j (by simp only[Aw,DR];exact⟨λz=>e z.symm,hj⟩)
theorem Ve:∀(ts us:Ac Ag)(ds:Ac D)(U U':Rho),(∀ t∈ts,t∈us)->F4 ts ds U=Ab U'->Gk us U'=Gk us U
 |[],us,[],U,U',_,e=>by cases e;rfl
 |t::ts,us,d::ds,U,U',hs,e=>by
  rw[Ve ts us ds _ U' (λu hu=>hs u (Av _ hu)) e]
  refine Ii λj=>?_
  rw[Ml,Ml];by_cases h:j∈us
  .rw[AC h,AC h,Ik];split
   .rename_i e2;subst e2;split
    .rename_i h3;rw[AR h3];rfl
    .rename_i h3;rw[GZ (by omega)]
   .rfl
  .rw[AH h,AH h,DB];rintro rfl;exact h (hs _ Ax)
 |[],_,_::_,_,_,_,e=>by cases e
 |_::_,_,[],_,_,_,e=>by cases e
section
variable{U':Rho}
theorem U9.less(g:U9 K CL A U Y H)(hl:U'.length=U.length)(h:∀(i:Ag)(d:D)(o:Al),U'[i]?=Ab (Ab (d,o))->U[i]?=Ab (Ab (d,o))):U9 K CL A U' Y H:=⟨λi d e=>g.sh i d (h i d Ae e),λi d e=>g.ow i d (h i d Aa e),hl.trans g.len⟩
theorem U9.put(g:U9 K CL A U Y H)(t:Ag)(r:U8 K CL H A v d):U9 K CL A (U.set t (Ab (d,Ae))) (Y.set t (Ab v)) H:=by
 refine⟨λj e h=>?_,λj e h=>?_,by rw[BW,BW];exact g.len⟩
 .by_cases hj:t=j
  .subst hj;have e1:=IP h;cases e1;have hl:t<Y.length:=by
    rw[<-g.len];have:=(Br.mp h).1;simpa using this
   exact⟨v,by rw[DL hl],r⟩
  .rw[DB hj]at h;obtain⟨w',q,Â⟩:=g.sh j e h;exact⟨w',by rw[DB hj];exact q,Â⟩
 .have hj:t≠j:=by
   rintro rfl;have:=IP h;cases this
  rw[DB hj]at h;obtain⟨a,xs,ds,q,z⟩:=g.ow j e h;exact⟨a,xs,ds,by rw[DB hj];exact q,z⟩
theorem U9.hide(g:U9 K CL A U Y H)(ts:Ac Ag):U9 K CL A (Gk ts U) Y H:=g.less (O5 _ _) λi d o e=>by
 rw[Ml]at e;split at e
 .cases q:U[i]? with
  |none=>rw[q]at e;cases e
  |some x=>rw[q]at e;cases e
 .exact e
theorem U9.hideT(g:U9 K CL A U Y H)(ts:Ac Ag):U9 K CL A (Gk ts U) (hideT ts Y) H:=by
 have key:∀ i x,(Gk ts U)[i]?=Ab (Ab x)->U[i]?=Ab (Ab x)/\i∉ts:=λi x e=>by
  rw[Ml]at e;split at e
  .cases q:U[i]? with
   |none=>rw[q]at e;cases e
   |some x=>rw[q]at e;cases e
  .exact⟨e,by assumption⟩
 refine⟨λi d e=>?_,λi d e=>?_,by rw[O5,RX];exact g.len⟩
 .obtain⟨e1,e2⟩:=key i _ e;obtain⟨v,q,r⟩:=g.sh i d e1;exact⟨v,by rw[RI _ _ e2];exact q,r⟩
 .obtain⟨e1,e2⟩:=key i _ e;obtain⟨a,xs,ds,q,r⟩:=g.ow i d e1;exact⟨a,xs,ds,by rw[RI _ _ e2];exact q,r⟩
end
def GG(K:Fg)(CL:ClA)(ts:Ac Ag)(as:D->Rho->R Rho)(g:TG):Prop:=∀ A U Y H v d U' Q,U9 K CL A (Gk ts U) Y H->U8 K CL H A v d->as d U=.ok U'->(∀ Y',U9 K CL A U' Y' H->U9 K CL A (Gk ts U) Y' H->Q Y' H)->g v Y H Q
theorem zU(i:Ag):GG K CL [i] (λd U=>.ok (U.set i (Ab (d,Ae)))) (Gm i):=λA U Y H v d U' Q g r e k=>by
 cases e;have g2:=g.put i r;have e1:(Gk [i] U).set i (Ab (d,Ae))=U.set i (Ab (d,Ae)):=by
  show (U.set i Af).set i (Ab (d,Ae))=_;rw[aI]
 rw[e1]at g2;refine k _ g2 ?_;have:=g2.hide [i];have e2:Gk [i] (U.set i (Ab (d,Ae)))=Gk [i] U:=by
  show (U.set i _).set i Af=U.set i Af;rw[aI]
 rw[e2]at this;exact this
theorem XR{K:Fg}{A:Am->Prop}{H:Hp}:∀(ts:Ac Ag)(ds:Ac D)(vs:Ac V)(U U':Rho)(Y:L2.St)(Q:L2.St->Hp->Prop),U9 K CL A U Y H->Z7 K CL H A vs ds->F4 ts ds U=Ab U'->(∀ Y',U9 K CL A U' Y' H->Q Y' H)->(ts.foldr (λt u=>Jv (Gm t) u) Jz) vs Y H Q
 |[],[],[],U,U',Y,Q,x,_,e,k=>by
  cases e;exact⟨rfl,k Y x⟩
 |t::ts,d::ds,v::vs,U,U',Y,Q,x,r,e,k=>⟨v,vs,rfl,XR ts ds vs _ U' _ Q (x.put t r.1) r.2 e k⟩
 |[],_::_,_,_,_,_,_,_,_,e,_=>by cases e
 |_::_,[],_,_,_,_,_,_,_,e,_=>by cases e
 |[],[],_::_,_,_,_,_,_,r,_,_=>r.elim
 |_::_,_::_,[],_,_,_,_,_,r,_,_=>r.elim
theorem zj(ts:Ac Ag):GG K CL ts (FH ts) (Na K ts.length (ts.foldr (λt u=>Jv (Gm t) u) Jz)):=λA U Y H v d U' Q g r e k=>by
 cases d with
 |H ds=>
  obtain⟨a,xs,rfl,na,sq,rs⟩:=r;rw[VD]at e;cases e2:F4 ts ds U with
  |none=>rw[e2]at e;cases e
  |some U2=>
   rw[e2]at e;cases e;have e3:F4 ts ds (Gk ts U)=Ab U':=by
    rw[<-e2];exact Vg ts ds _ _ (O5 _ _) λj hj=>by rw[Ml,AH hj]
   refine⟨a,xs,rfl,sq,by rw[rs.length];exact RF _ _ _ _ e2,XR ts ds xs _ U' Y Q g rs e3 λY' g'=>k Y' g' ?_⟩
   have:=g'.hide ts;rw[Ve ts ts ds U U' (λ_ h=>h) e2]at this
   exact this
 |_=>cases e
noncomputable abbrev W0:XW:=λ_ _=>BV
def Ļ(X:Cx)(CL:ClA)(ifs:Ac Aq)(f:Rho->R Al):Prop:=∀ A,ġ X ifs (λY H Q=>we H A/\∃ U,U9 X.K CL A U Y H/\DV W0 H (f U) Q)
theorem wI:Ļ X CL [] (λ_=>.ok Aa):=λA pI s Y H Q I ⟨hA,U,g,p⟩=>xA pI s Y H Q I (p H (A1.refl H))
theorem wH(h:SB X CL W0 c f):Ļ X CL [c] f:=λA pI s Y H Q I q=>yI (h A) pI s Y H Q I q
theorem oX{x:D}{xs ys:Ac D}(h:Bz g f (x::xs)=.ok ys):(g x=.ok Ae/\Bz g f xs=.ok ys)\/∃ y r,g x=.ok Aa/\f x=.ok y/\Bz g f xs=.ok r/\ys=y::r:=by
 unfold Bz at h;cases e:g x with
 |bad=>rw[e]at h;cases h
 |exn z=>rw[e]at h;cases h
 |ok b=>
  rw[e,R.bind_ok]at h;cases b with
  |false=>exact .inl ⟨rfl,h⟩
  |true=>
   rw[AC rfl]at h;cases e2:f x with
   |bad=>rw[e2]at h;cases h
   |exn z=>rw[e2]at h;cases h
   |ok y=>
    rw[e2,R.bind_ok]at h;cases e3:Bz g f xs with
    |bad=>rw[e3]at h;cases h
    |exn z=>rw[e3]at h;cases h
    |ok r=>
     rw[e3,R.bind_ok]at h;cases h;exact .inr ⟨y,r,rfl,rfl,rfl,rfl⟩
theorem Lr{r:R α}{f:α->R β}{b:β}(h:r.bind f=.ok b):∃ a,r=.ok a/\f a=.ok b:=by
 cases r with
 |ok a=>exact⟨a,rfl,h⟩
 |exn x=>cases h
 |bad=>cases h
theorem rL{ys:Ac D}(χ:GG K CL ts as g)(hA:we H1 A)(gd:U9 K CL A U Y H1)(yl:Ke K CL A ds J H1)(hz:ds.length<=sizeLine)(hcp:Bz (λx=>(as x U).bind fc) (λx=>(as x U).bind fe) ds=.ok ys)(q:∀ xs H2,A1 H1 H2->Z7 K CL H2 A xs ys->∀ p,H2 p=Af->Q (.ref p) (upd H2 p (.L xs))):NK J ts g (λY H Q=>we H A/\∃ U,U9 K CL A U Y H/\DV W0 H (fc U) Q) (λY H Q=>we H A/\∃ U,U9 K CL A U Y H/\BN (λH=>U8 K CL H A) W0 H (fe U) Q) Y H1 Q:=by
 refine⟨λi m xs Y' H'=>m=ds.length-i/\i<=ds.length/\xs.length<=i/\A1 H1 H'/\U9 K CL A (Gk ts U) Y' H'/\∃ outs rest,Z7 K CL H' A xs outs/\Bz (λx=>(as x U).bind fc) (λx=>(as x U).bind fe) (ds.drop i)=.ok rest/\ys=outs++rest,
  ⟨ds.length,by simp,CC _,AT _,A1.refl _,gd.hideT ts,[],ys,trivial,hcp,rfl⟩,?_⟩
 rintro i m xs Y' H' ⟨rfl,hi,hxl,sm,g',outs,rest,rs,hc,e⟩;obtain⟨yst,ygo⟩:=yl H' (Kp.of sm) i;by_cases ô:i<ds.length
 .have hd:ds[i]?=Ab ds[i]:=AR ô;obtain⟨hgo,hyl⟩:=ygo _ hd;refine .inr ⟨hgo,by omega,λx H2 hx=>?_⟩
  obtain⟨s2,rx⟩:=hyl x H2 hx;have rx':=rx A (λa ha=>.inl ha) (hA.same sm)
  rw[ZW ô]at hc;have ē:=sm.trans s2;rcases oX hc with ⟨h1,h2⟩|⟨y,r,h1,h2,h3,h4⟩
  .obtain⟨U',ea,ec⟩:=Lr h1;refine χ A U Y' H2 x ds[i] U' _ (g'.same s2) rx' ea λY3 g3 g4=>⟨hA.same ē,U',g3,?_⟩
   rw[ec];exact λH3 s3=>by
    dsimp only;rw[AH (by decide)]
    exact⟨ds.length-(i+1),by omega,rfl,ô,by omega,ē.trans s3,g4.same s3,outs,rest,(rs.same s2).same s3,h2,e⟩
  .obtain⟨U',ea,ec⟩:=Lr h1;obtain⟨U2,ea2,ee⟩:=Lr h2;rw[ea]at ea2;cases ea2;refine χ A U Y' H2 x ds[i] U' _ (g'.same s2) rx' ea λY3 g3 g4=>⟨hA.same ē,U',g3,?_⟩
   rw[ec];exact λH3 s3=>by
    dsimp only;rw[AC rfl];refine⟨(hA.same ē).same s3,U',g3.same s3,?_⟩;rw[ee];exact λv H4 s4 r4=>⟨ds.length-(i+1),by omega,rfl,ô,by rw[BE,Er];omega,(ē.trans s3).trans s4,(g4.same s3).same s4,outs++[y],r,(((rs.same s2).same s3).same s4).append ⟨r4,trivial⟩,h3,by rw[e,h4];simp⟩
 .have Ű:ds.length<=i:=by omega
  rw[ZX Ű]at hc;have hr:rest=[]:=by cases hc;rfl
  subst hr;rw[Eo]at e;subst e;exact .inl ⟨yst Ű,λp hp=>q xs H' sm rs p hp⟩
theorem FS.ok_of{r:R (Ac D)}(h:BN Rq W H (r.bind f) Q)(k:∀ ds J H',r=.ok ds->A1 H H'->Ke K CL A ds J H'->ds.length<=sizeLine->BN Rq W H' (f ds) Q->Q' J H'):FS K CL A W H r Q':=by
 cases r with
 |ok d=>exact λJ H2 s2 y z=>k d J H2 rfl s2 y z (BN.same s2 h)
 |exn x=>exact h
 |bad=>exact h
theorem vy{r:R α}{a:α}(h:ϣ r=.ok a):r=.ok a:=by
 cases r with
 |ok b=>exact h
 |exn x=>cases h
 |bad=>cases h
theorem VI{X:Cx}{fi:Rho->R (Ac D)}(χ:GG X.K CL ts as g)(hA:we H A)(gd:U9 X.K CL A U Y H)(p:BN (Fn X.K CL Aa H A) W H ((fi U).bind λxs=>(ϣ (Bz (λx=>(as x U).bind fc) (λx=>(as x U).bind fe) xs)).bind λys=>.ok (.L ys)) Q):FS X.K CL A W H (fi U) (λJ H1=>NK J ts g (λY H Q=>we H A/\∃ U,U9 X.K CL A U Y H/\DV W0 H (fc U) Q) (λY H Q=>we H A/\∃ U,U9 X.K CL A U Y H/\BN (λH=>U8 X.K CL H A) W0 H (fe U) Q) Y H1 Q):=
 FS.ok_of p λds J H1 e1 s1 yl hz p1=>by
  cases e2:ϣ (Bz (λx=>(as x U).bind fc) (λx=>(as x U).bind fe) ds) with
  |ok ys=>
   rw[e2]at p1;exact rL χ (hA.same s1) (gd.same s1) yl hz (vy e2) λxs H2 s2 rs q hq=>p1 _ _ (s2.trans (GA hq _)) (Lx (s1.trans s2) ((hA.same s1).same s2) hq rs)
  |exn x=>rw[e2]at p1;cases hq:Bz (λx=>(as x U).bind fc) (λx=>(as x U).bind fe) ds<;>rw[hq]at e2<;>cases e2
  |bad=>rw[e2]at p1;exact p1.elim
theorem yZ(hc:X.calm=Aa)(B:k5 X scope N' ts)(hi:SI X CL W tg iter fi)(χ:GG X.K CL ts as g)(hg:∀ cl C s H fp,PG (í X scope cl C N' s H fp) tg g)(ht:∀ cl C s H fp,Ļ (í X scope cl C N' s H fp) CL ifs fc)(he:∀ cl C s H fp,SE (í X scope cl C N' s H fp) CL W0 elt fe)(hs:∀ x,DF iter X.env x=pure x):SC X CL W Aa (.ListComp elt [⟨tg,iter,ifs,0⟩] scope pos) (λU=>(fi U).bind λxs=>(ϣ (Bz (λx=>(as x U).bind fc) (λx=>(as x U).bind fe) xs)).bind λys=>.ok (.L ys)):=λA pI s Y H Q I ⟨hA,U,gd,p⟩=>
 xI hc B (hi A) hg (λcl C s H fp=>ht cl C s H fp A) (λcl C s H fp=>he cl C s H fp A) hs pI s Y H Q I ⟨hA,U,gd,VI χ hA gd p⟩
theorem Sx.setF(x:Sx K CL Fz B U Y H)(s:A1 H H')(h0:H a=Af)(h1:H' a=Ab (.L xs))(r:Z7 K CL H' (λb=>C9 B U Y b\/b=a) xs ds):Sx K CL Fz B (U.set i (Ab (.L ds,Aa))) (Y.set i (Ab (.ref a))) H':=by
 have nA:¬ C9 B U Y a:=x.aok.new h0;have own:∀(j:Ag)(e:D),(U.set i (Ab (.L ds,Aa)))[j]?=Ab (Ab (e,Aa))->(i=j/\e=.L ds)\/(i≠j/\U[j]?=Ab (Ab (e,Aa))):=λj e h=>by
  by_cases hj:i=j
  .subst hj;have:=IP h;cases this;exact .inl ⟨rfl,rfl⟩
  .exact .inr ⟨hj,by rw[DB hj]at h;exact h⟩
 have υ:∀{j:Ag}{y:Sl},(U.set i (Ab (.L ds,Aa)))[j]?=Ab y->i=j->(Y.set i (Ab (.ref a)))[j]?=Ab (Ab (.ref a)):=λ{j y} h e=>by
  subst e;have hl:i<Y.length:=by
   rw[<-x.len];have:=(Br.mp h).1;simpa using this
  rw[DL hl]
 have sub:∀ b,C9 B (U.set i (Ab (.L ds,Aa))) (Y.set i (Ab (.ref a))) b->C9 B U Y b\/b=a:=λb h=>by
  rcases h with h|⟨j,e,h1,h2⟩
  .exact .inl (.inl h)
  .rcases own j e h1 with ⟨hj,_⟩|⟨hj,h1'⟩
   .rw[υ h1 hj]at h2;cases h2;exact .inr rfl
   .rw[DB hj]at h2;exact .inl (.inr ⟨j,e,h1',h2⟩)
 have wide:∀{v:V}{d:D},U8 K CL H (C9 B U Y) v d->U8 K CL H' (C9 B (U.set i (Ab (.L ds,Aa))) (Y.set i (Ab (.ref a)))) v d:=λr=>(U8.wide (λb hb=>(sub b hb).imp id λe=>by rw[e];exact h0) _ r).same s
 have ė:∀{v:Ac V}{d:Ac D},Z7 K CL H (C9 B U Y) v d->Z7 K CL H' (C9 B (U.set i (Ab (.L ds,Aa))) (Y.set i (Ab (.ref a)))) v d:=λr=>(Z7.wide (λb hb=>(sub b hb).imp id λe=>by rw[e];exact h0) _ r).same s
 refine⟨⟨λj e h=>?_,λj e h=>?_,by rw[BW,BW];exact x.len⟩,λb h=>?_,λj e b g1 g2=>?_,λj k e f b g1 g2 g3 g4=>?_,λb o z=>s _ _ (x.same b o z),by rw[BW,BW];exact x.len⟩
 .have hj:i≠j:=by
   rintro rfl;have:=IP h;cases this
  rw[DB hj]at h;obtain⟨w',q,Â⟩:=x.good.sh j e h;exact⟨w',by rw[DB hj];exact q,wide Â⟩
 .rcases own j e h with ⟨hj,rfl⟩|⟨hj,h'⟩
  .have q:=υ h hj;exact⟨a,xs,ds,q,rfl,.inr ⟨j,_,h,q⟩,h1,Z7.sub sub _ r⟩
  .obtain⟨b,ys,es,q,z,ha,hh,rr⟩:=x.good.ow j e h';have q':(Y.set i (Ab (.ref a)))[j]?=Ab (Ab (.ref b)):=by rw[DB hj];exact q
   exact⟨b,ys,es,q',z,.inr ⟨j,e,h,q'⟩,s _ _ hh,ė rr⟩
 .rcases sub b h with z|z
  .obtain⟨ys,q⟩:=x.aok b z;exact⟨ys,s _ _ q⟩
  .rw[z];exact⟨xs,h1⟩
 .rcases own j e g1 with ⟨hj,_⟩|⟨hj,h'⟩
  .rw[υ g1 hj]at g2;cases g2;refine⟨λo z=>?_,λz=>nA (.inl z)⟩
   have:=x.same a o z;rw[h0]at this;cases this
  .rw[DB hj]at g2;exact x.new j e b h' g2
 .rcases own j e g1 with ⟨hj,_⟩|⟨hj,h'⟩
  .rw[υ g1 hj]at g3;cases g3;rcases own k f g2 with ⟨hk,_⟩|⟨hk,ϭ⟩
   .exact hj.symm.trans hk
   .rw[DB hk]at g4;exact absurd (.inr ⟨k,f,ϭ,g4⟩) nA
  .rw[DB hj]at g3;rcases own k f g2 with ⟨hk,_⟩|⟨hk,ϭ⟩
   .rw[υ g2 hk]at g4;cases g4;exact absurd (.inr ⟨j,e,h',g3⟩) nA
   .rw[DB hk]at g4;exact x.dis j k e f b h' ϭ g3 g4
theorem Sx.upd(x:Sx K CL Fz B U Y H){i:Ag}{d:D}{a:Am}{xs:Ac V}(hi:U[i]?=Ab (Ab (d,Aa)))(ha:Y[i]?=Ab (Ab (.ref a)))(r:Z7 K CL H (C9 B U Y) xs ds):Sx K CL Fz B (U.set i (Ab (.L ds,Aa))) Y (L2.upd H a (.L xs)):=by
 have oa:C9 B U Y a:=.inr ⟨i,d,hi,ha⟩;have hil:i<U.length:=(Br.mp hi).1;have get:∀(j:Ag)(e:D),(U.set i (Ab (.L ds,Aa)))[j]?=Ab (Ab (e,Aa))↔(i=j/\e=.L ds)\/(i≠j/\U[j]?=Ab (Ab (e,Aa))):=λj e=>by
  by_cases hj:i=j
  .subst hj;rw[DL hil];simp;exact⟨λz=>z.symm,λz=>z.symm⟩
  .rw[DB hj];simp[hj]
 have same:∀ b,C9 B (U.set i (Ab (.L ds,Aa))) Y b↔C9 B U Y b:=λb=>by
  constructor
  .rintro (h|⟨j,e,h1,h2⟩)
   .exact .inl h
   .rcases (get j e).mp h1 with ⟨rfl,_⟩|⟨_,h1⟩
    .exact .inr ⟨i,d,hi,h2⟩
    .exact .inr ⟨j,e,h1,h2⟩
  .rintro (h|⟨j,e,h1,h2⟩)
   .exact .inl h
   .by_cases hj:i=j
    .subst hj;exact .inr ⟨i,.L ds,(get i _).mpr (.inl ⟨rfl,rfl⟩),h2⟩
    .exact .inr ⟨j,e,(get j e).mpr (.inr ⟨hj,h1⟩),h2⟩
 have kp:Kp (C9 B U Y) H (L2.upd H a (.L xs)):=λb o e na=>by
  have Ϯ:b≠a:=by
   rintro rfl;exact na oa
  rw[DM Ϯ];exact e
 refine⟨⟨λj e h=>?_,λj e h=>?_,by rw[BW];exact x.len⟩,λb h=>?_,λj e b g1 g2=>?_,λj k e f b g1 g2 g3 g4=>?_,λb o z=>?_,by rw[BW];exact x.len⟩
 .have hj:i≠j:=by
   rintro rfl;have:=IP h;cases this
  rw[DB hj]at h;obtain⟨w',q,Â⟩:=x.good.sh j e h;exact⟨w',q,U8.sub (λb hb=>(same b).mp hb) _ (U8.kp kp _ Â)⟩
 .rcases (get j e).mp h with ⟨rfl,rfl⟩|⟨hj,h'⟩
  .exact⟨a,xs,ds,ha,rfl,(same a).mpr oa,J3,Z7.sub (λb hb=>(same b).mp hb) _ (Z7.kp kp _ r)⟩
  .obtain⟨b,ys,es,q,z,hb,hh,rr⟩:=x.good.ow j e h';have Ϯ:b≠a:=λz=>hj (x.dis i j d e a hi h' ha (z ▸ q))
   exact⟨b,ys,es,q,z,(same b).mpr hb,by rw[DM Ϯ];exact hh,Z7.sub (λb hb=>(same b).mp hb) _ (Z7.kp kp _ rr)⟩
 .obtain⟨ys,q⟩:=x.aok b ((same b).mp h);by_cases e:b=a
  .rw[e];exact⟨xs,J3⟩
  .exact⟨ys,by rw[DM e];exact q⟩
 .rcases (get j e).mp g1 with ⟨rfl,_⟩|⟨_,h'⟩
  .exact x.new i d b hi g2
  .exact x.new j e b h' g2
 .rcases (get j e).mp g1 with ⟨rfl,_⟩|⟨hj,h'⟩
  .rcases (get k f).mp g2 with ⟨rfl,_⟩|⟨hk,ϭ⟩
   .rfl
   .exact x.dis i k d f b hi ϭ g3 g4
  .rcases (get k f).mp g2 with ⟨rfl,_⟩|⟨hk,ϭ⟩
   .exact x.dis j i e d b h' hi g3 g4
   .exact x.dis j k e f b h' ϭ g3 g4
 .have Ϯ:b≠a:=λe=>(x.new i d a hi ha).1 o (e ▸ z)
  rw[DM Ϯ];exact x.same b o z
theorem Sx.rel(x:Sx K CL Fz B U Y H)(hi:U[i]?=Ab (Ab (d,Aa))):Sx K CL Fz B (U.set i (Ab (d,Ae))) Y H:=by
 obtain⟨a,xs,ds,q,rfl,oa,hh,rr⟩:=x.good.ow i d hi;have own:∀(j:Ag)(e:D),(U.set i (Ab (.L ds,Ae)))[j]?=Ab (Ab (e,Aa))->i≠j/\U[j]?=Ab (Ab (e,Aa)):=λj e h=>by
  by_cases hj:i=j
  .subst hj;have:=IP h;cases this
  .exact⟨hj,by rw[DB hj]at h;exact h⟩
 have sub:∀ b,C9 B (U.set i (Ab (.L ds,Ae))) Y b->C9 B U Y b:=λb h=>by
  rcases h with h|⟨j,e,h1,h2⟩
  .exact .inl h
  .exact .inr ⟨j,e,(own j e h1).2,h2⟩
 have na:¬ C9 B (U.set i (Ab (.L ds,Ae))) Y a:=λh=>by
  rcases h with h|⟨j,e,h1,h2⟩
  .exact(x.new i _ a hi q).2 h
  .obtain⟨hj,h1⟩:=own j e h1;exact hj (x.dis i j _ e a hi h1 q h2)
 refine⟨⟨λj e h=>?_,λj e h=>?_,by rw[BW];exact x.len⟩,λb h=>x.aok b (sub b h),λj e b g1 g2=>x.new j e b (own j e g1).2 g2,λj k e f b g1 g2 g3 g4=>x.dis j k e f b (own j e g1).2 (own k f g2).2 g3 g4,x.same,by rw[BW];exact x.len⟩
 .by_cases hj:i=j
  .subst hj;have e1:=IP h;cases e1;exact⟨_,q,a,xs,rfl,.inl na,fI.of hh,Z7.sub sub _ rr⟩
  .rw[DB hj]at h;obtain⟨w',q',Â⟩:=x.good.sh j e h;exact⟨w',q',U8.sub sub _ Â⟩
 .obtain⟨hj,h'⟩:=own j e h;obtain⟨b,ys,es,q',z,hb,hh',rr'⟩:=x.good.ow j e h';exact⟨b,ys,es,q',z,.inr ⟨j,e,h,q'⟩,hh',Z7.sub sub _ rr'⟩
section
variable{X:Cx}{CL:ClA}{W:XW}
theorem Dg.exC(x:Sx X.K CL Fz B U Y H)(h:Dg X.K CL Fz B W (O.of U r f) D')(k:∀ d v H',r=.ok d->A1 H H'->Fn X.K CL fr H A H' v d->Sx X.K CL Fz B U Y H'->Dg X.K CL Fz B W (f d) D'->Q v H'):BN (Fn X.K CL fr H A) W H r Q:=by
 cases r with
 |ok d=>exact λv H' s r=>k d v H' rfl s r (x.grow s) h
 |exn y=>exact λH' s=>h H' λb o z=>s _ _ (x.same b o z)
 |bad=>exact h
def Ģ(X:Cx)(CL:ClA)(W:XW)(fr:Al)(i:Ag)(st:BQ)(f:Rho->R D):Prop:=∀ A,PS X st (Qn (λY H Q=>we H A/\∃ U,U9 X.K CL A U Y H/\BN (Fn X.K CL fr H A) W H (f U) Q) (Gm i))
theorem SC.sas{n:An}(hN:X.N.Nodup)(hi:X.N[i]?=Ab n)(hx:ĺ X.env.scope n)(he:SC X CL W fr e fe)(hs:EL e (Ab (.Name n pos')) pos.line X.env=pure Ae)(hf:X.fn n=Aa\/X.env.scope.names.lookup n=Ab .local):Ģ X CL W fr i (.Assign [.Name n pos'] e pos) fe:=
 λA=>qr hN hi hx (he A) hs hf
theorem sD{n:An}(hc:X.calm=Aa)(B:k5 X scope N' ts)(hi:SI X CL W tg iter fi)(χ:GG X.K CL ts as g)(hg:∀ cl C s H fp,PG (í X scope cl C N' s H fp) tg g)(ht:∀ cl C s H fp,Ļ (í X scope cl C N' s H fp) CL ifs fc)(he:∀ cl C s H fp,SE (í X scope cl C N' s H fp) CL W0 elt fe)(hs:∀ x,DF iter X.env x=pure x)(hN:X.N.Nodup)(hni:X.N[i]?=Ab n)(hx:X.env.scope.names.lookup n=Ab .local)(Ŏ:EL (.ListComp elt [⟨tg,iter,ifs,0⟩] scope pos) (Ab (.Name n pos')) pos2.line X.env=pure Aa):Ģ X CL W Aa i (.Assign [.Name n pos'] (.ListComp elt [⟨tg,iter,ifs,0⟩] scope pos) pos2) (λU=>(fi U).bind λxs=>(ϣ (Bz (λx=>(as x U).bind fc) (λx=>(as x U).bind fe) xs)).bind λys=>.ok (.L ys)):=λA pI s Y H Dn I ⟨hA,U,gd,p⟩=>
 xD hc B (hi A) hg (λcl C s H fp=>ht cl C s H fp A) (λcl C s H fp=>he cl C s H fp A) hs hN hni hx Ŏ pI s Y H Dn I ⟨hA,U,gd,VI χ hA gd p⟩
theorem Yn{st:BQ}(h:Ģ X CL W fr i st fe):SS X CL W st (λU=>O.of U (fe U) λd=>.next (U.set i (Ab (d,Ae)))):=λFz B pI s Y H D I ⟨U,x,p⟩=>
 h (C9 B U Y) pI s Y H D I ⟨x.aok,U,x.good,Dg.exC x p λd v H' _ s r x' q=>q _ H' (x'.set i r.1)⟩
theorem yP{st:BQ}(h:Ģ X CL W Aa i st fe):SS X CL W st (λU=>O.of U (fe U) λd=>setF U i d):=λFz B pI s Y H D I ⟨U,x,p⟩=>
 h (C9 B U Y) pI s Y H D I ⟨x.aok,U,x.good,Dg.exC x p λd v H' _ s r x' q=>by
  cases d with
  |L ds=>
   obtain⟨a,xs,rfl,h0,h1,rs⟩:=r.2 rfl ds rfl;exact q _ H' (x.setF s h0 h1 rs)
  |dic ds=>exact r.1.elim
  | _=>exact q.elim⟩
theorem yM(he:SC X CL W Aa e fe):SS X CL W (.Return (Ab e) pos) (λU=>O.of U (fe U) λd=>.ret d Aa):=λFz B pI s Y H D I ⟨U,x,p⟩=>
 TD (he (C9 B U Y)) pI s Y H D I ⟨x.aok,U,x.good,Dg.exC x p λd v H' _ s r x' q=>q v H' x'.same (U8.sub (λa h=>.inl h) _ r.1) λ_ ds e=>by
  obtain⟨a,xs,h0,h1,h2,h3⟩:=r.2 rfl ds e;refine⟨a,xs,h0,λo z=>?_,h2,Z7.sub (λb hb=>hb.imp .inl id) _ h3⟩
  have:=x.same a o z;rw[h1]at this;cases this⟩
noncomputable def QC(U:Rho)(i:Ag):Al:=match U[i]? with
  |some (Ab (_,o))=>o
  |_=>Ae
theorem yK(he:PE X e (K0 i)):SS X CL W (.Return (Ab e) pos) (λU=>O.of U (FT U i) λd=>.ret d (QC U i)):=λFz B pI s Y H D I ⟨U,x,p⟩=>
 TD he pI s Y H D I (by
  dsimp only at p;cases e:FT U i with
  |bad=>rw[e]at p;exact p.elim
  |exn z=>exact(Wt e).elim
  |ok d=>
   rw[e]at p;obtain⟨o,e⟩:=Xj e;have eo:QC U i=o:=by unfold QC;rw[e]
   rw[O.of_ok,eo]at p;cases o with
   |false=>
    obtain⟨v,q,r⟩:=x.good.sh i d e;exact⟨v,q,p v H x.same (U8.sub (λa h=>.inl h) _ r) λz=>nomatch z⟩
   |true=>
    obtain⟨a,xs,ds,q,rfl,ha,hh,r⟩:=x.good.ow i d e;obtain⟨n1,n2⟩:=x.new i _ a e q;refine⟨_,q,p _ H x.same ⟨a,xs,rfl,.inl n2,fI.of hh,Z7.sub (λa h=>.inl h) _ r⟩ λ_ ū e'=>?_⟩
    cases e';exact⟨a,xs,rfl,n1,hh,Z7.sub (λb hb=>hb.elim .inl λz=>z ▸ ha) _ r⟩)
theorem SX(h:DG U i=.ok ds):U[i]?=Ab (Ab (.L ds,Aa)):=by
 unfold DG at h;split at h
 .rename_i e;cases h;exact e
 .cases h
theorem SR{x:Ex}(h:DG U i=.exn x):BV:=by
 unfold DG at h;split at h<;>cases h
variable{o:Aq}
theorem mw(ho:PE X o (K0 i))(he:SE X CL W e fe)(À:Km o "append" X.env (eval o X.env)=eval o X.env)(Ω:((C8 õ (AN [e] X.env)).all (λx=>!x.1)&&(Nn õ (Ll [] X.env)).all (λx=>x.1.isSome)&&decide ([e].length+([]:Ac FY).length+(if ([]:Ac FY).isEmpty then 0 else 1)<30))=Aa)(Á:(apos.endLine==õ.line)=Aa)(hs:AN [e] X.env=[(Ae,eval e X.env)])(Ŏ:EL (.Call (.Attribute o "append" apos) [e] [] õ) Af pos.line X.env=pure Ae):
  SS X CL W (.Expr (.Call (.Attribute o "append" apos) [e] [] õ) pos) (λU=>O.of U (DG U i) λxs=>O.of U (fe U) λd=>if Dv (xs.length+1)=Aa then .next (U.set i (Ab (.L (xs++[d]),Aa))) else .bad):=λFz B pI s Y H D I ⟨U,x,p⟩=>by
 refine SU (Zl dC PySem.F.slot_list_append PySem.F.type_list_append rS ho (Gi (he (C9 B U Y)) HZ hs) À Ω Á hs rfl) Ŏ pI s Y H D I ?_;dsimp only at p;cases e1:DG U i with
 |bad=>rw[e1]at p;exact p.elim
 |exn z=>exact(SR e1).elim
 |ok ds=>
  rw[e1,O.of_ok]at p;have hi:=SX e1;obtain⟨a,xs,ū,q,e2,ha,hh,r⟩:=x.good.ow i _ hi;cases e2;refine⟨_,q,.inl ⟨rfl,xs,fI.of hh⟩,x.aok,U,x.good,Dg.ex x p λd v H' _ s rv x' q'=>?_⟩
  split at q'
  .rename_i hz;refine⟨a,xs,v,rfl,rfl,s _ _ hh,?_,q' _ _ (x'.upd hi q ((r.same s).append ⟨rv,trivial⟩))⟩;have:=KM hz;rw[r.length];omega
  .exact q'.elim
theorem ms(ho:PE X o (K0 i))(he:SC X CL W Aa e fe)(À:Km o "extend" X.env (eval o X.env)=eval o X.env)(Ω:((C8 õ (AN [e] X.env)).all (λx=>!x.1)&&(Nn õ (Ll [] X.env)).all (λx=>x.1.isSome)&&decide ([e].length+([]:Ac FY).length+(if ([]:Ac FY).isEmpty then 0 else 1)<30))=Aa)(Á:(apos.endLine==õ.line)=Aa)(hs:AN [e] X.env=[(Ae,eval e X.env)])(Ŏ:EL (.Call (.Attribute o "extend" apos) [e] [] õ) Af pos.line X.env=pure Ae):
  SS X CL W (.Expr (.Call (.Attribute o "extend" apos) [e] [] õ) pos) (λU=>O.of U (DG U i) λxs=>O.of U (fe U) λd=>O.of U (Qi d) λys=>if Dv (xs.length+ys.length)=Aa then .next (U.set i (Ab (.L (xs++ys),Aa))) else .bad):=λFz B pI s Y H D I ⟨U,x,p⟩=>by
 refine SU (Zl dC PySem.F.slot_list_extend PySem.F.type_list_extend rR ho (Gi (he (C9 B U Y)) HZ hs) À Ω Á hs rfl) Ŏ pI s Y H D I ?_;dsimp only at p;cases e1:DG U i with
 |bad=>rw[e1]at p;exact p.elim
 |exn z=>exact(SR e1).elim
 |ok ds=>
  rw[e1,O.of_ok]at p;have hi:=SX e1;obtain⟨a,xs,ū,q,e2,ha,hh,r⟩:=x.good.ow i _ hi;cases e2;refine⟨_,q,.inl ⟨rfl,xs,fI.of hh⟩,x.aok,U,x.good,Dg.exC x p λd v H' _ s rv x' q'=>?_⟩
  cases d with
  |L es=>
   obtain⟨b,ys,rfl,h0,h1,rs⟩:=rv.2 rfl es rfl;rw[tG,O.of_ok]at q';split at q'
   .rename_i hz;refine⟨a,b,xs,ys,rfl,rfl,s _ _ hh,h1,?_,q' _ _ (x'.upd hi q ((r.same s).append (Z7.sub (λc hc=>.inl hc) _ rs)))⟩
    rw[r.length,rs.length];exact KM hz
   .exact q'.elim
  |_=>exact q'.elim
theorem mo{pos:Bf}{e:Aq}{fe:Rho->R D}{i:Ag}{k:Aq}{fk:Rho->R Ov.D}{ϸ:Bf}(ho:PE X o (K0 i))(hk:ST X CL W k fk)(he:SE X CL W e fe)(ha:∀ v,assign (.Subscript o k ϸ) X.env v=(do
      let ov <-holding [v] (eval o X.env)
      let iv <-holding [v,ov] (eval k X.env)
      Lf ϸ
      holding [v,ov,iv] (setItem ov iv v)
      release [v,ov,iv] []))(hs:HW [.Subscript o k ϸ] e pos.line X.env=pure Ae)(hw:GN [.Subscript o k ϸ] e X.env=pure Af)(h1:(DS [.Subscript o k ϸ] X.env).map (·.2)=[assign (.Subscript o k ϸ) X.env]):
    SS X CL W (.Assign [.Subscript o k ϸ] e pos) (λU=>O.of U (fe U) λd=>O.of U (DG U i) λxs=>O.of U ((fk U).bind FJ) λj=>match ϳ xs.length j with
      |some n=>.next (U.set i (Ab (.L (xs.set n d),Aa)))
      | none=>.bad):=λFz B pI s Y H D I ⟨U,x,p⟩=>
  Yu (he (C9 B U Y)) (wv ho (hk (C9 B U Y)) rY ha) hs hw h1 pI s Y H D I ⟨x.aok,U,x.good,Dg.ex x p λd v H' _ s rv x' q'=>by
    cases e1:DG U i with
    |bad=>rw[e1]at q';exact q'.elim
    |exn z=>exact(SR e1).elim
    |ok ds=>
      rw[e1,O.of_ok]at q';have hi:=SX e1;obtain⟨a,xs,ū,q,e2,ha,hh,r⟩:=x'.good.ow i _ hi;cases e2;refine⟨_,q,x'.aok,U,x'.good,?_⟩;cases e3:fk U with
      |bad=>rw[e3]at q';exact q'.elim
      |exn z=>rw[e3]at q';exact λH2 s2=>q' H2 λb o z=>s2 _ _ (x'.same b o z)
      |ok dk=>
        rw[e3]at q';intro y H2 s2 ry;cases dk with
        |int j=>
          have ey:=ry.int_of;subst ey;rw[R.bind_ok,RQ,O.of_ok]at q';cases e4:ϳ ds.length j with
          |none=>rw[e4]at q';exact q'.elim
          |some n=>
            rw[e4]at q';refine⟨a,xs,j,n,rfl,rfl,s2 _ _ hh,?_,q' _ _ ((x'.grow s2).upd hi q (Z7.set (rv.same s2) n (r.same s2)))⟩;rw[r.length];exact e4
        | _=>exact q'.elim⟩
theorem yO(hGT:GT X.K CL as g)(hg:PG X tg g)(he:SE X CL W e fe)(hs:HW [tg] e pos.line X.env=pure Ae)(hw:GN [tg] e X.env=pure Af)(h1:(DS [tg] X.env).map (·.2)=[assign tg X.env])(hax:∀ d U x,as d U≠.exn x):SS X CL W (.Assign [tg] e pos) (λU=>O.of U (fe U) λd=>O.of U (as d U) λU'=>.next U'):=λFz B pI s Y H D I ⟨U,x,p⟩=>
 Yu (he (C9 B U Y)) hg hs hw h1 pI s Y H D I ⟨x.aok,U,x.good,Dg.ex x p λd v H' _ s rv x' q'=>by
  cases ea:as d U with
  |bad=>rw[ea]at q';exact q'.elim
  |exn z=>exact absurd ea (hax _ _ z)
  |ok U2=>
   rw[ea,O.of_ok]at q';exact hGT Fz B U Y H' v d U2 _ x' rv ea λY' x3=>q' Y' H' x3⟩
theorem wJ{rest:Ac BQ}{f:Rho->O}(i:Ag)(h:ž X CL W rest f):ž X CL W rest (λU=>(match U[i]? with
   |some (Ab (d,Aa))=>O.next (U.set i (Ab (d,Ae)))
   | _=>O.next U).seq f):=λFz B=>È.weak (h Fz B) λD Y H ⟨U,x,p⟩=>by
 dsimp only at p;split at p
 .rename_i d e;exact⟨_,x.rel e,p⟩
 .exact⟨U,x,p⟩
end
theorem Bl.take(r:Bl xs Z9):∀ n,Bl (xs.take n) (Z9.take n):=by
 induction r with
 |nil=>intro n;simp;exact .nil
 |cons h _ ih=>
  intro n;cases n with
  |zero=>exact .nil
  |succ n=>exact .cons h (ih n)
theorem Bl.drop(r:Bl xs Z9):∀ n,Bl (xs.drop n) (Z9.drop n):=by
 induction r with
 |nil=>intro n;simp;exact .nil
 |cons h t ih=>
  intro n;cases n with
  |zero=>exact .cons h t
  |succ n=>exact ih n
section
variable{A:Bm}{E:Vq}
theorem vt{j:Am}{Z9:AO Aj}{x:Aj}{Q:Vq}(st:s.heap.IsTupleIter j t k)(sq:s.heap.IsTuple t Z9)(at_:Z9[k]?=Ab x)(go:∀ h2,h2.IsTupleIter j t (k+1)->FA j s.heap h2->Q x {s with heap:=h2}):AD (model prog w) A (Ba (.ref j)) Q E s:=by
 obtain⟨oj,gj,cj,dj⟩:=id st;obtain⟨ot,gt,_,nt,dt⟩:=sq;show AD _ _ (callSpecial? _ _ >>= _) _ _ _;refine Ah (Cy st.typeIs Ev (CZ Ev st.typeIs dA ?_ (cW _)));show AD _ _ (field (.ref j) 0 >>= _) _ _ _;refine Ah (Bv gj dj (x:=.ref t) rfl ?_);show AD _ _ (field (.ref j) 1 >>= _) _ _ _;refine Ah (Bv gj dj (x:=.int k 0) rfl ?_);refine Ah (Cf gt dt ?_);simp only[Fq,at_];exact Ah (Gr gj dj (by simp) (Az ⟨x,rfl,Az (go _ ⟨_,Ck _ gj (FC (DX dj _)),(dL ..).trans cj,by rw[DX dj];simp[CJ]⟩ (F3 ..))⟩))
theorem rP{j:Am}{Z9:AO Aj}{Q:Vq}(calm:A.handled=Af)(st:s.heap.IsTupleIter j t k)(sq:s.heap.IsTuple t Z9)(at_:Z9[k]?=Af)(up:∀ h2 e,dH j s.heap h2->(∃ o,h2.get? e=Ab o/\o.cls=.type "StopIteration")->E (.ref e) {s with heap:=h2}):AD (model prog w) A (Ba (.ref j)) Q E s:=by
 obtain⟨oj,gj,cj,dj⟩:=id st;obtain⟨ot,gt,_,nt,dt⟩:=sq;show AD _ _ (callSpecial? _ _ >>= _) _ _ _;refine Ah (Cy st.typeIs Ev (CZ Ev st.typeIs dA ?_ (cW _)));show AD _ _ (field (.ref j) 0 >>= _) _ _ _;refine Ah (Bv gj dj (x:=.ref t) rfl ?_);show AD _ _ (field (.ref j) 1 >>= _) _ _ _;refine Ah (Bv gj dj (x:=.int k 0) rfl ?_);refine Ah (Cf gt dt ?_);simp only[Fq,at_];refine Ah (Hj (Ah (Gr gj dj (by simp) ?_)))
 refine Ah ?_;simp only[newExc,newTuple];refine Ah (C4 ?_ (by size_fits))
 refine Ah (m:=eY _ _) (wpAny_of_eq (a:=.none) (by first|rfl|(simp only[eY];rfl)) (C4 ?_ (by size_fits)))
 simp only[raiseNew];refine Ah (wpAny_handled ?_)
 first|rw[show A.in1.handled=Af from calm]|rw[calm]
 exact Ah (Az (wpAny_throw (up _ _ (((F3 ..).extBut.push _).push _) ⟨_,AB _ rfl,rfl⟩)))
end
structure Dw (prog:A6) (w:AM) (A:Bm) (j:Am) (fp:Ac Am) (n:Ag) (P:Ag->Aj->Prop) (S:Ag->AS->Prop):Prop where
 frame:∀ i h h2,S i h->(∀ c∈fp,∀ o,h.get? c=Ab o->h2.get? c=Ab o)->S i h2
 item:∀ i (s:At) (Q:Vq) (E:Vq),i<n->S i s.heap->(∀ x h2 tk,P i x->S (i+1) h2->FA j s.heap h2->Q x {s with heap:=h2,toks:=tk})->AD (model prog w) A (Ba (.ref j)) Q E s
 done:∀ i (s:At) (Q:Vq) (E:Vq),n<=i->S i s.heap->(∀ h2 e,dH j s.heap h2->(∃ o,h2.get? e=Ab o/\o.cls=.type "StopIteration")->E (.ref e) {s with heap:=h2})->AD (model prog w) A (Ba (.ref j)) Q E s
def Fp(t:Al)(h:AS)(j l:Am)(i:Ag):Prop:=match t with
  |true=>h.IsTupleIter j l i
  |false=>h.IsListIter j l i
def CK(t:Al)(h:AS)(l:Am)(Z9:AO Aj):Prop:=match t with
  |true=>h.IsTuple l Z9
  |false=>h.IsList l Z9
theorem Jw{A:Bm}(calm:A.handled=Af)(t:Al)(j l:Am)(ne:l≠j)(Z9:AO Aj):Dw prog w A j [j,l] Z9.size (λi v=>Z9[i]?=Ab v) (λi h=>Fp t h j l i/\CK t h l Z9):=by
 cases t with
 |true=>exact⟨λ_ _ _ z k=>⟨z.1.at λo e=>k j (by simp) o e,z.2.at λo e=>k l (by simp) o e⟩,λi s Q E hi z q=>vt z.1 z.2 (x:=Z9[i]) (by simp[hi]) λh2 z2 sb=>q _ h2 s.toks (by simp[hi]) ⟨z2,z.2.extBut sb.extBut ne⟩ sb,λi s Q E hi z q=>rP calm z.1 z.2 (by simp[hi]) q⟩
 |false=>exact⟨λ_ _ _ z k=>⟨z.1.at λo e=>k j (by simp) o e,z.2.at λo e=>k l (by simp) o e⟩,λi s Q E hi z q=>wpAny_nextOf_list_item z.1 z.2 (x:=Z9[i]) (by simp[hi]) λh2 z2 sb=>q _ h2 s.toks (by simp[hi]) ⟨z2,z.2.extBut sb.extBut ne⟩ sb,λi s Q E hi z q=>wpAny_nextOf_list_end calm z.1 z.2 (by simp[hi]) q⟩
theorem Ĭ{I c:Ag}(b:l<I)(h:c∈[I,l])(j:Ag):c≠I+(j+1):=by
 have h':c=I\/c=l:=by simpa using h
 omega
theorem Š{I c:Ag}(b:l<I)(h:c∈[I+1,l]):c≠I/\c≠I+3/\c≠I+4:=by
 have h':c=I+1\/c=l:=by simpa using h
 omega
theorem é{I i j:Ag}(h:i≠j):I+i≠I+j:=by omega
theorem Ÿ{I i:Ag}(h:i≠0):I+i≠I:=by omega
section
variable{A:Bm}{E:Vq}
theorem sI{I k:Ag}{a b:Aj}{Q:Vq}(b1:l1<I)(b2:l2<I)(D1:Dw prog w A I [I,l1] n1 P1 S1)(D2:Dw prog w A (I+1) [I+1,l2] n2 P2 S2)(hz:He s.heap (I+4) (I+2) (I+3) .none)(hI:FB s.heap (I+2) (.ref I) (.ref (I+1)))(hO:FB s.heap (I+3) a b)(g1:S1 k s.heap)(g2:S2 k s.heap)(k1:k<n1)(k2:k<n2)(go:∀ x y h2 tk,P1 k x->P2 k y->He h2 (I+4) (I+2) (I+3) (CJ s.heap.objs.size)->FB h2 (I+3) x y->S1 (k+1) h2->S2 (k+1) h2->FB h2 s.heap.objs.size x y ->
   (∀ c o,c∉[I,I+1,I+3,I+4]->s.heap.get? c=Ab o->h2.get? c=Ab o)->Q (.ref s.heap.objs.size) {s with heap:=h2,toks:=tk}):AD (model prog w) A (Builtin.«zip.__next__» ⟨[.ref (I+4)],[]⟩) (λfin s'=>∃ v,fin=.done (.ret v)/\Q v s') E s:=by
 refine Ah (m:=field (.ref (I+4)) 2) (Bv hz rfl (x:=.bool Ae) rfl ?_);refine Ah (m:=field (.ref (I+4)) 3) (Bv hz rfl (x:=.ref (I+2)) rfl (Ah (Cf hI rfl ?_)));refine Ah (m:=Bb (.ref (I+4))) ?_;simp only[Bb];refine Ah (Bv hz rfl (x:=.none) rfl (Az ?_));rw[AC rfl];refine Ah (Hj (Ah (Bv hz rfl (x:=.ref (I+3)) rfl (Ah (Cs hz (by simp) λp1 z1 e1=>Ah ?_)))))
 have Ť:He p1 (I+4) (I+2) (I+3) .ellipsis:=z1;simp only[GO,G9,Ep,Ee];refine Ah (Ah (D9 (Ah (m:=Ba (.ref I)) (D1.item k _ _ _ k1 (D1.frame _ _ _ g1 λc hc o q=>e1.extBut c o (Ĭ b1 hc 3) q) λx p2 t2 px s2 e2=>Az ?_))))
 have o2:FB p2 (I+3) a b:=e2.extBut _ _ (Ÿ (by decide)) (e1.extBut _ _ (é (by decide)) hO)
 refine Ah (Cf o2 rfl (Ah (Hk o2 λp3 o3 e3=>Ah (F2 (Az ?_)))))
 have o3':FB p3 (I+3) x b:=o3;have g2':S2 k p3:=D2.frame _ _ _ g2 λc hc o q=>e3.extBut c o (Š b2 hc).2.1 (e2.extBut c o (Š b2 hc).1 (e1.extBut c o (Š b2 hc).2.2 q))
 refine Ah (Ah (D9 (Ah (m:=Ba (.ref (I+1))) (D2.item k _ _ _ k2 g2' λy p4 t4 py s4 e4=>Az ?_))))
 have o4:FB p4 (I+3) x b:=e4.extBut _ _ (é (by decide)) o3'
 refine Ah (Cf o4 rfl (Ah (Hk o4 λp5 o5 e5=>Ah (F2 (Az (Az ?_))))))
 have o5':FB p5 (I+3) x y:=o5;have sz:p5.objs.size=s.heap.objs.size:=by rw[e5.1,e4.1,e3.1,e2.1,e1.1]
 have z5:He p5 (I+4) (I+2) (I+3) .ellipsis:=e5.extBut _ _ (é (by decide)) (e4.extBut _ _ (é (by decide)) (e3.extBut _ _ (é (by decide)) (e2.extBut _ _ (Ÿ (by decide)) Ť)))
 refine Ah (Cf o5' rfl (Ah (Hy ?_)));refine Ah (m:=Dp (.ref (I+4)) (.ref p5.objs.size)) ?_;simp only[Dp];have z6:He (p5.push { cls:=.type "tuple",data:=.seq #[x,y] }) (I+4) (I+2) (I+3) .ellipsis:=Ar _ z5;refine Ah (Cs z6 (by simp) λp7 z7 e7=>?_)
 have z7':He p7 (I+4) (I+2) (I+3) (CJ p5.objs.size):=z7;refine Cs z7' (by simp) λp8 z8 e8=>Az ⟨_,rfl,?_⟩
 have z8':He p8 (I+4) (I+2) (I+3) (CJ p5.objs.size):=z8;have ĉ:I+4<p5.objs.size:=AE z5;have up:∀ c o,c≠I+4->p5.get? c=Ab o->p8.get? c=Ab o:=λc o nc q=>e8.extBut _ _ nc (e7.extBut _ _ nc (Ar _ q))
 have t8:FB p8 p5.objs.size x y:=e8.extBut _ _ (Cm ĉ) (e7.extBut _ _ (Cm ĉ) (AB _ rfl));have a1:S1 (k+1) p8:=D1.frame _ _ _ s2 λc hc o q=>up c o (Ĭ b1 hc 3) (e5.extBut c o (Ĭ b1 hc 2) (e4.extBut c o (Ĭ b1 hc 0) (e3.extBut c o (Ĭ b1 hc 2) q)))
 have a2:S2 (k+1) p8:=D2.frame _ _ _ s4 λc hc o q=>up c o (Š b2 hc).2.2 (e5.extBut c o (Š b2 hc).2.1 q)
 have kp:∀ c o,c∉[I,I+1,I+3,I+4]->s.heap.get? c=Ab o->p8.get? c=Ab o:=λc o nc q=>by
  simp only[Aw,A2,Ca,DR]at nc;exact up c o nc.2.2.2 (e5.extBut c o nc.2.2.1 (e4.extBut c o nc.2.1 (e3.extBut c o nc.2.2.1 (e2.extBut c o nc.1 (e1.extBut c o nc.2.2.2 q)))))
 have q:=go x y p8 t4 px py (by rw[<-sz];exact z8') (up _ _ (é (by decide)) o5') a1 a2 (by rw[<-sz];exact t8) kp
 rw[<-sz]at q;exact q
theorem wL{I k:Ag}{a b:Aj}(b1:l1<I)(b2:l2<I)(D1:Dw prog w A I [I,l1] n1 P1 S1)(D2:Dw prog w A (I+1) [I+1,l2] n2 P2 S2)(hz:He s.heap (I+4) (I+2) (I+3) .none)(hI:FB s.heap (I+2) (.ref I) (.ref (I+1)))(hO:FB s.heap (I+3) a b)(g1:S1 k s.heap)(g2:S2 k s.heap)(hk:n1<=k\/(k<n1/\n2<=k))(up:∀ h2 e tk,(∀ c o,c∉[I,I+1,I+3,I+4]->s.heap.get? c=Ab o->h2.get? c=Ab o)->(∃ o,h2.get? e=Ab o/\o.cls=.type "StopIteration")->E (.ref e) {s with heap:=h2,toks:=tk}):AD (model prog w) A (Builtin.«zip.__next__» ⟨[.ref (I+4)],[]⟩) Q E s:=by
 refine Ah (m:=field (.ref (I+4)) 2) (Bv hz rfl (x:=.bool Ae) rfl ?_);refine Ah (m:=field (.ref (I+4)) 3) (Bv hz rfl (x:=.ref (I+2)) rfl (Ah (Cf hI rfl ?_)));refine Ah (m:=Bb (.ref (I+4))) ?_;simp only[Bb];refine Ah (Bv hz rfl (x:=.none) rfl (Az ?_));rw[AC rfl];refine Ah (Hj (Ah (Bv hz rfl (x:=.ref (I+3)) rfl (Ah (Cs hz (by simp) λp1 z1 e1=>Ah ?_)))))
 have Ť:He p1 (I+4) (I+2) (I+3) .ellipsis:=z1;simp only[GO,G9,Ep,Ee];have g1':S1 k p1:=D1.frame _ _ _ g1 λc hc o q=>e1.extBut c o (Ĭ b1 hc 3) q
 rcases hk with k1|⟨k1,k2⟩
 .refine Ah (Ah (D9 (Ah (m:=Ba (.ref I)) (D1.done _ _ _ _ k1 g1' λp2 e e2 he=>?_))))
  obtain⟨oe,η,Ś⟩:=he;have z2:He p2 (I+4) (I+2) (I+3) .ellipsis:=e2 _ _ (Ÿ (by decide)) Ť
  have ne:e≠I+4:=λx=>by subst x;rw[z2]at η;cases η;simp at Ś
  refine Cs z2 (by simp) λp3 _ e3=>up p3 e s.toks (λc o nc q=>?_) ⟨oe,e3.extBut _ _ ne η,Ś⟩
  simp only[Aw,A2,Ca,DR]at nc;exact e3.extBut c o nc.2.2.2 (e2 c o nc.1 (e1.extBut c o nc.2.2.2 q))
 .refine Ah (Ah (D9 (Ah (m:=Ba (.ref I)) (D1.item k _ _ _ k1 g1' λx p2 t2 px s2 e2=>Az ?_))))
  have o2:FB p2 (I+3) a b:=e2.extBut _ _ (Ÿ (by decide)) (e1.extBut _ _ (é (by decide)) hO)
  refine Ah (Cf o2 rfl (Ah (Hk o2 λp3 o3 e3=>Ah (F2 (Az ?_)))))
  have g2':S2 k p3:=D2.frame _ _ _ g2 λc hc o q=>e3.extBut c o (Š b2 hc).2.1 (e2.extBut c o (Š b2 hc).1 (e1.extBut c o (Š b2 hc).2.2 q))
  refine Ah (Ah (D9 (Ah (m:=Ba (.ref (I+1))) (D2.done _ _ _ _ k2 g2' λp4 e e4 he=>?_))))
  obtain⟨oe,η,Ś⟩:=he;have z4:He p4 (I+4) (I+2) (I+3) .ellipsis:=e4 _ _ (é (by decide)) (e3.extBut _ _ (é (by decide)) (e2.extBut _ _ (Ÿ (by decide)) Ť))
  have ne:e≠I+4:=λx=>by subst x;rw[z4]at η;cases η;simp at Ś
  refine Cs z4 (by simp) λp5 _ e5=>up p5 e t2 (λc o nc q=>?_) ⟨oe,e5.extBut _ _ ne η,Ś⟩
  simp only[Aw,A2,Ca,DR]at nc;exact e5.extBut c o nc.2.2.2 (e4 c o nc.2.1 (e3.extBut c o nc.2.2.1 (e2.extBut c o nc.1 (e1.extBut c o nc.2.2.2 q))))
end
def Õ(t:Al)(K:Fg)(H:Hp)(a:Am)(xs:Ac V):Prop:=match t with
  |true=>ð K H a xs
  |false=>fI K H a xs
theorem H9(I:Z6 X pI Y H s)(h:Õ t X.K H a xs):∃ Z9:Ac Aj,Bl xs Z9/\CK t s.heap a Z9.toArray/\xs.length<=sizeLine:=by
 cases t with
 |true=>
  obtain⟨Z9,rv,p,z⟩:=I.tuple h;exact⟨Z9,rv,p,z⟩
 |false=>
  obtain⟨Z9,rv,p,z⟩:=I.list h;exact⟨Z9,rv,p.isList,z⟩
theorem RG{ys:Ac V}(I:Z6 X pI Y H s)(h:Õ t X.K H a xs)(h2:Õ t X.K H a ys):xs=ys:=by
 cases t with
 |true=>exact I.tuple_inj h h2
 |false=>exact I.list_inj h h2
noncomputable def Itz(K:Fg)(t1 t2:Al)(a b:Am):It:=
  ⟨λi H=>∃ xs ys x y,Õ t1 K H a xs/\Õ t2 K H b ys/\xs[i]?=Ab x/\ys[i]?=Ab y,
   λi H v H'=>∃ p x y,H p=Af/\v=.ref p/\(∀ xs,Õ t1 K H a xs->xs[i]?=Ab x)/\(∀ ys,Õ t2 K H b ys->ys[i]?=Ab y)/\H'=upd H p (.H [x,y]),
   λi H=>∃ xs ys,Õ t1 K H a xs/\Õ t2 K H b ys/\(xs.length<=i\/(i<xs.length/\ys.length<=i))⟩
theorem Z6.turnedL(ch:Ac Am)(I:Z6 X pI Y H s)(k:∀ b o,b∉ch->s.heap.get? b=Ab o->h'.get? b=Ab o)(hf:∀ b∈ch,HJ X pI H b):Z6 X pI Y H {s with heap:=h',toks:=t'}:=by
 have ċ:∀ b u,H b=Ab u->b∉ch:=λb u e z=>by rw[(hf b z).1]at e;cases e
 refine I.step (g':=s.gens) (d':=s.drawn) (ch:=ch) (λb hb=>⟨(hf b hb).2.2.2.1,(hf b hb).2.1,(hf b hb).2.2.2.2.1,(hf b hb).2.2.2.2.2⟩) (λb o _ _ hc e _=>k b o hc e) (λb o _ _ hc e _=>⟨o.slots,k b o hc e⟩) (λ_ _ _ _ n=>n)
  (λb o hc e=>⟨o,k b o hc e⟩) (λ_ _ e=>e) (λ_ _ _ e=>e) (λb ps e=>⟨#[],by rw[e];simp⟩) (λm ⟨o,es,ep,ho,r⟩=>⟨o,es,ep,k _ o (λz=>(hf _ z).2.1 rfl) ho,r⟩) (λb u e=>(I.hok b u e).stay (λc v hc q=>k c v ?_ q) (λ_ q=>q) λ_ _ q=>q) I.bare
 rcases hc with z|z
 .rw[z];exact ċ b u e
 .exact ċ c _ z
def zTn(t1 t2:Al)(I l1 l2:Ag)(i:Ag)(h:AS):Prop:=He h (I+4) (I+2) (I+3) .none/\FB h (I+2) (.ref I) (.ref (I+1))/\(∃ a b,FB h (I+3) a b)/\Fp t1 h I l1 i/\Fp t2 h (I+1) l2 i
noncomputable def Ã(I:Ag):Ac Am:=[I,I+1,I+2,I+3,I+4]
theorem Fp.obj{j:Am}(z:Fp t h j l i):∃ o,h.get? j=Ab o/\∀ v,o.data≠.cell v:=by
 cases t with
 |true=>obtain⟨o,e,c,d⟩:=z;exact⟨o,e,λv z=>by rw[d]at z;cases z⟩
 |false=>obtain⟨o,e,c,d⟩:=z;exact⟨o,e,λv z=>by rw[d]at z;cases z⟩
theorem Fp.at'{j:Am}(z:Fp t h j l i)(k:∀ o,h.get? j=Ab o->h2.get? j=Ab o):Fp t h2 j l i:=by
 cases t with
 |true=>exact PySem.Heap.IsTupleIter.at z k
 |false=>exact PySem.Heap.IsListIter.at z k
theorem sV(t1 t2:Al)(I l1 l2:Ag)(b1:l1<I)(b2:l2<I):Ϫ P w K (.Tuple es n pos) (Itz K t1 t2 l1 l2) (Ã I) (I+4) (zTn t1 t2 I l1 l2) where
  mem:=by simp[Ã]
  obj:=λi h ⟨z1,z2,⟨a,b,z3⟩,z4,z5⟩ c hc=>by
    simp only[Ã,Aw,A2,Ca]at hc;rcases hc with rfl|rfl|rfl|rfl|rfl
    · exact z4.obj
    · exact z5.obj
    · exact⟨_,z2,λv z=>by cases z⟩
    · exact⟨_,z3,λv z=>by cases z⟩
    · exact⟨_,z1,λv z=>by cases z⟩
  keep:=λi h h2 ⟨z1,z2,⟨a,b,z3⟩,z4,z5⟩ k=>⟨k _ (by simp[Ã]) _ z1,k _ (by simp[Ã]) _ z2,⟨a,b,k _ (by simp[Ã]) _ z3⟩,z4.at' λo e=>k _ (by simp[Ã]) o e,z5.at' λo e=>k _ (by simp[Ã]) o e⟩
  item:=by
    intro X hP hw hK hc i pI s Y H E Iv hf ⟨z1,z2,⟨a,b,z3⟩,z4,z5⟩ ⟨xs,ys,x,y,q1,q2,hx,hy⟩;subst hP hw hK;obtain⟨us,rx,sx,_⟩:=H9 Iv q1;obtain⟨vs,ry,sy,_⟩:=H9 Iv q2;obtain⟨u,hu,ru⟩:=rx.get hx;obtain⟨v,hv,rv⟩:=ry.get hy;have hT:s.TypeIs (.ref (I+4)) "zip" := ⟨_,z1,rfl⟩;have calm:X.A.in1.handled=Af:=Iv.ok.hd hc;show AD _ _ (Ek _) _ _ _;simp only[Ek];refine Ah (FX (Cy hT CU (CZ CU hT EU (sI (k:=i) b1 b2 (Jw calm t1 I l1 (AZ b1) us.toArray) (Jw calm t2 (I+1) l2 (AZ (CA b2)) vs.toArray) z1 z2 z3 ⟨z4,sx⟩ ⟨z5,sy⟩
      (by have:=(Br.mp hu).1;simpa using this) (by have:=(Br.mp hv).1;simpa using this) λx' y' h2 tk px py c1 c2 c3 c4 c5 kp=>Az ?_) (EB _))))
    have ex:x'=u:=by
      have px':us[i]?=Ab x':=by simpa using px
      rw[hu]at px';exact(BX px').symm
    have ey:y'=v:=by
      have py':vs[i]?=Ab y':=by simpa using py
      rw[hv]at py';exact(BX py').symm
    subst ex ey;refine⟨_,rfl,wpAny_letOwnedTupleGo_zip c1 λh3 d1 sb=>?_⟩
    have lt4:I+4<s.heap.objs.size:=AE z1;have Ĉ:∀ c o,c∉Ã I->s.heap.get? c=Ab o->h3.get? c=Ab o:=λc o nc q=>by
      simp only[Ã,Aw,A2,Ca,DR]at nc;exact sb.extBut c o nc.2.2.2.2 (kp c o (by simp only[Aw,A2,Ca,DR];exact⟨nc.1,nc.2.1,nc.2.2.2.1,nc.2.2.2.2⟩) q)
    have nT:∀ c∈Ã I,c≠s.heap.objs.size:=λc hc z=>by
      have:c<=I+4:=by
        simp only[Ã,Aw,A2,Ca]at hc;rcases hc with z|z|z|z|z<;>rw[z]<;>simp
      exact absurd (z ▸ Ce this lt4) (BK _)
    have I1:Z6 X pI Y (upd H s.heap.objs.size (.H [x,y])) { s with heap:=s.heap.push { cls:=.type "tuple",data:=.seq #[x',y'] },toks:=s.toks }:=
      Iv.laid (λ_ _ q=>Ar _ q) (AT _) ⟨(by decide:2<=sizeLine),[x',y'],.cons ru (.cons rv .nil),⟨_,AB _ rfl,rfl,_,rfl⟩⟩
    have hf':∀ b∈Ã I,HJ X pI (upd H s.heap.objs.size (.H [x,y])) b:=λb hb=>⟨by rw[DM (nT b hb)];exact(hf b hb).1,(hf b hb).2⟩
    have I2:Z6 X pI Y (upd H s.heap.objs.size (.H [x,y])) {s with heap:=h3,toks:=tk}:=Z6.turnedL (s:={ s with heap:=s.heap.push { cls:=.type "tuple",data:=.seq #[x',y'] },toks:=s.toks }) (Ã I) I1 (λc o nc q=>by
      rcases dJ q with ⟨e1,e2⟩|e1
      · subst e1 e2;exact sb.extBut _ _ (Cm lt4) c5
      · exact Ĉ c o nc e1) hf'
    refine⟨.ref s.heap.objs.size,_,I2,rfl,⟨s.heap.objs.size,x,y,Iv.fresh,rfl,λzs hz=>by rw[RG Iv hz q1];exact hx,λzs hz=>by rw[RG Iv hz q2];exact hy,rfl⟩,⟨d1,sb.extBut _ _ (é (by decide)) (kp _ _ (by simp) z2),⟨_,_,sb.extBut _ _ (é (by decide)) c2⟩,c3.1.at' λo q=>sb.extBut _ o (A8 (Ÿ (by decide))) q,c4.1.at' λo q=>sb.extBut _ o (é (by decide)) q⟩,λb hb=>(hf' b hb).1⟩
  done:=by
    intro X hP hw hK hc i pI s Y H E Iv hf ⟨z1,z2,⟨a,b,z3⟩,z4,z5⟩ ⟨xs,ys,q1,q2,hk⟩;subst hP hw hK;obtain⟨us,rx,sx,_⟩:=H9 Iv q1;obtain⟨vs,ry,sy,_⟩:=H9 Iv q2;have hT:s.TypeIs (.ref (I+4)) "zip" := ⟨_,z1,rfl⟩;have calm:X.A.in1.handled=Af:=Iv.ok.hd hc;have e1:=rx.length;have e2:=ry.length;simp only[Ek];refine Ah (FX (Cy hT CU (CZ CU hT EU (wL (k:=i) b1 b2 (Jw calm t1 I l1 (AZ b1) us.toArray) (Jw calm t2 (I+1) l2 (AZ (CA b2)) vs.toArray) z1 z2 z3 ⟨z4,sx⟩ ⟨z5,sy⟩
      (by simp only[AJ];omega) λh2 e tk kp he=>?_) (EB _))))
    obtain⟨o,ho,Ϻ⟩:=he;refine Ah (IJ (T := "StopIteration") (b:=Aa) ⟨o,ho,Ϻ⟩ eZ (Az ⟨rfl,Z6.turnedL [I,I+1,I+3,I+4] Iv (λc o nc q=>kp c o nc q) λc hc=>hf c ?_⟩))
    simp only[Aw,A2,Ca]at hc;simp only[Ã,Aw,A2,Ca];rcases hc with rfl|rfl|rfl|rfl<;>simp
  self:=λ_ _ _ _ _ st h=>fM st.1 h
section
variable{A:Bm}{E:Vq}
noncomputable def ñ(t:Al)(l:Am):Dr:=match t with
  |true=>{ cls:=.type "tuple_iterator",data:=.fields #[.ref l,.int 0 0] }
  |false=>{ cls:=.type "list_iterator",data:=.fields #[.ref l,.int 0 0] }
theorem KW{Z9:AO Aj}{Q:Vq}(h:CK t s.heap l Z9)(q:Q (.ref s.heap.objs.size) {s with heap:=s.heap.push (ñ t l)}):AD (model prog w) A (KC (.ref l)) Q E s:=by
 cases t with
 |true=>exact Fh h q
 |false=>exact Fv h q
theorem CK.push{Z9:AO Aj}(z:CK t h l Z9)(o:Dr):CK t (h.push o) l Z9:=by
 cases t with
 |true=>exact PySem.Heap.IsTuple.at z λ_ e=>Ar _ e
 |false=>exact PySem.Heap.IsList.at z λ_ e=>Ar _ e
theorem MD{j:Am}(e:h.get? j=Ab (ñ t l)):Fp t h j l 0:=by
 cases t with
 |true=>exact⟨_,e,rfl,rfl⟩
 |false=>exact⟨_,e,rfl,rfl⟩
theorem Mu(t:Al)(l:Am):(ñ t l).isFreed=Ae:=by cases t<;>rfl
noncomputable abbrev ě(t1 t2:Al)(h:AS)(l1 l2:Am):AS:=(h.push (ñ t1 l1)).push (ñ t2 l2)
noncomputable abbrev Ĝ(t1 t2:Al)(h:AS)(l1 l2:Am):AS:=(ě t1 t2 h l1 l2).push { cls:=.type "tuple",data:=.seq #[.ref h.objs.size,.ref (h.push (ñ t1 l1)).objs.size] }
noncomputable abbrev ĝ(t1 t2:Al)(h:AS)(l1 l2:Am):AS:=(Ĝ t1 t2 h l1 l2).push { cls:=.type "tuple",data:=.seq #[.none,.none] }
noncomputable abbrev Ε(t1 t2:Al)(h:AS)(l1 l2:Am):AS:=(ĝ t1 t2 h l1 l2).push { cls:=.type "zip",data:=.fields #[.none,.bool Ae,.bool Ae,.ref (ě t1 t2 h l1 l2).objs.size,.ref (Ĝ t1 t2 h l1 l2).objs.size] }
theorem wK(t1 t2:Al)(l1 l2:Am)(xs ys:AO Aj):Meets (Builtin.«zip.__new__» ⟨[.type "zip",.ref l1,.ref l2],[]⟩) (λ_ R s=>CK t1 s.heap l1 xs/\CK t2 s.heap l2 ys/\R (.ok (.ret (.ref (ĝ t1 t2 s.heap l1 l2).objs.size))) {s with heap:=Ε t1 t2 s.heap l1 l2}):=
 .of_wp λprog w A R s h=>by
  obtain⟨hp,g,d,tk,os⟩:=s;obtain⟨a1,a2,q⟩:=h;have Ì:=sub_zip;have L1:CK t1 (GI ⟨hp,g,d,tk,os⟩) l1 xs:=a1;have L2:CK t2 (GI ⟨hp.push (ñ t1 l1),g,d,tk,os⟩) l2 ys:=a2.push _
  wp_walk using KW L1,KW L2
  exact⟨_,rfl,q⟩
theorem sJ{xs:AO Aj}{Q:Vq}(a1:CK t1 s.heap l1 xs)(a2:CK t2 s.heap l2 ys)(q:∀ h2,zTn t1 t2 s.heap.objs.size l1 l2 0 h2->(∀ c o,s.heap.get? c=Ab o->h2.get? c=Ab o)->Q (.ref (s.heap.objs.size+4)) {s with heap:=h2}):AD (model prog w) A (call (.type "zip") [.ref l1,.ref l2]) Q E s:=by
 refine Kx cX (by decide) (F.typeCall_zip_2 _ _) (F.newCall_zip_2 _ _) (λobj=>F.args_object_init_3 obj _ _) dB (wK t1 t2 l1 l2 xs ys) ⟨a1,a2,?_⟩
 have s1:(s.heap.push (ñ t1 l1)).objs.size=s.heap.objs.size+1:=Bg ..;have s2:(ě t1 t2 s.heap l1 l2).objs.size=s.heap.objs.size+2:=by rw[Bg,s1]
 have s3:(Ĝ t1 t2 s.heap l1 l2).objs.size=s.heap.objs.size+3:=by rw[Bg,s2]
 have s4:(ĝ t1 t2 s.heap l1 l2).objs.size=s.heap.objs.size+4:=by rw[Bg,s3]
 have u5:∀ {c o},(ĝ t1 t2 s.heap l1 l2).get? c=Ab o->(Ε t1 t2 s.heap l1 l2).get? c=Ab o:=λe=>Ar _ e
 have u4:∀ {c o},(Ĝ t1 t2 s.heap l1 l2).get? c=Ab o->(Ε t1 t2 s.heap l1 l2).get? c=Ab o:=λe=>u5 (Ar _ e)
 have u3:∀ {c o},(ě t1 t2 s.heap l1 l2).get? c=Ab o->(Ε t1 t2 s.heap l1 l2).get? c=Ab o:=λe=>u4 (Ar _ e)
 have u2:∀ {c o},(s.heap.push (ñ t1 l1)).get? c=Ab o->(Ε t1 t2 s.heap l1 l2).get? c=Ab o:=λe=>u3 (Ar _ e)
 have g5:(Ε t1 t2 s.heap l1 l2).get? (ĝ t1 t2 s.heap l1 l2).objs.size=Ab _:=AB _ rfl;have g4:(Ε t1 t2 s.heap l1 l2).get? (Ĝ t1 t2 s.heap l1 l2).objs.size=Ab _:=u5 (AB _ rfl);have g3:(Ε t1 t2 s.heap l1 l2).get? (ě t1 t2 s.heap l1 l2).objs.size=Ab _:=u4 (AB _ rfl);have g2:(Ε t1 t2 s.heap l1 l2).get? (s.heap.push (ñ t1 l1)).objs.size=Ab _:=u3 (AB _ (Mu _ _));have g1:(Ε t1 t2 s.heap l1 l2).get? s.heap.objs.size=Ab _:=u2 (AB _ (Mu _ _));show _/\_;rw[s2,s3,s4]at g5;rw[s3]at g4;rw[s1,s2]at g3;rw[s1]at g2;rw[s4];exact⟨⟨_,g5,rfl⟩,q _ ⟨g5,g3,⟨_,_,g4⟩,MD g1,MD g2⟩ λc o e=>u2 (Ar _ e)⟩
end
def mS(K:Fg)(ta:TA):TI:=λY H R=>ta Y H λvs H1=>∃ t1 t2 a b xs ys,vs=[.ref a,.ref b]/\Õ t1 K H1 a xs/\Õ t2 K H1 b ys/\(xs.length<=sizeLine->R (Itz K t1 t2 a b) H1)
theorem CK.lt{Z9:AO Aj}(z:CK t h a Z9):a<h.objs.size:=by
 cases t with
 |true=>obtain⟨o,e,_⟩:=z;exact AE e
 |false=>obtain⟨o,e,_⟩:=z;exact AE e
theorem wt{a b:Aq}(hg:Gl X "zip")(hm:X.mg "zip" = Af)(ha:PA X [a,b] ta)(hs:AN [a,b] X.env=[(Ae,eval a X.env),(Ae,eval b X.env)])(Ð:AN [b] X.env=[(Ae,eval b X.env)]):
  PI X (.Tuple es n tpos) (.Call (.Name "zip" p) [a,b] [] pos) (mS X.K ta):=by
 intro pI s Y H R I h;refine Iq (HB I hg hm aW (B7 (LT (ha pos pI s Y H _ I h) λus s1 ⟨vs,H1,I1,r1,q1⟩=>?_) (by rw[hs,Ð]) (by rw[Ð];rfl)))
 obtain⟨t1,t2,c,d,xs,ys,e,sx,sy,q⟩:=q1;subst e;cases r1 with
 |cons r rr=>
  cases rr with
  |cons r' rr=>
   cases rr;cases r;cases r';obtain⟨us,ru,iu,zu⟩:=H9 I1 sx;obtain⟨vs,rv,iv,_⟩:=H9 I1 sy;refine sJ iu iv λh2 z kp=>fM z.1 ?_
   refine⟨s1.heap.objs.size+4,Ã s1.heap.objs.size,_,_,H1,rfl,I1.kept (t':=s1.toks) kp,sV t1 t2 s1.heap.objs.size c d iu.lt iv.lt,z,λb hb=>?_,q zu⟩
   have Ϟ:s1.heap.objs.size<=b:=by
    simp only[Ã,Aw,A2,Ca]at hb;rcases hb with z|z|z|z|z<;>rw[z]<;>simp
   exact I1.fpOk Ϟ (I1.hok.fresh Ϟ)
theorem MP(r:U8 K CL H A v d)(e:Ct d=.ok ds):∃ t a xs,v=.ref a/\(∀ H2,Kp A H H2->Õ t K H2 a xs)/\Z7 K CL H A xs ds:=by
 cases d with
 |L es=>
  cases e;obtain⟨q,xs,rfl,na,sq,r⟩:=r;exact⟨Ae,q,xs,rfl,λH2 k=>Pu k na sq,r⟩
 |H es=>
  cases e;obtain⟨q,xs,rfl,na,sq,r⟩:=r;exact⟨Aa,q,xs,rfl,λH2 k=>Pt k na sq,r⟩
 |_=>cases e
theorem SH:∀(xs ys:Ac D),(EK xs ys).length=min xs.length ys.length
 |[],_=>by simp[EK]
 |_::_,[]=>by simp[EK]
 |x::xs,y::ys=>by
  rw[EK,BS,SH xs ys];simp only[BS];omega
theorem Wr:∀(xs ys:Ac D)(i:Ag)(d:D),(EK xs ys)[i]?=Ab d->∃ x y,xs[i]?=Ab x/\ys[i]?=Ab y/\d=.H [x,y]
 |[],_,i,d,h=>by simp[EK]at h
 |_::_,[],i,d,h=>by simp[EK]at h
 |x::xs,y::ys,0,d,h=>by
  rw[EK]at h;simp only[E4,CB]at h;exact⟨x,y,rfl,rfl,h.symm⟩
 |x::xs,y::ys,i+1,d,h=>by
  rw[EK]at h;simp only[E0]at h ⊢;exact Wr xs ys i d h
theorem sQ{ys:Ac V}{es:Ac D}(s1:∀ H2,Kp A H1 H2->Õ t1 K H2 a xs)(s2:∀ H2,Kp A H1 H2->Õ t2 K H2 b ys)(r1:Z7 K CL H1 A xs ds)(r2:Z7 K CL H1 A ys es):Ke K CL A (EK ds es) (Itz K t1 t2 a b) H1:=λH k i=>by
 refine⟨λhi=>⟨xs,ys,s1 H k,s2 H k,?_⟩,λd hd=>?_⟩
 .rw[SH]at hi;rw[r1.length,r2.length];omega
 .obtain⟨x,y,hx,hy,rfl⟩:=Wr _ _ _ _ hd;obtain⟨u,hu,ru⟩:=r1.get hx;obtain⟨v,hv,rv⟩:=r2.get hy;refine⟨⟨xs,ys,u,v,s1 H k,s2 H k,hu,hv⟩,?_⟩;rintro w' H' ⟨p,x',y',hp,rfl,c1,c2,rfl⟩;have ex:x'=u:=BX ((c1 xs (s1 H k)).symm.trans hu);have ey:y'=v:=BX ((c2 ys (s2 H k)).symm.trans hv);subst ex ey;have sm:=GA hp (.H [x',y']);exact⟨sm,λB hB aB=>Mz aB hp ⟨NB ru k hB,NB rv k hB,trivial⟩⟩
section
variable{a b:Aq}
theorem nj(ha:SE X CL W a fa)(hb:SE X CL W b fb)(hg:Gl X "zip")(hm:X.mg "zip" = Af)(hs:AN [a,b] X.env=[(Ae,eval a X.env),(Ae,eval b X.env)])(Ð:AN [b] X.env=[(Ae,eval b X.env)]):
  SI X CL W (.Tuple es n tpos) (.Call (.Name "zip" p) [a,b] [] pos) (λU=>(fa U).bind λx=>(fb U).bind λy=>(Ct x).bind λxs=>(Ct y).bind λys=>.ok (EK xs ys)):=
 λA=>PI.weak (wt hg hm (Gi (ha A) (Gi (hb A) HZ Ð) (by rw[hs,Ð])) hs Ð) λY H R ⟨hA,U,g,q⟩=>⟨hA,U,g,FS.ex q λd v H1 _ s1 r1 p1=>⟨hA.same s1,U,g.same s1,FS.ex p1 λd2 v2 H2 _ s2 r2 p2=>by
  cases e1:Ct d with
  |bad=>rw[e1]at p2;exact p2.elim
  |exn z=>exact absurd e1 (by cases d<;>simp[Ct])
  |ok ds=>
   cases e2:Ct d2 with
   |bad=>rw[e1,e2]at p2;exact p2.elim
   |exn z=>exact absurd e2 (by cases d2<;>simp[Ct])
   |ok es=>
    rw[e1,e2]at p2;obtain⟨t1,c1,xs,rfl,k1,đ⟩:=MP (r1.same s2) e1;obtain⟨t2,c2,ys,rfl,k2,rs2⟩:=MP r2 e2;refine⟨t1,t2,c1,c2,xs,ys,rfl,k1 H2 (Kp.of (A1.refl H2)),k2 H2 (Kp.of (A1.refl H2)),λhz=>p2 _ H2 (A1.refl H2) (sQ k1 k2 đ rs2) ?_⟩
    rw[SH,<-đ.length];omega⟩⟩
end
theorem Fp.live{l:Ag}(z:Fp t h j l i):∃ o,h.get? j=Ab o/\∀ v,o.data≠.cell v:=by
 cases t with
 |true=>obtain⟨o,e,c,d⟩:=z;exact⟨o,e,λv z=>by rw[d]at z;cases z⟩
 |false=>obtain⟨o,e,c,d⟩:=z;exact⟨o,e,λv z=>by rw[d]at z;cases z⟩
theorem Fp.keep{l:Ag}(z:Fp t h j l i)(k:∀ o,h.get? j=Ab o->h2.get? j=Ab o):Fp t h2 j l i:=by
 cases t with
 |true=>exact PySem.Heap.IsTupleIter.at z k
 |false=>exact PySem.Heap.IsListIter.at z k
theorem yg{A:Bm}(calm:A.handled=Af)(t:Al)(j l:Am)(ne:l≠j)(Z9:AO Aj):Draws prog w A j [j,l] Z9.size (λi v=>Z9[i]?=Ab v) (λi h=>Fp t h j l i/\CK t h l Z9):=
 have d:=Jw (prog:=prog) (w:=w) calm t j l ne Z9
 ⟨λi h z=>let ⟨o,e,_⟩:=z.1.live;⟨o,e⟩,d.frame,d.item,λs Q E h q=>d.done _ s Q E (AT _) h q⟩
theorem ie{A:Bm}(calm:A.handled=Af)(t:Al)(j l:Am)(ne:l≠j)(Z9:AO Aj)(i:Ag)(hi:Z9.size<=i):Draws prog w A j [j,l] i (λ_ _=>BV) (λk h=>k=i/\Fp t h j l i/\CK t h l Z9):=
 have d:=Jw (prog:=prog) (w:=w) calm t j l ne Z9
 ⟨λ_ h z=>let ⟨o,e,_⟩:=z.2.1.live;⟨o,e⟩,λk h h' z q=>⟨z.1,d.frame i h h' z.2 q⟩,λk s Q E lt z=>absurd z.1 (AZ lt),λs Q E h q=>d.done i s Q E hi h.2 q⟩
noncomputable def Ite(K:Fg)(t:Al)(a:Am):It:=
 ⟨λi H=>∃ xs x,Õ t K H a xs/\xs[i]?=Ab x,λi H v H'=>∃ p x,H p=Af/\v=.ref p/\(∀ xs,Õ t K H a xs->xs[i]?=Ab x)/\H'=upd H p (.H [.int i,x]),λi H=>∃ xs,Õ t K H a xs/\xs.length<=i⟩
def eTn(t:Al)(I l:Ag)(i:Ag)(h:AS):Prop:=(∃ old,IsEnum h (I+1) I i old)/\Fp t h I l i
theorem rD(t:Al)(I l:Ag)(b:l<I):Ϫ P w K (.Tuple es n pos) (Ite K t l) [I,I+1] (I+1) (eTn t I l) where
  mem:=by simp
  obj:=λi h ⟨⟨old,z1⟩,z2⟩ c hc=>by
    simp only[Aw,A2,Ca]at hc;rcases hc with rfl|rfl
    · exact z2.live
    · exact⟨_,z1,λv z=>by cases z⟩
  keep:=λi h h2 ⟨⟨old,z1⟩,z2⟩ k=>⟨⟨old,k _ (by simp) _ z1⟩,z2.keep λo e=>k _ (by simp) o e⟩
  item:=by
    intro X hP hw hK hc i pI s Y H E Iv hf ⟨⟨old,z1⟩,z2⟩ ⟨xs,x,q1,hx⟩;subst hP hw hK;obtain⟨us,rx,px,_⟩:=H9 Iv q1;obtain⟨u,hu,ru⟩:=rx.get hx;have lu:i<us.toArray.size:=by
      have:=(Br.mp hu).1;simpa using this
    refine wpAny_pyNext_enum_itemD (yg (A:=X.A.in1) (Iv.ok.hd hc) t I l (AZ b) us.toArray) z1 ⟨z2,px⟩ lu (Ÿ (by decide)) (by simp only[Aw,A2,Ca,DR];exact⟨Ÿ (by decide),Cm (AF b (DU _ _))⟩) λu' h2 tk hu' ho ŏ hT sz kp=>⟨_,rfl,wpAny_letOwnedTupleGo_enum ho λh3 d1 sb=>?_⟩
    have eu:u'=u:=by
      rw[Fw,hu]at hu';exact(BX hu').symm
    subst eu;have lt:I+1<s.heap.objs.size:=AE z1;have Ĉ:∀ c o,c∉[I,I+1]->s.heap.get? c=Ab o->h3.get? c=Ab o:=λc o nc q=>by
      simp only[Aw,A2,Ca,DR]at nc;exact sb.extBut c o nc.2 (kp c o nc.2 nc.1 q)
    have nT:∀ c∈[I,I+1],c≠s.heap.objs.size:=λc hc z=>by
      have:c<=I+1:=by
        simp only[Aw,A2,Ca]at hc;rcases hc with z|z<;>rw[z]<;>simp
      exact absurd (z ▸ Ce this lt) (BK _)
    have I1:Z6 X pI Y (upd H s.heap.objs.size (.H [.int i,x])) { s with heap:=s.heap.push { cls:=.type "tuple",data:=.seq #[.int i tk,u'] },toks:=s.toks }:=
      Iv.laid (λ_ _ q=>Ar _ q) (AT _) ⟨(by decide:2<=sizeLine),[.int i tk,u'],.cons ⟨_,rfl⟩ (.cons ru .nil),⟨_,AB _ rfl,rfl,_,rfl⟩⟩
    have hf':∀ b∈[I,I+1],HJ X pI (upd H s.heap.objs.size (.H [.int i,x])) b:=λb hb=>⟨by rw[DM (nT b hb)];exact(hf b hb).1,(hf b hb).2⟩
    have I2:Z6 X pI Y (upd H s.heap.objs.size (.H [.int i,x])) {s with heap:=h3,toks:=tk+1}:=Z6.turnedL (s:={ s with heap:=s.heap.push { cls:=.type "tuple",data:=.seq #[.int i tk,u'] },toks:=s.toks }) [I,I+1] I1 (λc o nc q=>by
      rcases dJ q with ⟨e1,e2⟩|e1
      · subst e1 e2;exact sb.extBut _ _ (Cm lt) hT
      · exact Ĉ c o nc e1) hf'
    exact⟨.ref s.heap.objs.size,_,I2,rfl,⟨s.heap.objs.size,x,Iv.fresh,rfl,λzs hz=>by rw[RG Iv hz q1];exact hx,rfl⟩,⟨⟨u',by simpa using d1⟩,ŏ.1.keep λo q=>sb.extBut _ o (A8 (Ÿ (by decide))) q⟩,λb hb=>(hf' b hb).1⟩
  done:=by
    intro X hP hw hK hc i pI s Y H E Iv hf ⟨⟨old,z1⟩,z2⟩ ⟨xs,q1,hk⟩;subst hP hw hK;obtain⟨us,rx,px,_⟩:=H9 Iv q1;have e1:=rx.length;have e2:us.toArray.size<=i:=by rw[AJ,<-e1];exact hk
    refine wpAny_pyNext_enum_endD (ie (A:=X.A.in1) (Iv.ok.hd hc) t I l (AZ b) us.toArray i e2) z1 ⟨rfl,z2,px⟩ λh2 eb=>⟨rfl,Z6.turnedL [I] Iv (t':=s.toks) (λc o nc q=>eb c o (λz=>nc (by simp[z])) q) λc hc=>hf c ?_⟩
    have:c=I:=by simpa using hc
    subst this;simp
  self:=λ_ _ _ _ _ st h=>fL st.1.choose_spec h
theorem vK(t:Al)(l:Am)(xs:AO Aj):Meets (Builtin.«enumerate.__new__» ⟨[.type "enumerate",.ref l],[]⟩) (λ_ R s=>CK t s.heap l xs /\
   R (.ok (.ret (.ref (s.heap.push (ñ t l)).objs.size))) { s with heap:=(s.heap.push (ñ t l)).push { cls:=.type "enumerate",data:=.fields #[.none,.bool Ae,.ref s.heap.objs.size,CJ 0,.none,.none] } }):=
 .of_wp λprog w A R s h=>by
  obtain⟨hp,g,d,tk,os⟩:=s;obtain⟨hl,h⟩:=h;have Ì:=sub_enumerate;have hL:CK t (GI ⟨hp,g,d,tk,os⟩) l xs:=hl
  wp_walk
  refine wpAny_stack_any λst=>Az ?_
  split
  .rename_i c _ _ _ _ _;cases (c==C2 "enumerate")
   .wp_walk using KW hL
    exact⟨_,rfl,h⟩
   .wp_walk using KW hL
    exact⟨_,rfl,h⟩
  .wp_walk using KW hL
   exact⟨_,rfl,h⟩
theorem rH{A:Bm}{E:Vq}{xs:AO Aj}{Q:Vq}(hL:CK t s.heap l xs)(h:∀ h',IsEnum h' (s.heap.objs.size+1) s.heap.objs.size 0 .none->Fp t h' s.heap.objs.size l 0->(∀ b o,s.heap.get? b=Ab o->h'.get? b=Ab o)->Q (.ref (s.heap.objs.size+1)) {s with heap:=h'}):
    AD (model prog w) A (call (.type "enumerate") [.ref l]) Q E s:=by
  refine Kx F.called_enumerate (by decide) (F.typeCall_enumerate_1 _) (F.newCall_enumerate_1 _) (λobj=>cU obj _) F.entry_enumerate_new (vK t l xs) ⟨hL,?_⟩
  have hz:(s.heap.push (ñ t l)).objs.size=s.heap.objs.size+1:=Bg ..;show _/\_;rw[hz];have he:IsEnum ((s.heap.push (ñ t l)).push { cls:=.type "enumerate",data:=.fields #[.none,.bool Ae,.ref s.heap.objs.size,CJ 0,.none,.none] }) (s.heap.objs.size+1) s.heap.objs.size 0 .none:=by
    have:=AB (s.heap.push (ñ t l)) (o:={ cls:=.type "enumerate",data:=.fields #[.none,.bool Ae,.ref s.heap.objs.size,CJ 0,.none,.none] }) rfl;rw[hz]at this;exact this
  exact⟨⟨_,he,rfl⟩,h _ he (MD (Ar _ (AB _ (Mu _ _)))) λb o x=>Ar _ (Ar _ x)⟩
def mT(K:Fg)(ta:TA):TI:=λY H R=>ta Y H λvs H1=>∃ t a xs,vs=[.ref a]/\Õ t K H1 a xs/\(xs.length<=sizeLine->R (Ite K t a) H1)
theorem xG{a:Aq}(hg:Gl X "enumerate")(hm:X.mg "enumerate" = Af)(ha:PA X [a] ta)(hs:AN [a] X.env=[(Ae,eval a X.env)]):
  PI X (.Tuple es n tpos) (.Call (.Name "enumerate" p) [a] [] pos) (mT X.K ta):=by
 intro pI s Y H R I h;refine Iq (HB I hg hm PyProof.Rows.boot_enumerate (B7 (LT (ha pos pI s Y H _ I h) λus s1 ⟨vs,H1,I1,r1,q1⟩=>?_) hs rfl))
 obtain⟨t,c,xs,e,sx,q⟩:=q1;subst e;cases r1 with
 |cons r rr=>
  cases rr;cases r;obtain⟨us,ru,pu,zu⟩:=H9 I1 sx;refine rH pu λh2 z1 z2 kp=>fL z1 ?_
  refine⟨s1.heap.objs.size+1,[s1.heap.objs.size,s1.heap.objs.size+1],_,_,H1,rfl,I1.kept (t':=s1.toks) kp,rD t s1.heap.objs.size c pu.lt,⟨⟨_,z1⟩,z2⟩,λb hb=>?_,q zu⟩
  have Ϟ:s1.heap.objs.size<=b:=by
   simp only[Aw,A2,Ca]at hb;rcases hb with z|z<;>rw[z]<;>simp
  exact I1.fpOk Ϟ (I1.hok.fresh Ϟ)
theorem SD:∀(j:Ad)(xs:Ac D),(E6 j xs).length=xs.length
 |_,[]=>rfl
 |j,x::xs=>by rw[E6,BS,SD,BS]
theorem WS:∀(xs:Ac D)(j:Ad)(i:Ag)(d:D),(E6 j xs)[i]?=Ab d->∃ x,xs[i]?=Ab x/\d=.H [.int (j+i),x]
 |[],j,i,d,h=>by simp[E6]at h
 |x::xs,j,0,d,h=>by
  rw[E6]at h;simp only[E4,CB]at h;exact⟨x,rfl,by rw[<-h];simp⟩
 |x::xs,j,i+1,d,h=>by
  rw[E6]at h;simp only[E0]at h ⊢;obtain⟨y,h1,h2⟩:=WS xs (j+1) i d h;exact⟨y,h1,by rw[h2];congr 3;omega⟩
theorem rB(sq:∀ H2,Kp A H1 H2->Õ t K H2 a xs)(r1:Z7 K CL H1 A xs ds):Ke K CL A (E6 0 ds) (Ite K t a) H1:=λH k i=>by
 have s1:=sq H k;refine⟨λhi=>⟨xs,s1,?_⟩,λd hd=>?_⟩
 .rw[SD]at hi;rw[r1.length];exact hi
 .obtain⟨x,hx,rfl⟩:=WS _ _ _ _ hd;obtain⟨u,hu,ru⟩:=r1.get hx;refine⟨⟨xs,u,s1,hu⟩,?_⟩;rintro w' H' ⟨p,x',hp,rfl,c1,rfl⟩;have ex:x'=u:=BX ((c1 xs s1).symm.trans hu);subst ex;rw[Dm];exact⟨GA hp (.H [.int i,x']),λB hB aB=>Mz aB hp ⟨rfl,NB ru k hB,trivial⟩⟩
theorem yW{a:Aq}(ha:SE X CL W a fa)(hg:Gl X "enumerate")(hm:X.mg "enumerate" = Af)(hs:AN [a] X.env=[(Ae,eval a X.env)]):
  SI X CL W (.Tuple es n tpos) (.Call (.Name "enumerate" p) [a] [] pos) (λU=>(fa U).bind λx=>(Ct x).bind λxs=>.ok (E6 0 xs)):=
 λA=>PI.weak (xG hg hm (Gi (ha A) HZ hs) hs) λY H R ⟨hA,U,g,q⟩=>⟨hA,U,g,FS.ex q λd v H1 _ s1 r1 p1=>by
  cases e1:Ct d with
  |bad=>rw[e1]at p1;exact p1.elim
  |exn z=>exact absurd e1 (by cases d<;>simp[Ct])
  |ok ds=>
   rw[e1]at p1;obtain⟨t,c,xs,rfl,k1,rs⟩:=MP r1 e1;exact⟨t,c,xs,rfl,k1 H1 (Kp.of (A1.refl H1)),λhz=>p1 _ H1 (A1.refl H1) (rB k1 rs) (by rw[SD,<-rs.length];exact hz)⟩⟩
noncomputable abbrev Fo(h:AS)(z TI TO:Am)(f0 f1:Aj):Prop:=h.get? z=Ab { cls:=.type "zip",dict:=Af,data:=.fields #[f0,f1,.bool Ae,.ref TI,.ref TO],slots:=#[] }
noncomputable abbrev E7(h:AS)(T:Am)(a b c:Aj):Prop:=h.get? T=Ab { cls:=.type "tuple",data:=.seq #[a,b,c] }
section
variable{A:Bm}{E:Vq}
theorem î{I c:Ag}(b:l<I)(h:c∈[I+j,l])(i:Ag)(hi:i≠j):c≠I+i:=by
 have h':c=I+j\/c=l:=by simpa using h
 omega
theorem Wp{z TI TO T1:Ag}(hz:Fo s.heap z TI TO (CJ T1) (.bool f1))(hT:s.heap.get? T1=Ab o1)(go:∀ h1,Fo h1 z TI TO (CJ T1) (.bool Aa)->(∀ c o,c≠z->s.heap.get? c=Ab o->h1.get? c=Ab o)->h1.objs.size=s.heap.objs.size->Q Ae {s with heap:=h1}):AD (model prog w) A (Bb (.ref z)) Q E s:=by
 simp only[Bb];refine Ah (Bv hz rfl (x:=CJ T1) rfl ?_);show AD _ _ (loadIfAlive T1 >>= _) _ _ _;refine Ah (λZ p _=>?_)
 show AD _ _ _ _ _ _;rw[hT];show AD _ _ (field (.ref z) 1 >>= _) _ _ _;refine Ah (Bv hz rfl (x:=.bool f1) rfl ?_);cases f1 with
 |true=>exact Az (go s.heap hz (λ_ _ _ e=>e) rfl)
 |false=>exact Ah (Cs hz (by simp) λh1 z1 sb=>Az (go h1 z1 (λc o nc e=>sb.extBut c o nc e) sb.1))
theorem Wq{z TI TO:Ag}(hz:Fo s.heap z TI TO f0 f1)(hf:f0=.none\/∃ T1:Ag,f0=CJ T1/\s.heap.get? T1=Af)(go:Q Aa s):AD (model prog w) A (Bb (.ref z)) Q E s:=by
 simp only[Bb];rcases hf with rfl|⟨T1,rfl,hT⟩
 .exact Ah (Bv hz rfl (x:=.none) rfl (Az go))
 .refine Ah (Bv hz rfl (x:=CJ T1) rfl ?_);show AD _ _ (loadIfAlive T1 >>= _) _ _ _;refine Ah (λZ p _=>?_)
  show AD _ _ _ _ _ _;rw[hT];exact Az go
theorem qZ{I k T1:Ag}{Q:Vq}(b1:l1<I)(b2:l2<I)(b3:l3<I)(D1:Dw prog w A (I+0) [I+0,l1] n1 P1 S1)(D2:Dw prog w A (I+1) [I+1,l2] n2 P2 S2)(D3:Dw prog w A (I+2) [I+2,l3] n3 P3 S3)(hz:Fo s.heap (I+5) (I+3) (I+4) (CJ T1) (.bool f1))(hI:E7 s.heap (I+3) (.ref (I+0)) (.ref (I+1)) (.ref (I+2)))(hT:s.heap.get? T1=Ab o1)(g1:S1 k s.heap)(g2:S2 k s.heap)(g3:S3 k s.heap)(k1:k<n1)(k2:k<n2)(k3:k<n3)(go:∀ x y u h2 tk,P1 k x->P2 k y->P3 k u->Fo h2 (I+5) (I+3) (I+4) (CJ T1) (.bool Aa)->S1 (k+1) h2->S2 (k+1) h2->S3 (k+1) h2->E7 h2 s.heap.objs.size x y u->h2.objs.size=s.heap.objs.size+1 ->
   (∀ c o,c∉[I+0,I+1,I+2,I+5]->s.heap.get? c=Ab o->h2.get? c=Ab o)->Q (.ref s.heap.objs.size) {s with heap:=h2,toks:=tk}):AD (model prog w) A (Builtin.«zip.__next__» ⟨[.ref (I+5)],[]⟩) (λfin s'=>∃ v,fin=.done (.ret v)/\Q v s') E s:=by
 refine Ah (m:=field (.ref (I+5)) 2) (Bv hz rfl (x:=.bool Ae) rfl ?_);refine Ah (m:=field (.ref (I+5)) 3) (Bv hz rfl (x:=.ref (I+3)) rfl (Ah (Cf hI rfl ?_)));refine Ah (m:=Bb (.ref (I+5))) (Wp hz hT λp1 z1 e1 s1=>?_)
 rw[AH (by decide)]
 refine Ah ?_;simp only[<-HN,Ep,Ee];have Ł:S1 k p1:=D1.frame _ _ _ g1 λc hc o q=>e1 c o (î b1 hc 5 (by decide)) q
 refine Ah (Ah (CG (Ah (m:=Ba (.ref (I+0))) (D1.item k _ _ _ k1 Ł λx p2 t2 px s2 e2=>Az (Az ?_)))))
 have f2':S2 k p2:=D2.frame _ _ _ g2 λc hc o q=>e2.extBut c o (î b2 hc 0 (by decide)) (e1 c o (î b2 hc 5 (by decide)) q)
 refine Ah (Ah (CG (Ah (m:=Ba (.ref (I+1))) (D2.item k _ _ _ k2 f2' λy p3 t3 py s3 e3=>Az (Az ?_)))))
 have f3':S3 k p3:=D3.frame _ _ _ g3 λc hc o q=>e3.extBut c o (î b3 hc 1 (by decide)) (e2.extBut c o (î b3 hc 0 (by decide)) (e1 c o (î b3 hc 5 (by decide)) q))
 refine Ah (Ah (CG (Ah (m:=Ba (.ref (I+2))) (D3.item k _ _ _ k3 f3' λu p4 t4 pu s4 e4=>Az (Az (Az ?_))))))
 refine Ah (Hy (hsz:=by show 3<=sizeLine;decide) (Az ⟨_,rfl,?_⟩))
 have sz:p4.objs.size=s.heap.objs.size:=by rw[e4.1,e3.1,e2.1,s1]
 have z4:Fo p4 (I+5) (I+3) (I+4) (CJ T1) (.bool Aa):=e4.extBut _ _ (é (by decide)) (e3.extBut _ _ (é (by decide)) (e2.extBut _ _ (é (by decide)) z1))
 have a1:S1 (k+1) p4:=D1.frame _ _ _ s2 λc hc o q=>e4.extBut c o (î b1 hc 2 (by decide)) (e3.extBut c o (î b1 hc 1 (by decide)) q)
 have a2:S2 (k+1) p4:=D2.frame _ _ _ s3 λc hc o q=>e4.extBut c o (î b2 hc 2 (by decide)) q
 have Đ:∀ {c o},p4.get? c=Ab o->(p4.push { cls:=.type "tuple",data:=.seq #[x,y,u] }).get? c=Ab o:=λq=>Ar _ q
 have q:=go x y u (p4.push { cls:=.type "tuple",data:=.seq #[x,y,u] }) t4 px py pu (Đ z4) (D1.frame _ _ _ a1 λc _ o q=>Đ q) (D2.frame _ _ _ a2 λc _ o q=>Đ q) (D3.frame _ _ _ s4 λc _ o q=>Đ q) (by rw[<-sz];exact AB _ rfl) (by rw[Bg,sz]) (λc o nc q=>by
  simp only[Aw,A2,Ca,DR]at nc;exact Đ (e4.extBut c o nc.2.2.1 (e3.extBut c o nc.2.1 (e2.extBut c o nc.1 (e1 c o nc.2.2.2 q)))))
 rw[<-sz]at q;exact q
theorem qY{I k T1:Ag}(b1:l1<I)(D1:Dw prog w A (I+0) [I+0,l1] n1 P1 S1)(hz:Fo s.heap (I+5) (I+3) (I+4) (CJ T1) (.bool f1))(hI:E7 s.heap (I+3) (.ref (I+0)) (.ref (I+1)) (.ref (I+2)))(hT:s.heap.get? T1=Ab o1)(g1:S1 k s.heap)(k1:n1<=k)(up:∀ h2 e,(∀ c o,c∉[I+0,I+5]->s.heap.get? c=Ab o->h2.get? c=Ab o)->(∃ o,h2.get? e=Ab o/\o.cls=.type "StopIteration")->E (.ref e) {s with heap:=h2}):AD (model prog w) A (Builtin.«zip.__next__» ⟨[.ref (I+5)],[]⟩) Q E s:=by
 refine Ah (m:=field (.ref (I+5)) 2) (Bv hz rfl (x:=.bool Ae) rfl ?_);refine Ah (m:=field (.ref (I+5)) 3) (Bv hz rfl (x:=.ref (I+3)) rfl (Ah (Cf hI rfl ?_)));refine Ah (m:=Bb (.ref (I+5))) (Wp hz hT λp1 z1 e1 s1=>?_)
 rw[AH (by decide)]
 refine Ah ?_;simp only[<-HN,Ep,Ee];have Ł:S1 k p1:=D1.frame _ _ _ g1 λc hc o q=>e1 c o (î b1 hc 5 (by decide)) q
 refine Ah (Ah (CG (Ah (m:=Ba (.ref (I+0))) (D1.done k _ _ _ k1 Ł λp2 e e2 he=>up p2 e (λc o nc q=>?_) he))))
 simp only[Aw,A2,Ca,DR]at nc;exact e2 c o nc.1 (e1 c o nc.2 q)
theorem sN{I k:Ag}(b1:l1<I)(D1:Dw prog w A (I+0) [I+0,l1] n1 P1 S1)(hz:Fo s.heap (I+5) (I+3) (I+4) f0 f1)(hf:f0=.none\/∃ T1:Ag,f0=CJ T1/\s.heap.get? T1=Af)(hI:E7 s.heap (I+3) (.ref (I+0)) (.ref (I+1)) (.ref (I+2)))(g1:S1 k s.heap)(k1:n1<=k)(up:∀ h2 e,(∀ c o,c∉[I+0,I+5]->s.heap.get? c=Ab o->h2.get? c=Ab o)->(∃ o,h2.get? e=Ab o/\o.cls=.type "StopIteration")->E (.ref e) {s with heap:=h2}):AD (model prog w) A (Builtin.«zip.__next__» ⟨[.ref (I+5)],[]⟩) Q E s:=by
 refine Ah (m:=field (.ref (I+5)) 2) (Bv hz rfl (x:=.bool Ae) rfl ?_);refine Ah (m:=field (.ref (I+5)) 3) (Bv hz rfl (x:=.ref (I+3)) rfl (Ah (Cf hI rfl ?_)));refine Ah (m:=Bb (.ref (I+5))) (Wq hz hf ?_);rw[AC rfl];refine Ah (Hj (Ah (Bv hz rfl (x:=.ref (I+4)) rfl (Ah (Cs hz (by simp) λp1 z1 e1=>Ah ?_)))))
 have Ť:Fo p1 (I+5) (I+3) (I+4) .ellipsis f1:=z1;simp only[GO,G9,Ep,Ee];have g1':S1 k p1:=D1.frame _ _ _ g1 λc hc o q=>e1.extBut c o (î b1 hc 5 (by decide)) q
 refine Ah (Ah (D9 (Ah (m:=Ba (.ref (I+0))) (D1.done _ _ _ _ k1 g1' λp2 e e2 he=>?_))))
 obtain⟨oe,η,Ś⟩:=he;have z2:Fo p2 (I+5) (I+3) (I+4) .ellipsis f1:=e2 _ _ (é (by decide)) Ť
 have ne:e≠I+5:=λx=>by subst x;rw[z2]at η;cases η;simp at Ś
 refine Cs z2 (by simp) λp3 _ e3=>up p3 e (λc o nc q=>?_) ⟨oe,e3.extBut _ _ ne η,Ś⟩
 simp only[Aw,A2,Ca,DR]at nc;exact e3.extBut c o nc.2 (e2 c o nc.1 (e1.extBut c o nc.2 q))
theorem TH{a b c x:Aj}(h:E7 s.heap T a b c)(go:∀ h2,h2.get? T=Ab { cls:=.type "tuple",data:=.seq ((#[a,b,c]:AO Aj).setIfInBounds k x) }->FA T s.heap h2->Q () {s with heap:=h2}):AD (model prog w) A (Ji T (·.setIfInBounds k x)) Q E s:=by
 refine Gc h rfl (go _ ?_ (F3 ..)) (by show 3<=sizeLine;decide) (by show ((#[a,b,c]:AO Aj).setIfInBounds k x).size<=sizeLine+1;rw[Array.size_setIfInBounds];show 3<=sizeLine+1;decide)
 rw[Ck _ h rfl];simp[Bx]
theorem pW{I k:Ag}{a b c:Aj}{Q:Vq}(b1:l1<I)(b2:l2<I)(b3:l3<I)(D1:Dw prog w A (I+0) [I+0,l1] n1 P1 S1)(D2:Dw prog w A (I+1) [I+1,l2] n2 P2 S2)(D3:Dw prog w A (I+2) [I+2,l3] n3 P3 S3)(hz:Fo s.heap (I+5) (I+3) (I+4) f0 f1)(hf:f0=.none\/∃ T1:Ag,f0=CJ T1/\s.heap.get? T1=Af)(hI:E7 s.heap (I+3) (.ref (I+0)) (.ref (I+1)) (.ref (I+2)))(hO:E7 s.heap (I+4) a b c)(g1:S1 k s.heap)(g2:S2 k s.heap)(g3:S3 k s.heap)(k1:k<n1)(k2:k<n2)(k3:k<n3)(go:∀ x y u h2 tk,P1 k x->P2 k y->P3 k u->Fo h2 (I+5) (I+3) (I+4) (CJ s.heap.objs.size) (.bool Ae)->S1 (k+1) h2->S2 (k+1) h2->S3 (k+1) h2->E7 h2 s.heap.objs.size x y u->E7 h2 (I+4) x y u->h2.objs.size=s.heap.objs.size+1 ->
   (∀ c o,c∉[I+0,I+1,I+2,I+4,I+5]->s.heap.get? c=Ab o->h2.get? c=Ab o)->Q (.ref s.heap.objs.size) {s with heap:=h2,toks:=tk}):AD (model prog w) A (Builtin.«zip.__next__» ⟨[.ref (I+5)],[]⟩) (λfin s'=>∃ v,fin=.done (.ret v)/\Q v s') E s:=by
 refine Ah (m:=field (.ref (I+5)) 2) (Bv hz rfl (x:=.bool Ae) rfl ?_);refine Ah (m:=field (.ref (I+5)) 3) (Bv hz rfl (x:=.ref (I+3)) rfl (Ah (Cf hI rfl ?_)));refine Ah (m:=Bb (.ref (I+5))) (Wq hz hf ?_);rw[AC rfl];refine Ah (Hj (Ah (Bv hz rfl (x:=.ref (I+4)) rfl (Ah (Cs hz (by simp) λp1 z1 e1=>Ah ?_)))))
 have Ť:Fo p1 (I+5) (I+3) (I+4) .ellipsis f1:=z1;simp only[GO,G9,Ep,Ee];have Ł:S1 k p1:=D1.frame _ _ _ g1 λc hc o q=>e1.extBut c o (î b1 hc 5 (by decide)) q
 refine Ah (Ah (D9 (Ah (m:=Ba (.ref (I+0))) (D1.item k _ _ _ k1 Ł λx p2 t2 px s2 e2=>Az ?_))))
 have o2:E7 p2 (I+4) a b c:=e2.extBut _ _ (é (by decide)) (e1.extBut _ _ (é (by decide)) hO)
 refine Ah (Cf o2 rfl (Ah (TH o2 λp3 o3 e3=>Ah (F2 (Az ?_)))))
 have o3':E7 p3 (I+4) x b c:=o3;have f2':S2 k p3:=D2.frame _ _ _ g2 λc hc o q=>e3.extBut c o (î b2 hc 4 (by decide)) (e2.extBut c o (î b2 hc 0 (by decide)) (e1.extBut c o (î b2 hc 5 (by decide)) q))
 refine Ah (Ah (D9 (Ah (m:=Ba (.ref (I+1))) (D2.item k _ _ _ k2 f2' λy p4 t4 py s4 e4=>Az ?_))))
 have o4:E7 p4 (I+4) x b c:=e4.extBut _ _ (é (by decide)) o3'
 refine Ah (Cf o4 rfl (Ah (TH o4 λp5 o5 e5=>Ah (F2 (Az ?_)))))
 have o5':E7 p5 (I+4) x y c:=o5;have f3':S3 k p5:=D3.frame _ _ _ g3 λc hc o q=>e5.extBut c o (î b3 hc 4 (by decide)) (e4.extBut c o (î b3 hc 1 (by decide)) (e3.extBut c o (î b3 hc 4 (by decide)) (e2.extBut c o (î b3 hc 0 (by decide)) (e1.extBut c o (î b3 hc 5 (by decide)) q))))
 refine Ah (Ah (D9 (Ah (m:=Ba (.ref (I+2))) (D3.item k _ _ _ k3 f3' λu p6 t6 pu s6 e6=>Az ?_))))
 have o6:E7 p6 (I+4) x y c:=e6.extBut _ _ (é (by decide)) o5'
 refine Ah (Cf o6 rfl (Ah (TH o6 λp7 o7 e7=>Ah (F2 (Az (Az ?_))))))
 have o7':E7 p7 (I+4) x y u:=o7;have sz:p7.objs.size=s.heap.objs.size:=by rw[e7.1,e6.1,e5.1,e4.1,e3.1,e2.1,e1.1]
 have z7:Fo p7 (I+5) (I+3) (I+4) .ellipsis f1:=e7.extBut _ _ (é (by decide)) (e6.extBut _ _ (é (by decide)) (e5.extBut _ _ (é (by decide)) (e4.extBut _ _ (é (by decide)) (e3.extBut _ _ (é (by decide)) (e2.extBut _ _ (é (by decide)) Ť)))))
 refine Ah (Cf o7' rfl (Ah (Hy (hsz:=by show 3<=sizeLine;decide) ?_)))
 refine Ah (m:=Dp (.ref (I+5)) (.ref p7.objs.size)) ?_;simp only[Dp];have z8:Fo (p7.push { cls:=.type "tuple",data:=.seq #[x,y,u] }) (I+5) (I+3) (I+4) .ellipsis f1:=Ar _ z7;refine Ah (Cs z8 (by simp) λp9 z9 e9=>?_)
 have z9':Fo p9 (I+5) (I+3) (I+4) (CJ p7.objs.size) f1:=z9;refine Cs z9' (by simp) λpa za ea=>Az ⟨_,rfl,?_⟩
 have za':Fo pa (I+5) (I+3) (I+4) (CJ p7.objs.size) (.bool Ae):=za;have ĉ:I+5<p7.objs.size:=AE z7;have up:∀ c o,c≠I+5->p7.get? c=Ab o->pa.get? c=Ab o:=λc o nc q=>ea.extBut _ _ nc (e9.extBut _ _ nc (Ar _ q))
 have a1:S1 (k+1) pa:=D1.frame _ _ _ s2 λc hc o q=>up c o (î b1 hc 5 (by decide)) (e7.extBut c o (î b1 hc 4 (by decide)) (e6.extBut c o (î b1 hc 2 (by decide)) (e5.extBut c o (î b1 hc 4 (by decide)) (e4.extBut c o (î b1 hc 1 (by decide)) (e3.extBut c o (î b1 hc 4 (by decide)) q)))))
 have a2:S2 (k+1) pa:=D2.frame _ _ _ s4 λc hc o q=>up c o (î b2 hc 5 (by decide)) (e7.extBut c o (î b2 hc 4 (by decide)) (e6.extBut c o (î b2 hc 2 (by decide)) (e5.extBut c o (î b2 hc 4 (by decide)) q)))
 have a3:S3 (k+1) pa:=D3.frame _ _ _ s6 λc hc o q=>up c o (î b3 hc 5 (by decide)) (e7.extBut c o (î b3 hc 4 (by decide)) q)
 have tp:E7 pa p7.objs.size x y u:=ea.extBut _ _ (Cm ĉ) (e9.extBut _ _ (Cm ĉ) (AB _ rfl));have q:=go x y u pa t6 px py pu (by rw[<-sz];exact za') a1 a2 a3 (by rw[<-sz];exact tp) (up _ _ (é (by decide)) o7') (by rw[ea.1,e9.1,Bg,sz]) (λc o nc q=>by
  simp only[Aw,A2,Ca,DR]at nc;exact up c o nc.2.2.2.2 (e7.extBut c o nc.2.2.2.1 (e6.extBut c o nc.2.2.1 (e5.extBut c o nc.2.2.2.1 (e4.extBut c o nc.2.1 (e3.extBut c o nc.2.2.2.1 (e2.extBut c o nc.1 (e1.extBut c o nc.2.2.2.2 q))))))))
 rw[<-sz]at q;exact q
def É(t1 t2 t3:Al)(I l1 l2 l3 i:Ag)(h:AS):Prop:=E7 h (I+3) (.ref (I+0)) (.ref (I+1)) (.ref (I+2))/\Fp t1 h (I+0) l1 i/\Fp t2 h (I+1) l2 i/\Fp t3 h (I+2) l3 i/\(∃ a b c,E7 h (I+4) a b c) /\
 (Fo h (I+5) (I+3) (I+4) .none (.bool Ae)\/∃(T1:Ag)(f1:Al),Fo h (I+5) (I+3) (I+4) (CJ T1) (.bool f1))
noncomputable def ϙ(I:Ag):Ac Am:=[I+0,I+1,I+2,I+4,I+5]
theorem wM{I i:Ag}{xs:AO Aj}{x:Aj}(calm:A.handled=Af)(b1:l1<I)(b2:l2<I)(b3:l3<I)(z:É t1 t2 t3 I l1 l2 l3 i s.heap)(q1:CK t1 s.heap l1 xs)(q2:CK t2 s.heap l2 ys)(q3:CK t3 s.heap l3 us)(hx:xs[i]?=Ab x)(hy:ys[i]?=Ab y)(hu:us[i]?=Ab u)(go:∀ h2 tk,É t1 t2 t3 I l1 l2 l3 (i+1) h2->E7 h2 s.heap.objs.size x y u->h2.objs.size=s.heap.objs.size+1->(∀ c o,c∉ϙ I->s.heap.get? c=Ab o->h2.get? c=Ab o)->Q (Ab (.ref s.heap.objs.size)) {s with heap:=h2,toks:=tk}):AD (model prog w) A (Ek (.ref (I+5))) Q E s:=by
 obtain⟨zI,i1,i2,i3,zz⟩:=z;have ã:A.in1.handled=Af:=calm;have lt:∀{v:AO Aj}{k:Ag}{a:Aj},v[k]?=Ab a->k<v.size:=λh=>by
  rw[Array.getElem?_eq_some_iff]at h;exact h.1
 have inj:∀{v:AO Aj}{k:Ag}{a b:Aj},v[k]?=Ab a->v[k]?=Ab b->b=a:=λh1 h2=>by
  rw[h1]at h2;exact(BX h2).symm
 have d1:=Jw (prog:=prog) (w:=w) ã t1 (I+0) l1 (AZ b1) xs;have d2:=Jw (prog:=prog) (w:=w) ã t2 (I+1) l2 (AZ (AF b2 (DU _ _))) ys;have d3:=Jw (prog:=prog) (w:=w) ã t3 (I+2) l3 (AZ (AF b3 (DU _ _))) us;obtain⟨⟨a,b,c,hO⟩,zz⟩:=zz;have fst:∀{f0 f1:Aj},Fo s.heap (I+5) (I+3) (I+4) f0 f1->(f0=.none\/∃ T1:Ag,f0=CJ T1/\s.heap.get? T1=Af)->AD (model prog w) A (Ek (.ref (I+5))) Q E s:=λhz hf=>by
  have ϓ:s.TypeIs (.ref (I+5)) "zip" := ⟨_,hz,rfl⟩;simp only[Ek];refine Ah (FX (Cy ϓ CU (CZ CU ϓ EU (pW (k:=i) b1 b2 b3 d1 d2 d3 hz hf zI hO ⟨i1,q1⟩ ⟨i2,q2⟩ ⟨i3,q3⟩ (lt hx) (lt hy) (lt hu) λx' y' u' h2 tk px py pu c1 c2 c3 c4 c5 c6 c7 kp=>Az ?_) (EB _))))
  rw[inj hx px,inj hy py,inj hu pu]at c5;exact go h2 tk ⟨kp _ _ (by simp) zI,c2.1,c3.1,c4.1,⟨_,_,_,c6⟩,.inr ⟨_,_,c1⟩⟩ c5 c7 kp
 rcases zz with hz|⟨T1,f1,hz⟩
 .exact fst hz (.inl rfl)
 .cases hT:s.heap.get? T1 with
  |none=>exact fst hz (.inr ⟨T1,rfl,hT⟩)
  |some o1=>
   have ϓ:s.TypeIs (.ref (I+5)) "zip" := ⟨_,hz,rfl⟩;simp only[Ek];refine Ah (FX (Cy ϓ CU (CZ CU ϓ EU (qZ (k:=i) b1 b2 b3 d1 d2 d3 hz zI hT ⟨i1,q1⟩ ⟨i2,q2⟩ ⟨i3,q3⟩ (lt hx) (lt hy) (lt hu) λx' y' u' h2 tk px py pu c1 c2 c3 c4 c5 c6 kp=>Az ?_) (EB _))))
   rw[inj hx px,inj hy py,inj hu pu]at c5;exact go h2 tk ⟨kp _ _ (by simp) zI,c2.1,c3.1,c4.1,⟨a,b,c,kp _ _ (by simp) hO⟩,.inr ⟨T1,Aa,c1⟩⟩ c5 c6 (λc o nc q=>kp c o (λh=>nc (by simp only[ϙ,Aw,A2,Ca]at h ⊢;rcases h with h|h|h|h<;>simp[h])) q)
theorem j9{I i:Ag}{xs:AO Aj}(calm:A.handled=Af)(b1:l1<I)(z:É t1 t2 t3 I l1 l2 l3 i s.heap)(q1:CK t1 s.heap l1 xs)(hx:xs.size<=i)(go:∀ h2,(∀ c o,c∉ϙ I->s.heap.get? c=Ab o->h2.get? c=Ab o)->Q Af {s with heap:=h2}):AD (model prog w) A (Ek (.ref (I+5))) Q E s:=by
 obtain⟨zI,i1,i2,i3,zz⟩:=z;have ã:A.in1.handled=Af:=calm;have d1:=Jw (prog:=prog) (w:=w) ã t1 (I+0) l1 (AZ b1) xs;have go':∀ h2 e,(∀ c o,c∉[I+0,I+5]->s.heap.get? c=Ab o->h2.get? c=Ab o)->(∃ o,h2.get? e=Ab o/\o.cls=.type "StopIteration")->AD (model prog w) A (isInstance (.ref e) (.type "StopIteration") >>= λb=>if b=Aa then pure Af else throw (.ref e)) Q E {s with heap:=h2}:=λh2 e kp ⟨o,ho,Ϻ⟩=>
  Ah (IJ (T := "StopIteration") (b:=Aa) ⟨o,ho,Ϻ⟩ eZ (Az (go h2 λc o nc q=>kp c o (λh=>nc (by simp only[ϙ,Aw,A2,Ca]at h ⊢;rcases h with h|h<;>simp[h])) q)))
 have fin:∀{f0 f1:Aj},Fo s.heap (I+5) (I+3) (I+4) f0 f1->(f0=.none\/∃ T1:Ag,f0=CJ T1/\s.heap.get? T1=Af)->AD (model prog w) A (Ek (.ref (I+5))) Q E s:=λhz hf=>by
  have ϓ:s.TypeIs (.ref (I+5)) "zip" := ⟨_,hz,rfl⟩;simp only[Ek];exact Ah (FX (Cy ϓ CU (CZ CU ϓ EU (sN (k:=i) b1 d1 hz hf zI ⟨i1,q1⟩ hx λh2 e kp he=>go' h2 e kp he) (EB _))))
 obtain⟨_,zz⟩:=zz;rcases zz with hz|⟨T1,f1,hz⟩
 .exact fin hz (.inl rfl)
 .cases hT:s.heap.get? T1 with
  |none=>exact fin hz (.inr ⟨T1,rfl,hT⟩)
  |some o1=>
   have ϓ:s.TypeIs (.ref (I+5)) "zip" := ⟨_,hz,rfl⟩;simp only[Ek];exact Ah (FX (Cy ϓ CU (CZ CU ϓ EU (qY (k:=i) b1 d1 hz zI hT ⟨i1,q1⟩ hx λh2 e kp he=>go' h2 e kp he) (EB _))))
end
def MI(I S:Ag)(xs ys us:AO Aj)(i:Ag)(Z1:AO Aj)(h:AS):Prop:=Z1.size=i/\(∀ j,j<i->∃(a:Ag)(x y u:Aj),Z1[j]?=Ab (.ref a)/\xs[j]?=Ab x/\ys[j]?=Ab y/\us[j]?=Ab u/\E7 h a x y u/\I+5<a/\a≠S)/\∀(j1 j2 a:Ag),Z1[j1]?=Ab (Ds a)->Z1[j2]?=Ab (Ds a)->j1=j2
theorem CK.at'{Z9:AO Aj}(z:CK t h l Z9)(k:∀ o,h.get? l=Ab o->h2.get? l=Ab o):CK t h2 l Z9:=by
 cases t with
 |true=>exact PySem.Heap.IsTuple.at z k
 |false=>exact PySem.Heap.IsList.at z k
theorem Qr{I a:Ag}(h:I+5<a):a∉ϙ I:=by
 intro z;simp only[ϙ,Aw,A2,Ca]at z;rcases z with z|z|z|z|z<;>· rw[z]at h;exact absurd h (Fe.mpr (Ht (by decide) I))
theorem Qe{I:Ag}(h:l<I):l∉ϙ I:=by
 intro z;simp only[ϙ,Aw,A2,Ca]at z;rcases z with z|z|z|z|z<;>· rw[z]at h;exact absurd h (Fe.mpr (DU I _))
theorem É.at'{I i:Ag}{h h2:AS}(z:É t1 t2 t3 I l1 l2 l3 i h)(k:∀ j,j<=5->∀ o,h.get? (I+j)=Ab o->h2.get? (I+j)=Ab o):É t1 t2 t3 I l1 l2 l3 i h2:=by
 obtain⟨zI,i1,i2,i3,⟨a,b,c,hO⟩,zz⟩:=z;exact⟨k 3 (by decide) _ zI,i1.at' λo q=>k 0 (by decide) o q,i2.at' λo q=>k 1 (by decide) o q,i3.at' λo q=>k 2 (by decide) o q,⟨a,b,c,k 4 (by decide) _ hO⟩,zz.imp (k 5 (by decide) _) λ⟨T1,f1,hz⟩=>⟨T1,f1,k 5 (by decide) _ hz⟩⟩
theorem wO{A:Bm}{R:Kq->At->Prop}{I n:Ag}{xs:AO Aj}(calm:A.handled=Af)(b1:l1<I)(b2:l2<I)(b3:l3<I)(S:Ag)(hS:I+5<S)(n0:0<n)(nn:n<=1000)(e1:xs.size=n)(e2:ys.size=n)(e3:us.size=n):
  ∀(k i:Ag)(s:At)(Z1:AO Aj)(c:Ag),n-i=k->i<=n->É t1 t2 t3 I l1 l2 l3 i s.heap->CK t1 s.heap l1 xs->CK t2 s.heap l2 ys->CK t3 s.heap l3 us ->
  s.heap.get? S=Ab { cls:=.type "list",dict:=Af,data:=.seq Z1 c,slots:=#[] }->MI I S xs ys us i Z1 s.heap ->
  (∀ h2 acc2 c2 tk,(∀ d o,d∉ϙ I->d≠S->s.heap.get? d=Ab o->h2.get? d=Ab o)->h2.get? S=Ab { cls:=.type "list",dict:=Af,data:=.seq acc2 c2,slots:=#[] }->MI I S xs ys us n acc2 h2->R (.ok (.ret res)) {s with heap:=h2,toks:=tk}) ->
  F0 (model prog w) A (.builtin "list.extend.loop" ⟨[.ref S,.ref (I+5),res],[]⟩) R s:=by
 have ã:A.in1.handled=Af:=calm;intro k
 induction k with
 |zero=>
  intro i s Z1 c hk hi hz q1 q2 q3 hSo hd hR;have ein:i=n:=aL hi (aM hk);subst ein;refine D6 cY ?_;rw[DA EZ _];refine Ah (m:=Ek (.ref (I+5))) (j9 ã b1 hz q1 (Ha e1) λh2 kp=>?_)
  exact Az (hR h2 Z1 c s.toks (λd o nd _ q=>kp d o nd q) (kp _ _ (Qr hS) hSo) ⟨hd.1,λj hj=>by
   obtain⟨a,x,y,u,r1,r2,r3,r4,r5,r6,r7⟩:=hd.2.1 j hj;exact⟨a,x,y,u,r1,r2,r3,r4,kp _ _ (Qr r6) r5,r6,r7⟩,hd.2.2⟩)
 |succ k ih=>
  intro i s Z1 c hk hi hz q1 q2 q3 hSo hd hR;have lt:i<n:=Nat.lt_of_sub_pos (by rw[hk];exact Nat.succ_pos _)
  have lx:i<xs.size:=by rw[e1];exact lt
  have ly:i<ys.size:=by rw[e2];exact lt
  have lu:i<us.size:=by rw[e3];exact lt
  refine D6 cY ?_;rw[DA EZ _];refine Ah (m:=Ek (.ref (I+5))) (wM ã b1 b2 b3 hz q1 q2 q3 (Cp lx) (Cp ly) (Cp lu) λh2 tk z2 tr sz kp=>?_)
  have hS2:=kp _ _ (Qr hS) hSo;refine Ah (m:=Ji S _) ?_;have ot:∀(f:Dr->Dr) d o,d≠S->h2.get? d=Ab o->(h2.update S f).get? d=Ab o:=λf d o nd q=>(Ch _ _ (A8 nd)).trans q
  have lS:I+5<s.heap.objs.size:=Gf hS (AE hSo);have nT:s.heap.objs.size≠S:=Cm (AE hSo);have hS3:=Ck (Bx (·.push (.ref s.heap.objs.size))) hS2 rfl;have lne:∀{l:Ag},l<I->l≠S:=λh e=>by rw[e]at h;exact absurd (Gf h (Ce (DU I 5) hS)) (BK _)
  refine Gc hS2 rfl (Az ⟨FW EZ _,ih (i+1) {s with heap:=h2.update S (Bx (·.push (.ref s.heap.objs.size))),toks:=tk} _ _ (by omega) lt (z2.at' λj hj o q=>ot _ _ o (λe=>by rw[<-e]at hS;exact absurd hS (Fe.mpr (Ht hj I))) q) ?_ ?_ ?_ hS3 ⟨by rw[ZG,hd.1],λj hj=>?_,?_⟩ λh4 acc4 c4 tk4 kp4 hS4 hd4=>hR h4 acc4 c4 tk4 (λd o nd ns q=>kp4 d o nd ns (ot _ d o ns (kp d o nd q))) hS4 hd4⟩) ?_ ?_
  .exact q1.at' λo q=>ot _ _ o (lne b1) (kp _ o (Qe b1) q)
  .exact q2.at' λo q=>ot _ _ o (lne b2) (kp _ o (Qe b2) q)
  .exact q3.at' λo q=>ot _ _ o (lne b3) (kp _ o (Qe b3) q)
  .by_cases ej:j=i
   .subst ej;exact⟨s.heap.objs.size,_,_,_,by rw[Hq,AC hd.1.symm],Cp lx,Cp ly,Cp lu,ot _ _ _ nT tr,lS,nT⟩
   .obtain⟨a,x,y,u,r1,r2,r3,r4,r5,r6,r7⟩:=hd.2.1 j (Fd (EA hj) ej);exact⟨a,x,y,u,by rw[Hq,AH (by rw[hd.1];exact ej)];exact r1,r2,r3,r4,ot _ _ _ r7 (kp _ _ (Qr r6) r5),r6,r7⟩
  .have old:∀(j a:Ag),Z1[j]?=Ab (Ds a)->a<s.heap.objs.size:=λj a e=>by
    have hj:j<i:=by rw[<-hd.1];exact(CS.mp e).1
    obtain⟨a',x,y,u,r1,r2,r3,r4,r5,r6,r7⟩:=hd.2.1 j hj;rw[e]at r1;cases r1;exact AE r5
   intro j1 j2 a q1 q2;rw[Hq]at q1 q2;split at q1
   .split at q2
    .omega
    .cases q1;exact absurd (old _ _ q2) (BK _)
   .split at q2
    .cases q2;exact absurd (old _ _ q1) (BK _)
    .exact hd.2.2 _ _ _ q1 q2
  .rw[hd.1];exact BZ (BZ hi nn) (by decide)
  .show (Z1.push _).size<=sizeLine+1;rw[ZG,hd.1];exact BZ (Nat.succ_le_succ (BZ hi nn)) (by decide)
theorem qX(a b c:Aj):checkTypeCall "zip" ⟨[a,b,c],[]⟩=pure ():=by kernel_rfl
theorem sO(a b c:Aj):eW "zip.__new__" ⟨[.type "zip",a,b,c],[]⟩=pure ():=by kernel_rfl
theorem zd(a b c d:Aj):argsOk "object.__init__" ⟨[a,b,c,d],[]⟩:=by
 unfold argsOk;rw[signature?_of (id := "object.__init__") (n:=['_','_','t','i','n','i','_','_']) (o:=['t','c','e','j','b','o']) (by kernel_rfl) F.owner_object];kernel_rfl
noncomputable abbrev Ę(t1 t2 t3:Al)(h:AS)(l1 l2 l3:Am):AS:=((h.push (ñ t1 l1)).push (ñ t2 l2)).push (ñ t3 l3)
noncomputable abbrev ę(t1 t2 t3:Al)(h:AS)(l1 l2 l3:Am):AS:=(Ę t1 t2 t3 h l1 l2 l3).push { cls:=.type "tuple",data:=.seq #[.ref h.objs.size,.ref (h.push (ñ t1 l1)).objs.size,.ref ((h.push (ñ t1 l1)).push (ñ t2 l2)).objs.size] }
noncomputable abbrev Ě(t1 t2 t3:Al)(h:AS)(l1 l2 l3:Am):AS:=(ę t1 t2 t3 h l1 l2 l3).push { cls:=.type "tuple",data:=.seq #[.none,.none,.none] }
noncomputable abbrev Ϙ(t1 t2 t3:Al)(h:AS)(l1 l2 l3:Am):AS:=(Ě t1 t2 t3 h l1 l2 l3).push { cls:=.type "zip",data:=.fields #[.none,.bool Ae,.bool Ae,.ref (Ę t1 t2 t3 h l1 l2 l3).objs.size,.ref (ę t1 t2 t3 h l1 l2 l3).objs.size] }
theorem sK(t1 t2 t3:Al)(l1 l2 l3:Am)(xs ys us:AO Aj):Meets (Builtin.«zip.__new__» ⟨[.type "zip",.ref l1,.ref l2,.ref l3],[]⟩) (λ_ R s=>CK t1 s.heap l1 xs/\CK t2 s.heap l2 ys/\CK t3 s.heap l3 us/\R (.ok (.ret (.ref (Ě t1 t2 t3 s.heap l1 l2 l3).objs.size))) {s with heap:=Ϙ t1 t2 t3 s.heap l1 l2 l3}):=
 .of_wp λprog w A R s h=>by
  obtain⟨hp,g,d,tk,os⟩:=s;obtain⟨a1,a2,a3,q⟩:=h;have Ì:=sub_zip;have L1:CK t1 (GI ⟨hp,g,d,tk,os⟩) l1 xs:=a1;have L2:CK t2 (GI ⟨hp.push (ñ t1 l1),g,d,tk,os⟩) l2 ys:=a2.push _;have L3:CK t3 (GI ⟨(hp.push (ñ t1 l1)).push (ñ t2 l2),g,d,tk,os⟩) l3 us:=(a3.push _).push _
  wp_walk using KW L1,KW L2,KW L3
  exact⟨_,rfl,q⟩
theorem rA{A:Bm}{E:Vq}{xs:AO Aj}{Q:Vq}(a1:CK t1 s.heap l1 xs)(a2:CK t2 s.heap l2 ys)(a3:CK t3 s.heap l3 us)(q:∀ h2,É t1 t2 t3 s.heap.objs.size l1 l2 l3 0 h2->h2.objs.size=s.heap.objs.size+6->(∀ c o,s.heap.get? c=Ab o->h2.get? c=Ab o)->Q (.ref (s.heap.objs.size+5)) {s with heap:=h2}):AD (model prog w) A (call (.type "zip") [.ref l1,.ref l2,.ref l3]) Q E s:=by
 refine Kx cX (by decide) (qX _ _ _) (sO _ _ _) (λobj=>zd obj _ _ _) dB (sK t1 t2 t3 l1 l2 l3 xs ys us) ⟨a1,a2,a3,?_⟩
 have s1:(s.heap.push (ñ t1 l1)).objs.size=s.heap.objs.size+1:=Bg ..;have s2:((s.heap.push (ñ t1 l1)).push (ñ t2 l2)).objs.size=s.heap.objs.size+2:=by rw[Bg,s1]
 have s3:(Ę t1 t2 t3 s.heap l1 l2 l3).objs.size=s.heap.objs.size+3:=by rw[Bg,s2]
 have s4:(ę t1 t2 t3 s.heap l1 l2 l3).objs.size=s.heap.objs.size+4:=by rw[Bg,s3]
 have s5:(Ě t1 t2 t3 s.heap l1 l2 l3).objs.size=s.heap.objs.size+5:=by rw[Bg,s4]
 have s6:(Ϙ t1 t2 t3 s.heap l1 l2 l3).objs.size=s.heap.objs.size+6:=by rw[Bg,s5]
 have u6:∀ {c o},(Ě t1 t2 t3 s.heap l1 l2 l3).get? c=Ab o->(Ϙ t1 t2 t3 s.heap l1 l2 l3).get? c=Ab o:=λe=>Ar _ e
 have u5:∀ {c o},(ę t1 t2 t3 s.heap l1 l2 l3).get? c=Ab o->(Ϙ t1 t2 t3 s.heap l1 l2 l3).get? c=Ab o:=λe=>u6 (Ar _ e)
 have u4:∀ {c o},(Ę t1 t2 t3 s.heap l1 l2 l3).get? c=Ab o->(Ϙ t1 t2 t3 s.heap l1 l2 l3).get? c=Ab o:=λe=>u5 (Ar _ e)
 have u3:∀ {c o},((s.heap.push (ñ t1 l1)).push (ñ t2 l2)).get? c=Ab o->(Ϙ t1 t2 t3 s.heap l1 l2 l3).get? c=Ab o:=λe=>u4 (Ar _ e)
 have u2:∀ {c o},(s.heap.push (ñ t1 l1)).get? c=Ab o->(Ϙ t1 t2 t3 s.heap l1 l2 l3).get? c=Ab o:=λe=>u3 (Ar _ e)
 have g6:(Ϙ t1 t2 t3 s.heap l1 l2 l3).get? (Ě t1 t2 t3 s.heap l1 l2 l3).objs.size=Ab _:=AB _ rfl;have g5:(Ϙ t1 t2 t3 s.heap l1 l2 l3).get? (ę t1 t2 t3 s.heap l1 l2 l3).objs.size=Ab _:=u6 (AB _ rfl);have g4:(Ϙ t1 t2 t3 s.heap l1 l2 l3).get? (Ę t1 t2 t3 s.heap l1 l2 l3).objs.size=Ab _:=u5 (AB _ rfl);have g3:(Ϙ t1 t2 t3 s.heap l1 l2 l3).get? ((s.heap.push (ñ t1 l1)).push (ñ t2 l2)).objs.size=Ab _:=u4 (AB _ (Mu _ _));have g2:(Ϙ t1 t2 t3 s.heap l1 l2 l3).get? (s.heap.push (ñ t1 l1)).objs.size=Ab _:=u3 (AB _ (Mu _ _));have g1:(Ϙ t1 t2 t3 s.heap l1 l2 l3).get? s.heap.objs.size=Ab _:=u2 (AB _ (Mu _ _));show _/\_;rw[s3,s4,s5]at g6;rw[s4]at g5;rw[s1,s2,s3]at g4;rw[s2]at g3;rw[s1]at g2;rw[s5];exact⟨⟨_,g6,rfl⟩,q _ ⟨g4,MD g1,MD g2,MD g3,⟨_,_,_,g5⟩,.inl g6⟩ s6 λc o e=>u2 (Ar _ e)⟩
theorem pV:Ir (.type "zip") "__len__" = pure Af:=by rw[Hi,FD];kernel_rfl
theorem pJ:Ir (.type "zip") "__length_hint__" = pure Af:=by rw[Hi,FD];kernel_rfl
theorem É.ty{I i:Ag}(z:É t1 t2 t3 I l1 l2 l3 i s.heap):s.TypeIs (.ref (I+5)) "zip" := by
 obtain⟨_,_,_,_,_,hz|⟨_,_,hz⟩⟩:=z
 .exact⟨_,hz,rfl⟩
 .exact⟨_,hz,rfl⟩
theorem É.lt{I i:Ag}(z:É t1 t2 t3 I l1 l2 l3 i s.heap):I+5<s.heap.objs.size:=by
 obtain⟨o,h,_⟩:=z.ty;exact AE h
theorem wN{I i:Ag}(z:É t1 t2 t3 I l1 l2 l3 i h):É t1 t2 t3 I l1 l2 l3 i (h.push o):=by
 have k:∀ {c u},h.get? c=Ab u->(h.push o).get? c=Ab u:=λq=>Ar _ q
 obtain⟨zI,i1,i2,i3,zz⟩:=z;refine⟨k zI,i1.at' λo q=>k q,i2.at' λo q=>k q,i3.at' λo q=>k q,?_⟩
 obtain⟨⟨a,b,c,hO⟩,zz⟩:=zz;refine⟨⟨a,b,c,k hO⟩,?_⟩;rcases zz with hz|⟨T1,f1,hz⟩
 .exact .inl (k hz)
 .exact .inr ⟨T1,f1,k hz⟩
section
variable{A:Bm}{E:Vq}
theorem sH{Q:Vq}(hT:s.TypeIs (.ref z) "zip")(h:Q (.ref z) s):AD (model prog w) A (KC (.ref z)) Q E s:=by
 refine wpAny_pyIter_slot hT dG (CZ dG hT F.entry_zip_iter ?_ (F.args_zip_iter_1 _));show AD _ _ (ret (.ref z)) _ _ s;exact Az ⟨_,rfl, "zip",_,hT,F.slot_zip_next.lookup,h⟩
theorem pX{I n:Ag}{xs:AO Aj}(calm:A.handled=Af)(b1:l1<I)(b2:l2<I)(b3:l3<I)(n0:0<n)(nn:n<=1000)(e1:xs.size=n)(e2:ys.size=n)(e3:us.size=n)(hz:É t1 t2 t3 I l1 l2 l3 0 s.heap)(q1:CK t1 s.heap l1 xs)(q2:CK t2 s.heap l2 ys)(q3:CK t3 s.heap l3 us)(hQ:∀ h2 Z1 tk,(∀ d o,d∉ϙ I->s.heap.get? d=Ab o->h2.get? d=Ab o)->MI I s.heap.objs.size xs ys us n Z1 h2->Q Z1.toList {s with heap:=h2,toks:=tk}):AD (model prog w) A (collect (.ref (I+5))) Q E s:=by
  have lt:=hz.lt;have hSI:s.heap.objs.size≠I+5:=Cm lt;unfold collect;refine Ah (fN (D6 F.entry_proto_collect ?_));rw[DA F.plain_proto_collect _];show AD _ A.in1 (newList [] >>= λl=>again (.builtin "list.__iadd__" ⟨[l,.ref (I+5)],[]⟩)) _ _ s
  refine Ah (C4 ?_);refine Az ⟨FW dD _,D6 F.entry_list_iadd ?_⟩;rw[DA dD _];have hz1:É t1 t2 t3 I l1 l2 l3 0 (s.heap.push { cls:=.type "list",data:=.seq ([]:Ac Aj).toArray }):=wN hz;have ty1:dU { s with heap:=s.heap.push { cls:=.type "list",data:=.seq ([]:Ac Aj).toArray } } (.ref (I+5)) "zip" := É.ty (s:={ s with heap:=s.heap.push { cls:=.type "list",data:=.seq ([]:Ac Aj).toArray } }) hz1
  show AD _ A.in1 (DI (.ref s.heap.objs.size) (.ref (I+5)) (.ref s.heap.objs.size)) _ _ _;unfold DI;refine Ah (wpAny_typeOf ty1 ?_);have h1:ET (.ref s.heap.objs.size) (.ref (I+5))=Ae:=by simp[ET,hSI]
  have h2:(C2 "zip" == C2 "list")=Ae:=by decide
  have h3:(C2 "zip" == C2 "tuple")=Ae:=by decide
  simp only[h1,h2,h3,FU,Gd,HK];refine Ah (sH ty1 ?_);refine Ah (CG ?_);unfold bE;refine Ah (Gb ty1 pV ?_);show AD _ A.in1 (specialOf (Ds (I+5)) (Ao "__length_hint__") >>= _) _ _ _;refine Ah (Gb ty1 pJ ?_);refine Az ?_;show AD _ A.in1 (rule "list.extend.makes-room" >>= λ_=>Builtin.List.listTouch (.ref s.heap.objs.size) >>= λ_=>
    again (.builtin "list.extend.loop" ⟨[.ref s.heap.objs.size,.ref (I+5),.ref s.heap.objs.size],[]⟩)) _ _ _
  refine Ah (Hj ?_);have hS₁:(s.heap.push { cls:=.type "list",data:=.seq ([]:Ac Aj).toArray }).get? s.heap.objs.size=Ab { cls:=.type "list",data:=.seq ([]:Ac Aj).toArray }:=AB _ rfl;refine Ah ?_;show AD _ A.in1 (Ji s.heap.objs.size (·.push .none) >>= λ_=>Ji s.heap.objs.size (·.pop)) _ _ _
  refine Ah (Gc hS₁ rfl ?_);have hS₂:=Ck (Bx (·.push Cv)) hS₁ rfl;refine Gc hS₂ rfl ?_;have hS₃:=Ck (Bx (·.pop)) hS₂ rfl;have İ:∀ b o,b≠s.heap.objs.size->(s.heap.push { cls:=.type "list",data:=.seq ([]:Ac Aj).toArray }).get? b=Ab o ->
      (((s.heap.push { cls:=.type "list",data:=.seq ([]:Ac Aj).toArray }).update s.heap.objs.size (Bx (·.push Cv))).update s.heap.objs.size (Bx (·.pop))).get? b=Ab o:=
    λb o hb e=>(Ch _ _ (A8 hb)).trans ((Ch _ _ (A8 hb)).trans e)
  have Ź:∀ b o,s.heap.get? b=Ab o->(((s.heap.push { cls:=.type "list",data:=.seq ([]:Ac Aj).toArray }).update s.heap.objs.size (Bx (·.push Cv))).update s.heap.objs.size (Bx (·.pop))).get? b=Ab o:=
    λb o e=>İ b o (AZ (AE e)) (Ar _ e)
  refine Az ⟨FW EZ _,wO calm b1 b2 b3 s.heap.objs.size lt n0 nn e1 e2 e3 n 0 _ _ _ rfl (CC _) (hz1.at' λj hj o q=>İ _ o (λe=>by rw[<-e]at lt;exact absurd lt (Fe.mpr (Ht hj I))) q) (q1.at' λo e=>Ź _ o e) (q2.at' λo e=>Ź _ o e) (q3.at' λo e=>Ź _ o e) hS₃ ⟨rfl,λj hj=>absurd hj (F8 _),λj1 j2 a e=>by simp[Bx]at e⟩ λh2 Z1 c tk kp hS hd=>?_⟩
  show AD _ A (load s.heap.objs.size >>= _) _ _ _;refine Ah (wpAny_load hS ?_);exact Az (hQ h2 Z1 tk (λd o nd e=>kp d o nd (AZ (AE e)) (Ź d o e)) hd)
theorem wP{I n:Ag}{xs:AO Aj}{Q₁:Vq}(calm:A.handled=Af)(b1:l1<I)(b2:l2<I)(b3:l3<I)(n0:0<n)(nn:n<=1000)(e1:xs.size=n)(e2:ys.size=n)(e3:us.size=n)(hz:É t1 t2 t3 I l1 l2 l3 0 s.heap)(q1:CK t1 s.heap l1 xs)(q2:CK t2 s.heap l2 ys)(q3:CK t3 s.heap l3 us)(h:∀ h2 Z1 tk,(∀ d o,d∉ϙ I->s.heap.get? d=Ab o->h2.get? d=Ab o)->MI I s.heap.objs.size xs ys us n Z1 h2->Q₁ (.ref h2.objs.size) { s with heap:=h2.push { cls:=.type "tuple",data:=.seq Z1 },toks:=tk }):
  F0 (model prog w) A (.call (.builtin "tuple.__new__") ⟨[.type "tuple",.ref (I+5)],[]⟩) (wants Q₁ E) s:=by
 refine eX ?_;show AD _ A.in1 (do eW "tuple.__new__" ⟨[.type "tuple",.ref (I+5)],[]⟩;again (.builtin "tuple.__new__" ⟨[.type "tuple",.ref (I+5)],[]⟩)) _ _ s
 refine Ah (wpAny_of_eq (F.newCall_tuple_1 _) (Az ⟨FW dE _,D6 F.entry_tuple_new ?_⟩));rw[DA dE _];have Ì:=sub_tuple_self;have hinit:=init_tuple_lookup;have hmh:=madeHere_tuple;have hTI:=hz.ty;have calm2:A.in1.handled=Af:=calm
 wp_walk using wpAny_typeOf hTI,pX calm2 b1 b2 b3 n0 nn e1 e2 e3 hz q1 q2 q3
 intro h2 Z1 tk kp hd;show AD _ _ (Dq Z1.toList.toArray >>= λv=>ret v) _ _ _
 unfold Dq;refine Ah (C4 ?_ (by show Z1.toList.toArray.size<=sizeLine;simp only[G4];rw[hd.1,CN];omega))
 refine Az ?_;have e:Z1.toList.toArray=Z1:=by simp
 rw[e];exact h h2 Z1 tk kp hd
theorem sP{I n:Ag}{xs:AO Aj}{Q:Vq}(calm:A.handled=Af)(b1:l1<I)(b2:l2<I)(b3:l3<I)(n0:0<n)(nn:n<=1000)(e1:xs.size=n)(e2:ys.size=n)(e3:us.size=n)(hz:É t1 t2 t3 I l1 l2 l3 0 s.heap)(q1:CK t1 s.heap l1 xs)(q2:CK t2 s.heap l2 ys)(q3:CK t3 s.heap l3 us)(h:∀ h2 Z1 tk,(∀ d o,d∉ϙ I->s.heap.get? d=Ab o->h2.get? d=Ab o)->MI I s.heap.objs.size xs ys us n Z1 h2->Q (.ref h2.objs.size) { s with heap:=h2.push { cls:=.type "tuple",data:=.seq Z1 },toks:=tk }):
  AD (model prog w) A (call (.type "tuple") [.ref (I+5)]) Q E s:=by
 refine eU (Q₁:=λobj s₁=>s₁.TypeIs obj "tuple"/\Q obj s₁) F.called_tuple (F.typeCall_tuple_1 _) F.entry_object_init
  (wP (by exact calm) b1 b2 b3 n0 nn e1 e2 e3 hz q1 q2 q3 λh2 Z1 tk kp hd=>⟨⟨_,AB _ rfl,rfl⟩,h h2 Z1 tk kp hd⟩) λobj s₁ h₁=>?_
 exact⟨h₁.1,cU obj _,object_init_meets F.called_tuple.init.lookup F.called_tuple.made (by decide) prog w A.in1 _ s₁ ⟨h₁.1,rfl,h₁.2⟩⟩
end
noncomputable def JD(H:Hp)(ps:Ac (Am×Ac V)):Hp:=λb=>match ps.lookup b with
  |some xs=>Ab (.H xs)
  |none=>H b
theorem Yb{ps:Ac (Am×Ac V)}(h:ps.lookup a=Ab xs):(a,xs)∈ps:=by
 induction ps with
 |nil=>cases h
 |cons p ps ih=>
  obtain⟨b,ys⟩:=p;rw[Cq]at h;split at h
  .rename_i e;cases h;rw[Cb]at e;subst e;exact Ax
  .exact Av _ (ih h)
theorem Wu(h:∀ p∈ps,p.1≠b):JD H ps b=H b:=by
 unfold JD;cases e:ps.lookup b with
 |none=>rfl
 |some xs=>exact absurd rfl (h _ (Yb e))
theorem tM(ps:Ac (Am×Ac V))(I:Z6 X pI Y H s)(k:∀ b u,s.heap.get? b=Ab u->h'.get? b=Ab u)(hp:∀ p∈ps,s.heap.objs.size<=p.1)(new:∀ p∈ps,p.2.length<=sizeLine/\∃ Z9:Ac Aj,Bl p.2 Z9/\K8 h' p.1 Z9.toArray):Z6 X pI Y (JD H ps) {s with heap:=h',toks:=t'}:=by
 have old:∀ b,b<s.heap.objs.size->JD H ps b=H b:=λb hb=>Wu λp hq e=>by
  have:=hp p hq;rw[e]at this;exact absurd hb (Fe.mpr this)
 have hl:∀ b o,H b=Ab o->JD H ps b=Ab o:=λb o q=>by rw[old b (I.hok.lt q)];exact q
 refine I.un ⟨λb u q _ _ _=>k b u q,λb u q _ _ _=>⟨u.slots,k b u q⟩,λb u q n _=>by rw[old b (AE q)];exact n,λb u q _=>⟨u,k b u q⟩,λb xs q=>hl b _ q,λb u xs q=>hl b _ q,λb xs q=>⟨#[],by rw[hl b _ q];simp⟩⟩ λb u e=>?_
 unfold JD at e;split at e
 .rename_i xs hx;cases e;exact new _ (Yb hx)
 .exact(I.hok b u e).stay (λc v _ q=>k c v q) (λc q=>hl c _ q) λc xs q=>hl c _ q
noncomputable def Ia:Ac V->Ac V->Ac V->Ac (Ac V)
 |x::xs,y::ys,u::us=>[x,y,u]::Ia xs ys us
 |_,_,_=>[]
theorem VU:∀(xs ys us:Ac V)(j:Ag)(r:Ac V),(Ia xs ys us)[j]?=Ab r->∃ x y u,xs[j]?=Ab x/\ys[j]?=Ab y/\us[j]?=Ab u/\r=[x,y,u]
 |[],_,_,j,r,h=>by simp[Ia]at h
 |_::_,[],_,j,r,h=>by simp[Ia]at h
 |_::_,_::_,[],j,r,h=>by simp[Ia]at h
 |x::xs,y::ys,u::us,0,r,h=>by
  simp only[Ia,E4,CB]at h;exact⟨x,y,u,rfl,rfl,rfl,h.symm⟩
 |x::xs,y::ys,u::us,j+1,r,h=>by
  simp only[Ia,E0]at h ⊢;exact VU xs ys us j r h
theorem OA{α β:Type}:∀{as:Ac α}{bs:Ac β}{a:α}{b:β},(a,b)∈as.zip bs->∃ j:Ag,as[j]?=Ab a/\bs[j]?=Ab b
 |[],_,_,_,h=>by simp at h
 |_::_,[],_,_,h=>by simp at h
 |x::as,y::bs,a,b,h=>by
  simp only[HQ,Aw,Kh]at h;rcases h with ⟨rfl,rfl⟩|h
  .exact⟨0,rfl,rfl⟩
  .obtain⟨j,h1,h2⟩:=OA h;exact⟨j+1,h1,h2⟩
def nP(K:Fg)(ta:TA):TE:=λY H Q=>ta Y H λvs H1=>∃ t1 t2 t3 a b c xs ys us,vs=[.ref a,.ref b,.ref c]/\Õ t1 K H1 a xs/\Õ t2 K H1 b ys/\Õ t3 K H1 c us/\0<xs.length/\xs.length<=1000/\ys.length=xs.length/\us.length=xs.length /\
 ∀(as:Ac Am)(T:Am),as.length=xs.length->as.Nodup->(∀ p∈as,H1 p=Af)->T∉as->H1 T=Af->Q (.ref T) (JD H1 ((T,as.map .ref)::as.zip (Ia xs ys us)))
theorem vN{I S:Ag}{xs:AO Aj}(d:MI I S xs ys us n Z1 h):∃ as:Ac Am,Z1.toList=as.map Ds/\as.length=n/\as.Nodup/\∀(j:Ag)(a:Am),as[j]?=Ab a->∃ x y u,xs[j]?=Ab x/\ys[j]?=Ab y/\us[j]?=Ab u/\E7 h a x y u/\I+5<a:=by
  obtain⟨hn,hj,inj⟩:=d
  let f:Aj->Am:=λv=>match v with
    |.ref a=>a
    |_=>0
  have hg:∀ j v,Z1.toList[j]?=Ab v->∃(a:Ag)(x y u:Aj),v=Ds a/\xs[j]?=Ab x/\ys[j]?=Ab y/\us[j]?=Ab u/\E7 h a x y u/\I+5<a:=λj v e=>by
    rw[En]at e;have lt:j<n:=by rw[<-hn];exact(CS.mp e).1
    obtain⟨a,x,y,u,r1,r2,r3,r4,r5,r6,_⟩:=hj j lt;rw[e]at r1;cases r1;exact⟨a,x,y,u,rfl,r2,r3,r4,r5,r6⟩
  have hf:∀ v∈Z1.toList,Ds (f v)=v:=λv hv=>by
    obtain⟨j,hj⟩:=Z_4 hv;obtain⟨a,_,_,_,rfl,_⟩:=hg j v hj;rfl
  have hm:Z1.toList=(Z1.toList.map f).map Ds:=by
    rw[Do]
    conv=>lhs;rw[<-aC Z1.toList]
    exact CM λv hv=>(hf v hv).symm
  refine⟨Z1.toList.map f,hm,by rw[AG,C1,hn],?_,λj a e=>?_⟩
  · rw[List.nodup_iff_pairwise_ne,EF];intro i j hi ε lt e;rw[AG,C1]at hi ε;have at':∀(k:Ag)(hk:k<Z1.size)(Ű:k<(Z1.toList.map f).length),Z1[k]?=Ab (Ds (Z1.toList.map f)[k]):=λk hk Ű=>by
      rw[Cp hk,List.getElem_map,hf _ (CI _),Array.getElem_toList]
    have:=inj i j _ (at' i hi _) (by rw[e];exact at' j ε _)
    omega
  · rw[D7,Option.map_eq_some_iff]at e;obtain⟨v,hv,rfl⟩:=e;obtain⟨a,x,y,u,rfl,r⟩:=hg j v hv;exact⟨x,y,u,r⟩
theorem xj{a b:Aq}(hc:X.calm=Aa)(hg:Gl X "tuple")(hm:X.mg "tuple" = Af)(ϻ:Gl X "zip")(ζ:X.mg "zip" = Af)(ha:PA X [a,b,c] ta)(hs:AN [a,b,c] X.env=[(Ae,eval a X.env),(Ae,eval b X.env),(Ae,eval c X.env)])(Ð:AN [b,c] X.env=[(Ae,eval b X.env),(Ae,eval c X.env)]):
    PE X (.Call (.Name "tuple" p) [.Call (.Name "zip" p') [a,b,c] [] pos'] [] pos) (nP X.K ta):=by
  intro pI s Y H Q I h;refine Iq (HB I hg hm Gv (B7 ?_ rfl rfl));show AD _ _ (spliced ((Ae,eval (.Call (.Name "zip" p') [a,b,c] [] pos') X.env)::C8 pos (AN [] X.env))) _ _ s;refine Gh ?_;refine Iq (HB I ϻ ζ aW (B7 (LT (ha pos' pI s Y H _ I h) λus s1 ⟨vs,H1,I1,r1,q1⟩=>?_) (by rw[hs,Ð]) (by rw[Ð];rfl)))
  obtain⟨t1,t2,t3,l1,l2,l3,xs,ys,zs,e,sx,sy,sz,n0,nn,ey,ez,q⟩:=q1;subst e;cases r1 with
  |cons r rr=>
    cases rr with
    |cons r' rr=>
      cases rr with
      |cons r'' rr=>
        cases rr;cases r;cases r';cases r'';obtain⟨xv,rx,ix,_⟩:=H9 I1 sx;obtain⟨yv,ry,iy,_⟩:=H9 I1 sy;obtain⟨zv,rz,iz,_⟩:=H9 I1 sz;refine rA ix iy iz λh2 z hsz kp=>Fu ?_
        have lx:=rx.length;have ly:=ry.length;have lz:=rz.length;refine sP (s:={s1 with heap:=h2}) (n:=xs.length) (I1.ok.hd hc) ix.lt iy.lt iz.lt n0 nn (by simp[lx]) (by simp[<-ly,ey]) (by simp[<-lz,ez]) z (ix.at' λo e=>kp _ o e) (iy.at' λo e=>kp _ o e) (iz.at' λo e=>kp _ o e) λh3 Z1 tk Ĉ dr=>?_
        obtain⟨as,e1,e2,nd,each⟩:=vN dr;have nw:∀ b,b<s1.heap.objs.size->b∉ϙ s1.heap.objs.size:=λb hb=>Qe hb
        have kp4:∀ b o,s1.heap.get? b=Ab o->(h3.push { cls:=.type "tuple",data:=.seq Z1 }).get? b=Ab o:=λb o e=>Ar _ (Ĉ b o (nw b (AE e)) (kp b o e))
        have big:∀ a∈as,s1.heap.objs.size<=a/\a<h3.objs.size:=λa ha=>by
          obtain⟨j,hj⟩:=Z_4 ha;obtain⟨x,y,u,_,_,_,tr,lt⟩:=each j a hj;exact⟨Ei (Ce (DU _ 5) lt),AE tr⟩
        have b3:s1.heap.objs.size<=h3.objs.size:=by
          obtain⟨a,ha⟩:∃ a,a∈as:=ZY (by rw[e2];exact n0)
          exact Ei (Ce (big a ha).1 (big a ha).2)
        refine⟨.ref h3.objs.size,_,tM (s:=s1) (h':=h3.push { cls:=.type "tuple",data:=.seq Z1 }) (t':=tk) ((h3.objs.size,as.map V.ref)::as.zip (Ia xs ys zs)) I1 kp4 (λp hp=>?_) (λp hp=>?_),rfl,q as h3.objs.size e2 nd (λp hp=>I1.hok.fresh (big p hp).1) (λhT=>absurd (big _ hT).2 (BK _)) (I1.hok.fresh b3)⟩
        · rcases Aw.mp hp with rfl|hp
          · exact b3
          · obtain⟨j,h1,h2⟩:=OA (a:=p.1) (b:=p.2) hp;exact(big _ (D5 h1)).1
        · rcases Aw.mp hp with rfl|hp
          · refine⟨by rw[AG,e2,CN];omega,as.map Ds,?_,?_⟩
            · clear q each big hp e1 e2 nd
              induction as with
              |nil=>exact .nil
              |cons a as ih=>exact .cons rfl ih
            · rw[<-e1,G4];exact Ko _ _
          · obtain⟨j,h1,h2⟩:=OA (a:=p.1) (b:=p.2) hp;obtain⟨x,y,u,g1,g2,g3,er⟩:=VU _ _ _ _ _ h2;obtain⟨x',y',u',k1,k2,k3,tr,_⟩:=each j _ h1;obtain⟨x2,m1,w1⟩:=rx.get g1;obtain⟨y2,m2,w2⟩:=ry.get g2;obtain⟨u2,m3,w3⟩:=rz.get g3;rw[Fw]at k1 k2 k3;cases m1.symm.trans k1;cases m2.symm.trans k2;cases m3.symm.trans k3;rw[er];exact⟨by show 3<=sizeLine;decide,[x',y',u'],.cons w1 (.cons w2 (.cons w3 .nil)),⟨_,Ar _ tr,rfl,_,rfl⟩⟩
theorem Vl{K:Fg}{H:Hp}{A:Am->Prop}(hA:we H A)(sm:A1 H H3):∀{as:Ac Am}{xs ys us:Ac V}{ds es fs:Ac D},(∀(j:Ag)(a:Am)(r:Ac V),as[j]?=Ab a->(Ia xs ys us)[j]?=Ab r->H3 a=Ab (.H r))->(∀ p∈as,H p=Af)->as.length=xs.length->ys.length=xs.length->us.length=xs.length->Z7 K CL H A xs ds->Z7 K CL H A ys es->Z7 K CL H A us fs->Z7 K CL H3 A (as.map .ref) (Ue ds es fs)
 |[],[],[],[],[],[],[],_,_,_,_,_,_,_,_=>trivial
 |a::as,x::xs,y::ys,u::us,d::ds,e::es,f::fs,h,hn,l1,l2,l3,r1,r2,r3=>
  ⟨⟨a,[x,y,u],rfl,.inl (hA.new (hn a Ax)),ð.of (h 0 a _ rfl rfl),r1.1.same sm,r2.1.same sm,r3.1.same sm,trivial⟩,
   Vl hA sm (λj a' r p q=>h (j+1) a' r p q) (λp hp=>hn p (Av _ hp)) (IF l1) (IF l2) (IF l3) r1.2 r2.2 r3.2⟩
 |[],_::_,_,_,_,_,_,_,_,l,_,_,_,_,_=>nomatch l
 |_::_,[],_,_,_,_,_,_,_,l,_,_,_,_,_=>nomatch l
 |_,[],_::_,_,_,_,_,_,_,_,l,_,_,_,_=>nomatch l
 |_,[],_,_::_,_,_,_,_,_,_,_,l,_,_,_=>nomatch l
 |_,_::_,[],_,_,_,_,_,_,_,l,_,_,_,_=>nomatch l
 |_,_::_,_,[],_,_,_,_,_,_,_,l,_,_,_=>nomatch l
 |_,[],_,_,_::_,_,_,_,_,_,_,_,r,_,_=>r.elim
 |_,_::_,_,_,[],_,_,_,_,_,_,_,r,_,_=>r.elim
 |_,_,[],_,_,_::_,_,_,_,_,_,_,_,r,_=>r.elim
 |_,_,_::_,_,_,[],_,_,_,_,_,_,_,r,_=>r.elim
 |_,_,_,[],_,_,_::_,_,_,_,_,_,_,_,r=>r.elim
 |_,_,_,_::_,_,_,[],_,_,_,_,_,_,_,r=>r.elim
theorem X9:∀{as:Ac Am}{rs:Ac (Ac V)}{j:Ag}{a:Am}{r:Ac V},as.Nodup->as[j]?=Ab a->rs[j]?=Ab r->(as.zip rs).lookup a=Ab r
 |[],_,_,_,_,_,h,_=>by simp at h
 |_::_,[],_,_,_,_,_,h=>by simp at h
 |b::as,q::rs,0,a,r,nd,h1,h2=>by
  simp only[E4,CB]at h1 h2;subst h1 h2;rw[HQ,aA]
 |b::as,q::rs,j+1,a,r,nd,h1,h2=>by
  simp only[E0]at h1 h2;have nb:a≠b:=λe=>by subst e;exact(BO.mp nd).1 (D5 h1)
  rw[HQ,Cq,beq_false_of_ne nb];exact X9 (BO.mp nd).2 h1 h2
section
variable{a b:Aq}
theorem lj(ha:SE X CL W a fa)(hb:SE X CL W b fb)(hd:SE X CL W c fc)(hc:X.calm=Aa)(hg:Gl X "tuple")(hm:X.mg "tuple" = Af)(ϻ:Gl X "zip")(ζ:X.mg "zip" = Af)(hs:AN [a,b,c] X.env=[(Ae,eval a X.env),(Ae,eval b X.env),(Ae,eval c X.env)])(Ð:AN [b,c] X.env=[(Ae,eval b X.env),(Ae,eval c X.env)])(hs3:AN [c] X.env=[(Ae,eval c X.env)]):
  SE X CL W (.Call (.Name "tuple" p) [.Call (.Name "zip" p') [a,b,c] [] pos'] [] pos) (λU=>((fa U).bind λx=>(fb U).bind λy=>(fc U).bind λz=>MO x y z).bind λxs=>.ok (.H xs)):=
 λA=>PE.weak (xj hc hg hm ϻ ζ (Gi (ha A) (Gi (hb A) (Gi (hd A) HZ hs3) (by rw[Ð,hs3])) (by rw[hs,Ð])) hs Ð) λY H Q ⟨hA,U,g,q⟩=>by
  simp only[R.bind_assoc]at q;refine⟨hA,U,g,BN.bind q λd v H1 _ s1 r1 p1=>⟨hA.same s1,U,g.same s1,BN.bind p1 λd2 v2 H2 _ s2 r2 p2=>⟨(hA.same s1).same s2,U,(g.same s1).same s2,BN.bind p2 λd3 v3 H3 _ s3 r3 p3=>?_⟩⟩⟩
  unfold MO at p3;cases e1:Ct d with
  |bad=>rw[e1]at p3;exact p3.elim
  |exn z=>exact absurd e1 (by cases d<;>simp[Ct])
  |ok ds=>
   cases e2:Ct d2 with
   |bad=>rw[e1,e2]at p3;exact p3.elim
   |exn z=>exact absurd e2 (by cases d2<;>simp[Ct])
   |ok es=>
    cases e3:Ct d3 with
    |bad=>rw[e1,e2,e3]at p3;exact p3.elim
    |exn z=>exact absurd e3 (by cases d3<;>simp[Ct])
    |ok fs=>
     rw[e1,e2,e3]at p3;simp only[R.bind_ok]at p3;obtain⟨t1,c1,xs,rfl,k1,đ⟩:=MP ((r1.same s2).same s3) e1;obtain⟨t2,c2,ys,rfl,k2,rs2⟩:=MP (r2.same s3) e2;obtain⟨t3,c3,us,rfl,k3,rs3⟩:=MP r3 e3;split at p3
     .rename_i hn;obtain⟨n0,nn,ny,nz⟩:=hn;rw[<-đ.length]at n0 nn ny nz;rw[<-rs2.length]at ny;rw[<-rs3.length]at nz;refine⟨t1,t2,t3,c1,c2,c3,xs,ys,us,rfl,k1 H3 (Kp.of (A1.refl H3)),k2 H3 (Kp.of (A1.refl H3)),k3 H3 (Kp.of (A1.refl H3)),n0,nn,ny,nz,λas T el nd fr hT fT=>?_⟩
      have hA3:we H3 A:=((hA.same s1).same s2).same s3;have fr':∀ q∈(T,as.map V.ref)::as.zip (Ia xs ys us),H3 q.1=Af:=λq hq=>by
       rcases Aw.mp hq with rfl|hq
       .exact fT
       .obtain⟨j,h1,h2⟩:=OA (a:=q.1) (b:=q.2) hq;exact fr _ (D5 h1)
      have sm:A1 H3 (JD H3 ((T,as.map V.ref)::as.zip (Ia xs ys us))):=λb o e=>by
       rw[Wu λq hq z=>by rw[<-z,fr' q hq]at e;cases e]
       exact e
      refine p3 _ _ sm ⟨T,as.map V.ref,rfl,.inl (hA3.new fT),ð.of ?_,Vl hA3 sm (λj a r h1 h2=>?_) fr el ny nz đ rs2 rs3⟩
      .unfold JD;rw[aA]
      .have na:a≠T:=λe=>by subst e;exact hT (D5 h1)
       unfold JD;rw[Cq,beq_false_of_ne na,X9 nd h1 h2]
     .exact p3.elim
end
theorem sT{us:Ac Aj}(r:Bl xs us):Bl xs.reverse us.reverse:=r.reverse
theorem WB{K:Fg}{H:Hp}{A:Am->Prop}:∀{vs:Ac V}{ds:Ac Ov.D},Z7 K CL H A vs ds->Z7 K CL H A vs.reverse ds.reverse
 |[],[],h=>h
 |v::vs,d::ds,h=>by
  rw[Gx,Gx];exact(WB h.2).append ⟨h.1,trivial⟩
 |[],_::_,h=>h.elim
 |_::_,[],h=>h.elim
theorem rQ:Ir (.type "list_reverseiterator") "__len__" = pure Af:=by rw[Hi,FD];kernel_rfl
theorem tN:Ir (.type "list_reverseiterator") "__length_hint__" = pure (Ab (.builtin "list_reverseiterator.__length_hint__")):=by rw[Hi,FD];kernel_rfl
theorem oY{A:Bm}{E:Vq}{Q:Vq}{I:Am}(hh:A.handled=Af)(Ϯ:l≠I)(hit:s.heap.IsRevIter I l ((items.size:Ad)-1))(hl:s.heap.IsList l items)(IO:items.size<=2 ^ 24)(hQ:∀ h' tk ŧ c',(∀ b o,b≠I->s.heap.get? b=Ab o->h'.get? b=Ab o) ->
      h'.get? s.heap.objs.size=Ab { cls:=.type "list",dict:=Af,data:=.seq ŧ c',slots:=#[] }->ItemsOf (λi v=>items[items.size-1-i]?=Ab v) ŧ items.size->Q (.ref s.heap.objs.size) {s with heap:=h',toks:=tk}):
    AD (model prog w) A (call (.type "list") [.ref I]) Q E s:=by
  have W:=(Walks.listRev (prog:=prog) (w:=w) (A:=A.in1.in1) hh I l Ϯ items).toS;have lI:I<s.heap.objs.size:=by obtain⟨o,ho,_⟩:=hit;exact AE ho
  have ll:l<s.heap.objs.size:=by obtain⟨o,ho,_⟩:=hl;exact AE ho
  refine eU (Q₁:=λobj s₁=>obj=.ref s.heap.objs.size/\s₁={ s with heap:=s.heap.push { cls:=.type "list",data:=.seq #[] } }) F.called_list (F.typeCall_list_1 _) F.entry_list_init
    (code_list_new _ ⟨rfl,rfl⟩) λobj s₁ h₁=>?_
  obtain⟨rfl,rfl⟩:=h₁;have hS:(s.heap.push { cls:=.type "list",data:=.seq #[] }).get? s.heap.objs.size=Ab { cls:=.type "list",data:=.seq #[] }:=AB _ rfl;refine⟨⟨_,hS,rfl⟩,F.args_list_init_2 _ _,?_⟩;have hSI:s.heap.objs.size≠I:=Cm lI;have Ħ:s.heap.objs.size∉[I,l]:=λhm=>by
    rcases Aw.mp hm with e|hm
    · exact hSI e
    · exact Cm ll (AQ.mp hm)
  show AD _ _ (do let old <-bD (.ref s.heap.objs.size);bF (.ref s.heap.objs.size) (λ_=>#[]);letGo old.toList.reverse;DI (.ref s.heap.objs.size) (.ref I) .none) _ _ _
  refine Ah ?_;unfold bD;refine Ah (Cf hS rfl (Az ?_));show AD _ _ (Ji s.heap.objs.size (λ_=>#[]) >>= λ_=>letGo (#[]:AO Aj).toList.reverse >>= λ_=>DI (.ref s.heap.objs.size) (.ref I) .none) _ _ _
  refine Ah (Gc hS rfl ?_);have hS₂:=Ck (Bx (λ_=>(#[]:AO Aj))) hS rfl
  have İ:∀ b o,s.heap.get? b=Ab o->((s.heap.push { cls:=.type "list",data:=.seq #[] }).update s.heap.objs.size (Bx (λ_=>(#[]:AO Aj)))).get? b=Ab o:=
    λb o e=>(Ch _ _ (Cm (AE e))).trans (Ar _ e)
  refine Ah (F2 ?_);have ů:=hit.at λo e=>İ I o e
  have hl₂:=hl.at λo e=>İ l o e
  unfold DI;refine Ah (wpAny_typeOf (T := "list_reverseiterator") (dI (s:={ s with heap:=(s.heap.push { cls:=.type "list",data:=.seq #[] }).update s.heap.objs.size (Bx (λ_=>(#[]:AO Aj))) }) ů) ?_)
  have h1:ET (.ref s.heap.objs.size) (.ref I)=Ae:=by simp[ET,hSI]
  have h2:(C2 "list_reverseiterator" == C2 "list")=Ae:=by decide
  have h3:(C2 "list_reverseiterator" == C2 "tuple")=Ae:=by decide
  simp only[h1,h2,h3,FU,Gd,HK];have ty:=dI (s:={ s with heap:=(s.heap.push { cls:=.type "list",data:=.seq #[] }).update s.heap.objs.size (Bx (λ_=>(#[]:AO Aj))) }) ů
  refine Ah (wpAny_pyIter_revIter ů ?_);refine Ah (CG ?_);unfold bE;refine Ah (Gb ty rQ ?_);show AD _ _ (specialOf (Ds I) (Ao "__length_hint__") >>= _) _ _ _;refine Ah (Gb ty tN ?_)
  (generalize hid:("list_reverseiterator.__length_hint__" : Du)=id0;(fail_if_success (clear hid id0));wp_delta;rw[show splitId id0=Ab ("list_reverseiterator", "__length_hint__") from by subst hid;decide+kernel];subst hid)
  refine Ah (IJ (b:=Aa) ty (by rw[JM];kernel_rfl) ?_)
  refine Az ?_;rw[AH (by decide)]
  have e0:(items.size:Ad)-1-((0:Ag):Ad)=(items.size:Ad)-1:=by omega
  refine Az ⟨FW EZ _,codeAny_extend_loopS W (by rw[CN];omega) _ Ħ _ items.size 0 _ _ _ rfl (CC _) ⟨CC _,by rw[e0];exact ů,hl₂⟩ hS₂ (ItemsOf.nil _) λs' ŧ c' hm ł Ń=>?_⟩
  rw[Moved.eq_with hm];refine⟨rfl,hQ s'.heap s'.toks ŧ c' (λb o hb e=>hm.heap b o (λŊ=>?_) (İ b o e)) ł Ń⟩
  rcases Aw.mp Ŋ with e'|Ŋ
  · exact AZ (AE e) e'
  · exact hb (AQ.mp Ŋ)
theorem qS(h:ItemsOf (λi v=>Z9.toArray[Z9.toArray.size-1-i]?=Ab v) Z1 Z9.toArray.size):Z1.toList=Z9.reverse:=by
 obtain⟨h1,h2⟩:=h;have n:Z9.toArray.size=Z9.length:=by simp
 rw[n]at h1
 apply Ii
 intro j;by_cases hj:j<Z9.length
 .have e:Z1[j]?=Ab (Z1[j]'(by omega)):=Cp (by omega)
  have q:=h2 j _ e;rw[En,e,<-q,List.getElem?_reverse hj,n,Fw]
 .rw[GZ (by rw[C1];omega),GZ (by rw[EY];omega)]
def nK(K:Fg)(ta:TA):TE:=λY H Q=>ta Y H λvs H1=>∃ a xs,vs=[.ref a]/\fI K H1 a xs/\∀ p,H1 p=Af->Q (.ref p) (upd H1 p (.L xs.reverse))
theorem xh(hc:X.calm=Aa)(hg:Gl X "list")(hm:X.mg "list" = Af)(ϻ:Gl X "reversed")(ζ:X.mg "reversed" = Af)(ha:PA X [e] ta)(hs:AN [e] X.env=[(Ae,eval e X.env)]):
    PE X (.Call (.Name "list" p) [.Call (.Name "reversed" p') [e] [] pos'] [] pos) (nK X.K ta):=by
  intro pI s Y H Q I h;refine Iq (HB I hg hm GH (B7 ?_ rfl rfl));show AD _ _ (spliced ((Ae,eval (.Call (.Name "reversed" p') [e] [] pos') X.env)::C8 pos (AN [] X.env))) _ _ s;refine Gh ?_;refine Iq (HB I ϻ ζ PyProof.Rows.boot_reversed (B7 (LT (ha pos' pI s Y H _ I h) λus s1 ⟨vs,H1,I1,r1,q1⟩=>?_) (by rw[hs];rfl) rfl))
  obtain⟨a,xs,e',hx,q⟩:=q1;subst e';cases r1 with
  |cons r rr=>
    cases rr;cases r;obtain⟨Z9,rv,ht,hz⟩:=I1.list hx;have IO:=rv.length;refine call_reversed_list ht.isList (Fu ?_);have hl:=ht.isList;have la:a<s1.heap.objs.size:=by obtain⟨o,ho,_⟩:=hl;exact AE ho
    refine oY (s:={s1 with heap:=s1.heap.push (revObj a ((Z9.toArray.size:Ad)-1))}) (I:=s1.heap.objs.size) (l:=a) (I1.ok.hd hc) (AZ la) ⟨_,AB _ rfl,rfl,rfl⟩ (hl.at λo e=>Ar _ e) (by rw[AJ];rw[CN]at hz;omega) λh' tk Z1 c' kp e it=>?_
    have e':=qS it;refine⟨.ref (s1.heap.push (revObj a ((Z9.toArray.size:Ad)-1))).objs.size,_,I1.laid (t':=tk) (λb o e=>kp b o (AZ (AE e)) (Ar _ e)) ?_ (show ObjOk X.prog X.w _ h' _ (.L xs.reverse) from ⟨by rw[EY];exact hz,Z1.toList,c',by rw[e'];exact sT rv,by rw[G4];exact e⟩),rfl,q _ (I1.hok.fresh ?_)⟩
    · rw[Bg];exact HM _
    · rw[Bg];exact HM _
theorem ku(ha:ST X CL W e fe)(hc:X.calm=Aa)(hg:Gl X "list")(hm:X.mg "list" = Af)(ϻ:Gl X "reversed")(ζ:X.mg "reversed" = Af)(hs:AN [e] X.env=[(Ae,eval e X.env)]):SE X CL W (.Call (.Name "list" p) [.Call (.Name "reversed" p') [e] [] pos'] [] pos) (λU=>(fe U).bind λx=>Tm .rvs [x]):=
 λA=>PE.weak (xh hc hg hm ϻ ζ (Gi (ha A) HZ hs) hs) λY H Q ⟨hA,U,g,p⟩=>⟨hA,U,g,BN.bind p λd v H1 _ s1 r1 p1=>by
  cases d with
  |L ds=>
   obtain⟨q,xs,rfl,sq,r⟩:=r1.lst_of;exact⟨q,xs,rfl,sq,λt ht=>p1 _ _ (GA ht _) (S5 (hA.same s1) ht (WB r))⟩
  | _=>exact p1.elim⟩
theorem jU(ts:Ac Ag):GT K CL (LK ts) (Na K ts.length (ts.foldr (λt u=>Jv (Gm t) u) Jz)):=YN ts
end Ov
namespace Ov
open PySem PySem.W PyProof.Rows
variable{G:AO Ag->At->Prop}
def Kr{α:Type}(lt:Ag->Ag->Al)(n:Ag):KasT α->(α->Prop)->Prop
 |.ret a,Q=>Q a
 |.ask i j k,Q=>i<n/\j<n/\Kr lt n (k (lt i j)) Q
theorem Kr.bind{f:α->KasT β}{Q:β->Prop}:∀{t:KasT α},Kr lt n t (λa=>Kr lt n (f a) Q)->Kr lt n (t.bind f) Q
 |.ret _,h=>h
 |.ask i j k,h=>⟨h.1,h.2.1,Kr.bind (t:=k (lt i j)) h.2.2⟩
theorem Kr.wp(hc:∀ i j C,i<n->j<n->C (lt i j) s->cmp i j C s):∀{t:KasT α},Kr lt n t Q->(∀ a,Q a->Q' a s)->t.kasWp cmp Q' s
 |.ret _,h,k=>k _ h
 |.ask i j f,h,k=>hc i j _ h.1 h.2.1 (Kr.wp hc (t:=f (lt i j)) h.2.2 k)
structure Κ (lt:Ag->Ag->Al) (n:Ag):Prop where
 tr:∀ i j k,i<n->j<n->k<n->lt i j=Aa->lt j k=Aa->lt i k=Aa
 tot:∀ i j,i<n->j<n->i≠j->lt i j=Ae->lt j i=Aa
 asy:∀ i j,i<n->j<n->lt i j=Aa->lt j i=Ae
noncomputable def BT(p:AO Ag)(x:Ag):Ag:=p.getD x 0
structure Pm (n:Ag) (p:AO Ag):Prop where
 sz:p.size=n
 lt:∀ x,x<n->BT p x<n
 inj:∀ x y,x<n->y<n->BT p x=BT p y->x=y
def EJ(lt:Ag->Ag->Al)(p:AO Ag)(m:Ag):Prop:=∀ x y,x<y->y<m->lt (BT p x) (BT p y)=Aa
def K4(lt:Ag->Ag->Al)(p:AO Ag)(m:Ag):Prop:=∀ x y,x<y->y<m->lt (BT p y) (BT p x)=Aa
theorem EJ.succ(S:Κ lt n)(hp:Pm n p)(h1:1<=m)(hm:m<n)(h:EJ lt p m)(e:lt (BT p (m-1)) (BT p m)=Aa):EJ lt p (m+1):=λx y Ϣ hy=>by
 by_cases hym:y<m
 .exact h x y Ϣ hym
 .have:y=m:=by omega
  subst this;by_cases hx:x=y-1
  .rw[hx];exact e
  .exact S.tr _ _ _ (hp.lt _ (by omega)) (hp.lt _ (by omega)) (hp.lt _ hm) (h x (y-1) (by omega) (by omega)) e
theorem K4.succ(S:Κ lt n)(hp:Pm n p)(h1:1<=m)(hm:m<n)(h:K4 lt p m)(e:lt (BT p m) (BT p (m-1))=Aa):K4 lt p (m+1):=λx y Ϣ hy=>by
 by_cases hym:y<m
 .exact h x y Ϣ hym
 .have:y=m:=by omega
  subst this;by_cases hx:x=y-1
  .rw[hx];exact e
  .exact S.tr _ _ _ (hp.lt _ hm) (hp.lt _ (by omega)) (hp.lt _ (by omega)) e (h x (y-1) (by omega) (by omega))
theorem PZ(S:Κ lt n)(hp:Pm n p):∀(f m:Ag){Q:Ag->Prop},1<=m->m+f<=n->EJ lt p m->(∀ m',m<=m'->m'<=m+f->EJ lt p m'->(m'=m+f\/lt (BT p m') (BT p (m'-1))=Aa)->Q m')->Kr lt n (kas_asc p f m) Q
 |0,m,Q,h1,hf,hs,k=>k m (AT _) (by omega) hs (.inl (by omega))
 |f+1,m,Q,h1,hf,hs,k=>by
  refine⟨hp.lt _ (by omega),hp.lt _ (by omega),?_⟩
  cases e:lt (p.getD m 0) (p.getD (m-1) 0) with
  |true=>
   dsimp only;rw[AC rfl];exact k m (AT _) (by omega) hs (.inr e)
  |false=>
   dsimp only;rw[AH AX];have ne:BT p m≠BT p (m-1):=λz=>by have:=hp.inj _ _ (by omega) (by omega) z;omega
   have hs':=hs.succ S hp h1 (by omega) (S.tot _ _ (hp.lt _ (by omega)) (hp.lt _ (by omega)) ne e)
   exact PZ S hp f (m+1) (by omega) (by omega) hs' λm' a b c d=>k m' (by omega) (by omega) c (d.imp (λz=>by omega) id)
theorem YJ(S:Κ lt n)(hp:Pm n p):∀(f m:Ag){Q:AO Ag×Ag×Ag->Prop},1<=m->m+f<=n->K4 lt p m->(∀ m',m<=m'->m'<=m+f->K4 lt p m'->Q (p,m',0))->Kr lt n (kas_desc f p m 0) Q
 |0,m,Q,h1,hf,hs,k=>k m (AT _) (by omega) hs
 |f+1,m,Q,h1,hf,hs,k=>by
  refine⟨hp.lt _ (by omega),hp.lt _ (by omega),?_⟩
  cases e:lt (p.getD m 0) (p.getD (m-1) 0) with
  |true=>
   dsimp only;rw[AC rfl,AH (by omega)]
   exact YJ S hp f (m+1) (by omega) (by omega) (hs.succ S hp h1 (by omega) e) λm' a b c=>k m' (by omega) (by omega) c
  |false=>
   dsimp only;rw[AH AX];have ne:BT p m≠BT p (m-1):=λz=>by have:=hp.inj _ _ (by omega) (by omega) z;omega
   refine⟨hp.lt _ (by omega),hp.lt _ (by omega),?_⟩
   have e2:lt (p.getD (m-1) 0) (p.getD m 0)=Aa:=S.tot _ _ (hp.lt _ (by omega)) (hp.lt _ (by omega)) ne e
   rw[e2];dsimp only;rw[AC rfl];exact k m (AT _) (by omega) hs
theorem NP{p:AO Ag}{q:AO Ag}(h:p[x]?=q[y]?):p.getD x 0=q.getD y 0:=by
 rw[Eh,Eh,h]
theorem TC(hm:m<=p.size)(x:Ag):BT (L7 p 0 m) x=if x<m then BT p (m-1-x) else BT p x:=by
 have e:=getElem?_mirror_all (xs:=p) (i:=0) (j:=m) hm x;by_cases h:x<m
 .rw[AC h];rw[AC (by omega)]at e
  rw[show 0+m-1-x=m-1-x by omega]at e
  exact NP e
 .rw[AH h];rw[AH (by omega)]at e
  exact NP e
theorem gZ(h:(if x<m then m-1-x else x)=(if y<m then m-1-y else y)):x=y:=by
 split at h<;>split at h<;>omega
theorem Yt(hp:Pm n p)(hm:m<=n):Pm n (L7 p 0 m):=by
 have hs:m<=p.size:=by rw[hp.sz];exact hm
 have at_:∀ x,BT (L7 p 0 m) x=BT p (if x<m then m-1-x else x):=λx=>by
  rw[TC hs];split<;>rfl
 have lt_:∀ x,x<n->(if x<m then m-1-x else x)<n:=λx hx=>by
  split
  .rename_i h;exact Ce (LV _ _) (AF (LW (Ce (CC _) h) Li) hm)
  .exact hx
 refine⟨(mirror_size _ _ _ _).trans hp.sz,λx hx=>?_,λx y hx hy e=>?_⟩
 .rw[at_];exact hp.lt _ (lt_ x hx)
 .rw[at_,at_]at e;exact gZ (hp.inj _ _ (lt_ x hx) (lt_ y hy) e)
theorem uq(hp:Pm n p)(hm:m<=n)(h:K4 lt p m):EJ lt (L7 p 0 m) m:=λx y Ϣ hy=>by
 have hs:m<=p.size:=by rw[hp.sz];exact hm
 rw[TC hs,TC hs,AC (by omega),AC hy]
 exact h _ _ (by omega) (by omega)
theorem ax(S:Κ lt n)(hp:Pm n p)(h1:1<=m)(hm:m<=n)(h:K4 lt p m)(k:∀ m' q,m<=m'->m'<=n->Pm n q->EJ lt q m'->Q (m',q)):Kr lt n (kas_tail3 m n p) Q:=by
 refine Kr.bind (PZ S (Yt hp hm) (n-m) m h1 (by omega) (uq hp hm h) λm' a b c _=>?_)
 exact k m' _ a (by omega) (Yt hp hm) c
theorem ay(S:Κ lt n)(hp:Pm n p)(h2:2<=n)(k:∀ m' q,1<=m'->m'<=n->Pm n q->EJ lt q m'->Q (m',q)):Kr lt n (Kv n p) Q:=by
 refine Kr.bind (PZ S hp (n-1) 1 (AT _) (Ha (aK (BZ (by decide) h2))) (λx y a b=>absurd (Ce (CC x) a) (Fe.mpr (EA b))) λm a b c d=>?_)
 have b':m<=n:=BZ b (Ha (aK (BZ (by decide) h2)))
 by_cases e:m=n
 .rw[AC (by simp[e])]
  exact k m p a b' hp c
 .rw[AH (by simp[e])]
  by_cases g:m>1
  .rw[AC g];have m1:m-1<m:=LW a Li;refine⟨hp.lt _ (AF a b'),hp.lt _ (AF m1 b'),?_⟩;have c0:lt (p.getD 0 0) (p.getD (m-1) 0)=Aa:=c 0 (m-1) (Nat.sub_pos_of_lt g) m1;rw[c0];dsimp only;rw[AC rfl];exact k m p a b' hp c
  .rw[AH g];have m1:m=1:=aL (Nat.le_of_not_lt g) a;subst m1;have e1:lt (BT p 1) (BT p 0)=Aa:=by
    rcases d with d|d
    .omega
    .exact d
   have d2:K4 lt p 2:=λx y Ϣ hy=>by
    have:x=0/\y=1:=by omega
    obtain⟨rfl,rfl⟩:=this;exact e1
   refine Kr.bind (YJ S hp (n-(1+1)) (1+1) (by omega) (by omega) d2 λm' a' b' c'=>?_)
   show Kr lt n (if (0:Ag)>0 then _ else kas_tail3 m' n p) Q
   rw[AH (by omega)]
   exact ax S hp (by omega) (by omega) c' λm'' q x1 x2 x3 x4=>k m'' q (by omega) x2 x3 x4
theorem wf(h:l<r):∃ m,(l+r)/2=m/\l<=m/\m<r:=⟨_,rfl,by omega,by omega⟩
theorem Tg(S:Κ lt n)(hp:Pm n p)(hk:k<n)(hs:EJ lt p k):∀(f l r:Ag){Q:Ag->Prop},l<=r->r<=k->r-l<=f->(∀ x,x<l->lt (BT p x) (BT p k)=Aa)->(∀ x,r<=x->x<k->lt (BT p k) (BT p x)=Aa)->(∀ l',l'<=k->(∀ x,x<l'->lt (BT p x) (BT p k)=Aa)->(∀ x,l'<=x->x<k->lt (BT p k) (BT p x)=Aa)->Q l')->Kr lt n (kas_place p k f l r) Q
 |0,l,r,Q,h1,h2,h3,ha,hb,q=>q l (BZ h1 h2) ha λx hx=>hb x (BZ (aM (Nat.le_zero.mp h3)) hx)
 |f+1,l,r,Q,h1,h2,h3,ha,hb,q=>by
  unfold kas_place;by_cases g:l ≥ r
  .rw[AC g];exact q l (BZ h1 h2) ha λx hx=>hb x (BZ g hx)
  .rw[AH g];obtain⟨m,em,m1,m2⟩:=wf (aO g);rw[em];have hm:m<k:=AF m2 h2;have ĩ:m<n:=Gf hm hk;refine⟨hp.lt _ hk,hp.lt _ ĩ,?_⟩;cases e:lt (p.getD k 0) (p.getD m 0) with
   |true=>
    dsimp only;rw[AC rfl];refine Tg S hp hk hs f l m m1 (Ei hm) (EA (AF (aS m1 m2) h3)) ha (λx hx hxk=>?_) q
    by_cases hxm:x=m
    .rw[hxm];exact e
    .exact S.tr _ _ _ (hp.lt _ hk) (hp.lt _ ĩ) (hp.lt _ (Gf hxk hk)) e (hs _ x (Fd hx (A8 hxm)) hxk)
   |false=>
    dsimp only;rw[AH AX];have ne:BT p k≠BT p m:=λz=>absurd (hp.inj _ _ hk ĩ z) (Cm hm)
    have e2:=S.tot _ _ (hp.lt _ hk) (hp.lt _ ĩ) ne e;refine Tg S hp hk hs f (m+1) r m2 h2 (EA (AF (Nat.sub_lt_sub_left (Ce m1 m2) (Nat.lt_succ_of_le m1)) h3)) (λx hx=>?_) hb q
    by_cases hxm:x=m
    .rw[hxm];exact e2
    .have ŝ:x<m:=Fd (EA hx) hxm;exact S.tr _ _ _ (hp.lt _ (Gf ŝ ĩ)) (hp.lt _ ĩ) (hp.lt _ hk) (hs x _ ŝ hm) e2
theorem TU(hk:k<p.size)(hl:l<=k)(x:Ag):BT (bubble p k (k-l)) x=if x=l then BT p k else if l<x/\x<=k then BT p (x-1) else BT p x:=by
 have e:=getElem?_bubble hk (k-l) (by omega) x
 rw[show k-(k-l)=l by omega]at e
 split
 .rename_i h;rw[AC h]at e;exact NP e
 .rename_i h;rw[AH h]at e;split
  .rename_i g;rw[AC g]at e;exact NP e
  .rename_i g;rw[AH g]at e;exact NP e
noncomputable def JB(k l x:Ag):Ag:=if x=l then k else if l<x/\x<=k then x-1 else x
theorem vS(hl:l<=k)(h:JB k l x=JB k l y):x=y:=by
 have key:∀ z,(z=l/\JB k l z=k)\/(l<z/\z<=k/\z=JB k l z+1)\/((z<l\/k<z)/\JB k l z=z):=λz=>by
  unfold JB;by_cases h1:z=l
  .exact .inl ⟨h1,AC h1⟩
  .rw[AH h1];by_cases h2:l<z/\z<=k
   .rw[AC h2];exact .inr (.inl ⟨h2.1,h2.2,(Nat.succ_pred_eq_of_pos (Ce (CC l) h2.1)).symm⟩)
   .rw[AH h2];exact .inr (.inr ⟨(Ge h1).imp id λq=>aO λq'=>h2 ⟨q,q'⟩,rfl⟩)
 have k1:=key x;have k2:=key y;rw[h]at k1
 clear key h
 omega
theorem Tq(hk:k<n)(hx:x<n):JB k l x<n:=by
 unfold JB;split
 .exact hk
 .split
  .exact Ce (LV _ _) hx
  .exact hx
theorem zx(hp:Pm n p)(hk:k<n)(hl:l<=k):Pm n (bubble p k (k-l)):=by
 have hs:k<p.size:=by rw[hp.sz];exact hk
 have at_:∀ x,BT (bubble p k (k-l)) x=BT p (JB k l x):=λx=>by
  rw[TU hs hl];unfold JB;split
  .rfl
  .split<;>rfl
 refine⟨(bubble_size _ _ _).trans hp.sz,λx hx=>?_,λx y hx hy e=>?_⟩
 .rw[at_];exact hp.lt _ (Tq hk hx)
 .rw[at_,at_]at e;exact vS hl (hp.inj _ _ (Tq hk hx) (Tq hk hy) e)
theorem Zt(S:Κ lt n):∀(f:Ag){p:AO Ag}{k:Ag}{Q:AO Ag->Prop},Pm n p->k+f=n->EJ lt p k->(∀ q,Pm n q->EJ lt q n->Q q)->Kr lt n (kas_bin f p k) Q
 |0,p,k,Q,hp,hk,hs,q=>by
  have:k=n:=by omega
  subst this;exact q p hp hs
 |f+1,p,k,Q,hp,hk,hs,q=>by
  have hkn:k<n:=by omega
  have hsz:k<p.size:=by rw[hp.sz];exact hkn
  refine Kr.bind (Tg S hp hkn hs k 0 k (CC _) (AT _) (LV _ _) (λx hx=>absurd hx (F8 _)) (λx a b=>absurd b (Fe.mpr a)) λl hl ha hb=>?_)
  refine Zt S f (zx hp hkn hl) (by omega) (λx y Ϣ hy=>?_) q
  have y2:y<=k:=EA hy;have py:y-1<k:=AF (LW (Ce (CC _) Ϣ) Li) y2;rw[TU hsz hl,TU hsz hl];by_cases x1:x=l
  .have ly:l<y:=x1 ▸ Ϣ;rw[AC x1,AH (Cm ly),AC ⟨ly,y2⟩];exact hb _ (aN ly) py
  .rw[AH x1];by_cases x2:l<x/\x<=k
   .have ly:l<y:=Gf x2.1 Ϣ;rw[AC x2,AH (Cm ly),AC ⟨ly,y2⟩];exact hs _ _ (aS (Ce (CC _) x2.1) Ϣ) py
   .rw[AH x2];have xl:x<l:=Fd (Nat.le_of_not_lt λz=>x2 ⟨z,Ei (AF Ϣ y2)⟩) x1
    by_cases y1:y=l
    .rw[AC y1];exact ha _ xl
    .rw[AH y1];by_cases y3:l<y/\y<=k
     .rw[AC y3];exact hs _ _ (AF xl (aN y3.1)) py
     .rw[AH y3];exact hs _ _ Ϣ (AF (Fd (Nat.le_of_not_lt λz=>y3 ⟨z,y2⟩) y1) hl)
theorem Mp(n:Ag):Pm n (BP (AK n)):=by
 have e:∀ x,x<n->BT (BP (AK n)) x=x:=λx hx=>by simp[BT,ZE,hx]
 exact⟨by simp,λx hx=>by rw[e x hx];exact hx,λx y hx hy h=>by rw[e x hx,e y hy]at h;exact h⟩
theorem yz(S:Κ lt n)(h2:2<=n):Kr lt n (kas_sort n) (λq=>Pm n q/\EJ lt q n):=by
 refine Kr.bind (ay S (Mp n) h2 λm q h1 hm hq hs=>?_)
 by_cases h:m<n
 .rw[AC h];have mx:max m 1=m:=by omega
  rw[mx];exact Zt S (n-m) hq (by omega) hs λq a b=>⟨a,b⟩
 .rw[AH h];have:m=n:=by omega
  subst this;exact⟨hq,hs⟩
theorem X4:∀(f n r:Ag),r<=1->minRun' f n r<=n+r
 |0,n,r,_=>AT _
 |f+1,n,r,h=>by
  rw[minRun'_succ];split
  .exact AT _
  .have:=X4 f (n/2) (max r (n%2)) (by omega)
   omega
section
variable{E:Vq}
theorem sE(h2:2<=n)(hG:∀ p' ÿ s',p'.size=n->JS ÿ=p'.map (JU it)->Hx ÿ=Af->G p' s'->Q () ÿ s')(h:(Kv n (BP (AK n))).kasWp (kas_cmp prog w A κ it) (λr s'=>r.1=n/\G r.2 s') s):kasC (model prog w) A E Nd Q (Kw κ it (BP (AK n))) s:=by
 obtain⟨r,rfl⟩:∃ r,n=r+2:=⟨n-2,by omega⟩
 have hrs:(BP (AK (r+2))).size=r+2:=by simp
 rw[sortRuns'_eq];refine G3 (Nm ?_);dsimp only;have hsz:(JS (Kw κ it (BP (AK (r+2))))).size=r+2:=by
  show ((BP (AK (r+2))).map (JU it)).size=_;rw[Array.size_map,hrs]
 have hmr:=X4 (r+2) (r+2) 0 (by omega)
 simp only[hsz];generalize minRun' (r+2) (r+2) 0=mr at *;refine G3 (kasC_range ?_);show kasC _ _ _ (forIn (0::1::Lh 2 r) _ _) _ _ _;refine Ng ?_;dsimp only;rw[AH (by omega)]
 simp only[IE,Fx];refine G3 (kas_count_ (by omega) (by rw[hrs];exact AT _) (λm p' s' hm1 hm2 hp hg=>?_) h)
 have hps:p'.size=r+2:=hp.trans hrs;dsimp only;obtain⟨hm,ϻ⟩:=hg;replace hm:m=r+2:=hm;subst hm;rw[AH (by omega)]
 refine G3 (Nm ?_);rw[show (Nc (Kw κ it p')).back?=Af from rfl]
 dsimp only;refine G3 (kasC_modify (Ku ?_));show kasC _ _ _ (forIn (1::Lh 2 r) _ _) _ _ _;refine Ng ?_;dsimp only;rw[AC (AT _)];refine Ku ?_;dsimp only;refine G3 (kasC_range ?_);show kasC _ _ _ (forIn (0::1::Lh 2 r) _ _) _ _ _;refine Ng ?_;refine G3 (Nm ?_);rw[AC (show (Nc (setPending (Kw κ it p') ((Nc (Kw κ it p')).push (0,r+2,0)))).size<=1 from AT 1)]
 refine Ku ?_;dsimp only;exact Ku (hG p' _ _ hps rfl rfl ϻ)
theorem zF{vs:Ac Aj}{Q:Nh->At->Prop}(hl:ks.length=vs.length)(h2:2<=vs.length)(hG:∀ p ÿ s',p.size=vs.length->JS ÿ=p.map (JU (ks.toArray.zip vs.toArray))->Hx ÿ=Af->G p s'->Q ÿ s')(h:(Kv vs.length (BP (AK vs.length))).kasWp (kas_ask prog w A κ ks) (λr s'=>r.1=vs.length/\G r.2 s') s):AD (model prog w) A ((Nd).run (Hc κ (ks.toArray.zip vs.toArray) #[] 7 Af)) (λr s'=>Q r.2 s') E s:=by
 rw[kat_ask_eq hl]at h;have run:=sE (E:=E) (Q:=λ_ ÿ s'=>Q ÿ s') h2 hG h
 have est:Hc κ (ks.toArray.zip vs.toArray) #[] 7 Af=Kw κ (ks.toArray.zip vs.toArray) (BP (AK vs.length)):=by
  have e:=kas_range (ks.toArray.zip vs.toArray);rw[show (ks.toArray.zip vs.toArray).size=vs.length by simp[hl]]at e
  show Hc κ (ks.toArray.zip vs.toArray) #[] 7 Af=Hc κ ((BP (AK vs.length)).map (JU (ks.toArray.zip vs.toArray))) #[] 7 Af;rw[e]
 rw[est];exact run
end
theorem pL(S:Κ lt n)(h2:2<=n)(hs:EJ lt (BP (AK n)) n):Kr lt n (Kv n (BP (AK n))) (λr=>r.1=n/\Pm n r.2/\EJ lt r.2 n):=by
 refine Kr.bind (PZ S (Mp n) (n-1) 1 (AT _) (by omega) (λx y a b=>by omega) λm a b c d=>?_)
 have e:m=n:=by
  rcases d with d|d
  .omega
  .refine B5 λne=>?_
   have q:=hs (m-1) m (by omega) (by omega)
   have:=S.asy _ _ ((Mp n).lt _ (by omega)) ((Mp n).lt _ (by omega)) q
   rw[this]at d;cases d
 rw[AC (by simp[e])]
 subst e;exact⟨rfl,Mp _,hs⟩
def Jm(h:AS)(v:Aj)(r:Ac Ad):Prop:=∃ a Z9,v=.ref a/\K8 h a Z9/\G2 Z9.toList r/\r≠[]
theorem Jm.kept(t:Jm h v r)(k:∀ b o,h.get? b=Ab o->h'.get? b=Ab o):Jm h' v r:=by
 obtain⟨a,Z9,e,⟨o,ho,q⟩,i,n⟩:=t;exact⟨a,Z9,e,⟨o,k _ _ ho,q⟩,i,n⟩
noncomputable def CV:Ac Ad->Ac Ad->Al
 |[],[]=>Ae
 |[],_::_=>Aa
 |_::_,[]=>Ae
 |x::xs,y::ys=>if x=y then CV xs ys else decide (x<y)
section
variable{E:Vq}
theorem Yc:∀{vs us:Ac Aj}{r q:Ac Ad}(i:Ag),G2 vs r->G2 us q->C (CV r q) s->KatLex prog w A Aa (decide (vs.length<us.length)) C (vs.zip us) i s
 |[],[],[],[],i,_,_,h=>by
  have h':C Ae s:=h;exact kat_nil h'
 |[],u::us,[],y::q,i,_,_,h=>by
  have h':C Aa s:=h;refine kat_nil ?_;have e:decide (([]:Ac Aj).length<(u::us).length)=Aa:=by simp
  rw[e];exact h'
 |v::vs,[],x::r,[],i,_,_,h=>by
  have h':C Ae s:=h;exact kat_nil h'
 |v::vs,u::us,x::r,y::q,i,hv,hu,h=>by
  cases hv with
  |cons _ tv hv=>
   cases hu with
   |cons _ tu hu=>
    have e0:decide ((Jg x tv::vs).length<(Jg y tu::us).length)=decide (vs.length<us.length):=by simp
    rw[e0];refine kat_cons (fJ ?_);by_cases e:x=y
    .have e1:(x==y)=Aa:=by simp[e]
     rw[e1];refine kat_yes (Yc (i+1) hv hu ?_);have h':C (if x=y then CV r q else decide (x<y)) s:=h
     rw[AC e]at h';exact h'
    .have e1:(x==y)=Ae:=by simp[e]
     rw[e1];have h':C (decide (x<y)) s:=by
      have h':C (if x=y then CV r q else decide (x<y)) s:=h
      rwa [AH e]at h'
     refine kat_no ?_;cases i with
     |zero=>exact oneLt_int h'
     |succ i=>
      have e2:(Aa&&(i+1==0))=Ae:=rfl;rw[e2];exact kat_one _ _ (wpAny_lt_int h')
 |[],_,_::_,_,_,hv,_,_=>nomatch hv
 |_::_,_,[],_,_,hv,_,_=>nomatch hv
 |_,[],_,_::_,_,_,hu,_=>nomatch hu
 |_,_::_,_,[],_,_,hu,_=>nomatch hu
theorem pd(hv:Jm s.heap v r)(hu:Jm s.heap u q)(h:C (CV r q) s):AD (model prog w) A (keyLt' (tuples' Aa) v u) C E s:=by
 obtain⟨a,xs,rfl,⟨oa,ga,_,n,da⟩,ix,_⟩:=hv;obtain⟨b,ys,rfl,⟨ob,gb,_,m,db⟩,iy,_⟩:=hu;refine kat_lt ga da gb db ?_;have:=Yc (prog:=prog) (w:=w) (A:=A) (s:=s) 0 ix iy h;simpa using this
theorem O2:∀{r q:Ac Ad},CV r q=Aa->CV q r=Ae
 |[],[],h=>by cases h
 |[],_::_,_=>rfl
 |_::_,[],h=>by cases h
 |x::r,y::q,h=>by
  have h':(if x=y then CV r q else decide (x<y))=Aa:=h
  show (if y=x then CV q r else decide (y<x))=Ae
  by_cases e:x=y
  .rw[AC e]at h';rw[AC e.symm];exact O2 h'
  .rw[AH e,AW]at h';rw[AH (A8 e),E8];omega
theorem Sk:∀{r q:Ac Ad},r≠q->CV r q=Ae->CV q r=Aa
 |[],[],n,_=>absurd rfl n
 |[],_::_,_,h=>by cases h
 |_::_,[],_,_=>rfl
 |x::r,y::q,n,h=>by
  have h':(if x=y then CV r q else decide (x<y))=Ae:=h
  show (if y=x then CV q r else decide (y<x))=Aa
  by_cases e:x=y
  .rw[AC e]at h';rw[AC e.symm];exact Sk (λz=>n (by rw[e,z])) h'
  .rw[AH e,E8]at h';rw[AH (A8 e),AW];omega
theorem Pd:∀{r q t:Ac Ad},CV r q=Aa->CV q t=Aa->CV r t=Aa
 |[],[],_,h,_=>by cases h
 |_::_,[],_,h,_=>by cases h
 |_,_::_,[],_,h=>by cases h
 |[],_::_,_::_,_,_=>rfl
 |x::r,y::q,u::t,h,g=>by
  have h':(if x=y then CV r q else decide (x<y))=Aa:=h
  have g':(if y=u then CV q t else decide (y<u))=Aa:=g
  show (if x=u then CV r t else decide (x<u))=Aa
  by_cases e:x=y
  .rw[AC e]at h';by_cases f:y=u
   .rw[AC f]at g';rw[AC (e.trans f)];exact Pd h' g'
   .rw[AH f,AW]at g';rw[AH (by omega),AW]
    omega
  .rw[AH e,AW]at h';by_cases f:y=u
   .rw[AH (by omega),AW]
    omega
   .rw[AH f,AW]at g';rw[AH (by omega),AW]
    omega
noncomputable def ϱ(rs:Ac (Ac Ad))(i j:Ag):Al:=CV (rs.getD i []) (rs.getD j [])
theorem sZ(nd:rs.Nodup):Κ (ϱ rs) rs.length:=by
 refine⟨λi j k _ _ _=>Pd,λi j hi hj ne h=>Sk (λe=>ne ?_) h,λi j _ _=>O2⟩
 have h':=EF.mp nd;rw[A5,A5,AR hi,AR hj]at e;have e':rs[i]=rs[j]:=e;rcases Nat.lt_trichotomy i j with z|z|z
 .exact absurd e' (h' i j hi hj z)
 .exact z
 .exact absurd e'.symm (h' j i hj hi z)
noncomputable abbrev K3(vs:Ac Aj)(p:AO Ag):AO Aj:=BP (p.toList.map λi=>vs.getD i Cv)
theorem qL(vs:Ac Aj):K3 vs (BP (AK vs.length))=vs.toArray:=by
 apply ZI.mp
 show (AK vs.length).map (λi=>vs.getD i Cv)=vs
 apply ZZ
 .simp
 .intro i h1 h2;simp[h2]
theorem Wf:∀{vs:Ac Aj}{rs:Ac (Ac Ad)},rs.length=vs.length->(∀(i:Ag)(v:Aj)(r:Ac Ad),vs[i]?=Ab v->rs[i]?=Ab r->Jm h v r)->∃ fs,KatTups h vs fs/\fs.length=vs.length/\∀ v∈fs,∃ x t,v=Jg x t
 |[],_,_,_=>⟨[],KatTups.nil,rfl,λv hv=>by cases hv⟩
 |v::vs,[],hl,_=>by cases hl
 |v::vs,r::rs,hl,ht=>by
  obtain⟨fs,h1,h2,h3⟩:=Wf (vs:=vs) (rs:=rs) (by simpa using hl) λi v r a b=>ht (i+1) v r a b
  obtain⟨a,Z9,rfl,⟨o,ho,hc,n,hd⟩,hi,Ϯ⟩:=ht 0 v r rfl rfl;cases e:Z9.toList with
  |nil=>
   rw[e]at hi;cases hi;exact absurd rfl Ϯ
  |cons f l=>
   rw[e]at hi;cases hi with
   |cons x t hi=>
    refine⟨.int x t::fs,KatTups.cons ho hc hd ?_ h1,by simp[h2],λv hv=>?_⟩
    .rw[<-En,e];rfl
    .rcases Aw.mp hv with rfl|hv
     .exact⟨x,t,rfl⟩
     .exact h3 v hv
theorem oW(ho:s.heap.get? a=Ab (CO "list" vs.toArray n))(hr:rs.length=vs.length)(ht:∀(i:Ag)(v:Aj)(r:Ac Ad),vs[i]?=Ab v->rs[i]?=Ab r->Jm s.heap v r)(nd:rs.Nodup)(Î:vs.length<64\/(EJ (ϱ rs) (BP (AK vs.length)) vs.length/\vs.length<=1000))(h:∀ p:AO Ag,Pm vs.length p->EJ (ϱ rs) p vs.length->P (.done (.ret .none)) {s with heap:=sortedHeap s.heap a vs (K3 vs p)}):AD (model prog w) A (Builtin.«list.sort» ⟨[.ref a],[]⟩) P E s:=by
 have hz:vs.length<=1000:=Î.elim (λh=>by omega) λh=>h.2
 rw[list_sort_plain];have ha:a<s.heap.objs.size:=AE ho;refine Ah (listItems_at ho rfl ?_ );refine Ah (listUpdate_at ho rfl ?_ (by rw[AJ,CN];omega) (CC _))
 obtain⟨e1,ho1⟩:∃ e1,(s.heap.update a (Bx λ_=>(#[]:AO Aj))).get? a=Ab (CO "list" #[] e1):=⟨_,get?_update_seq ho (λ_=>#[])⟩
 refine Ah (seqEpoch_at ho1 rfl ?_);refine Ah (Hy ?_ (by show vs.length<=_;rw[CN];omega))
 refine Ah (wpAny_newList ?_ (CC _));refine CG ?_;have ho6:(((s.heap.update a (Bx λ_=>(#[]:AO Aj))).push (CO "tuple" vs.toArray 0)).push (CO "list" #[] 0)).get? a=Ab (CO "list" #[] e1):=by
  rw[Gz _ _ _ (by rw[size_push',IG];exact AZ (CA ha)),Gz _ _ _ (by rw[IG];exact AZ ha)]
  exact ho1
 show AD (model prog w) A _ P E { s with heap:=((s.heap.update a (Bx λ_=>(#[]:AO Aj))).push (CO "tuple" vs.toArray 0)).push (CO "list" #[] 0) }
 have kt:∀(i:Ag)(v:Aj)(r:Ac Ad),vs[i]?=Ab v->rs[i]?=Ab r->Jm (((s.heap.update a (Bx λ_=>(#[]:AO Aj))).push (CO "tuple" vs.toArray 0)).push (CO "list" #[] 0)) v r:=λi v r h1 h2=>by
  obtain⟨b,Z9,e,⟨o,hb,hc,q⟩,x,y⟩:=ht i v r h1 h2;have ne:b≠a:=λz=>by
   rw[z,ho]at hb;cases hb;have ϋ:C2 "list" = C2 "tuple" := hc
   injection ϋ with ϋ
   exact absurd ϋ (by decide)
  refine⟨b,Z9,e,⟨o,?_,hc,q⟩,x,y⟩;exact Ar _ (Ar _ ((Ch _ _ (A8 ne)).trans hb))
 dsimp only;have hsz:vs.toArray.size=vs.length:=by simp
 have fin:∀ p:AO Ag,Pm vs.length p->EJ (ϱ rs) p vs.length->∀ ÿ:Nh,(JS ÿ).map (·.2)=K3 vs p->Hx ÿ=Af->∀ s':At,s'={ s with heap:=((s.heap.update a (Bx λ_=>(#[]:AO Aj))).push (CO "tuple" vs.toArray 0)).push (CO "list" #[] 0) }->AD (model prog w) A (do
   let sorted:=(JS ÿ).map (·.2)
   let touched:=(<-seqEpoch a) != e1
   bF (.ref a) λ_=>sorted
   if let Ab e:=Hx ÿ then rule "list.sort.comparison-raised"; throw e
   if touched then rule "list.sort.modified"; raiseError "ValueError" "list modified during sort"
   ret .none) P E s':=λp hp hs ÿ ϯ hf s' es=>by
  subst es;have osz:(K3 vs p).size=vs.length:=by show (BP (p.toList.map _)).size=_;rw[AJ,AG,C1,hp.sz]
  refine Ah (seqEpoch_at ho6 rfl ?_);rw[ϯ,hf];refine Ah (listUpdate_at ho6 rfl ?_ (CC _) (by rw[osz,CN];omega))
  simp only[bne_self_eq_false,Gd,HK];exact Az (h p hp hs)
 by_cases h2:vs.toArray.size<2
 .rw[AC h2,AC h2];refine Ah (Az ?_);rw[StateT.run_pure];refine Ah (Az ?_);dsimp only;refine fin (BP (AK vs.length)) (Mp _) (λx y a b=>by omega) (Hc general' (vs.toArray.zip vs.toArray) #[] 7 Af) ?_ rfl _ rfl
  rw[qL];show (vs.toArray.zip vs.toArray).map (·.2)=vs.toArray
  apply ZI.mp
  simp[List.map_snd_zip]
 .rw[AH h2,AH h2];have h2':2<=vs.length:=by rw[hsz]at h2;omega
  obtain⟨fs,t1,t2,t3⟩:=Wf hr kt;refine Ah (kat_kind t1 (by omega) (T:=C2 "int") (λv hv=>?_) rfl ?_)
  .obtain⟨x,t,rfl⟩:=t3 v hv;exact .now
  .have e0:tuples' (C2 "int" != C2 "tuple")=tuples' Aa:=rfl;rw[e0];have S:=sZ nd;rw[hr]at S;have ask:∀(i j:Ag)(C:Al->At->Prop),i<vs.length->j<vs.length->C (ϱ rs i j) { s with heap:=((s.heap.update a (Bx λ_=>(#[]:AO Aj))).push (CO "tuple" vs.toArray 0)).push (CO "list" #[] 0) }->kas_ask prog w A (tuples' Aa) vs i j C { s with heap:=((s.heap.update a (Bx λ_=>(#[]:AO Aj))).push (CO "tuple" vs.toArray 0)).push (CO "list" #[] 0) }:=λi j C hi hj hC=>by
    have gi:vs[i]?=Ab vs[i]:=AR hi;have gj:vs[j]?=Ab vs[j]:=AR hj;have ri:rs[i]?=Ab rs[i]:=AR (by omega)
    have rj:rs[j]?=Ab rs[j]:=AR (by omega)
    show AD (model prog w) A (keyLt' (tuples' Aa) (vs.getD i Cv) (vs.getD j Cv)) C (λ_ _=>BV) _
    rw[A5,A5,gi,gj];refine pd (kt i _ _ gi ri) (kt j _ _ gj rj) ?_;have:ϱ rs i j=CV rs[i] rs[j]:=by unfold ϱ;rw[A5,A5,ri,rj];rfl
    rw[<-this];exact hC
   have hq:∀(p:AO Ag)(ÿ:Nh)(s':At),p.size=vs.length->JS ÿ=p.map (JU (vs.toArray.zip vs.toArray))->Hx ÿ=Af->(λp s'=>Pm vs.length p/\EJ (ϱ rs) p vs.length/\s'={ s with heap:=((s.heap.update a (Bx λ_=>(#[]:AO Aj))).push (CO "tuple" vs.toArray 0)).push (CO "list" #[] 0) }) p s'->(λÿ s'=>∃ p,Pm vs.length p/\EJ (ϱ rs) p vs.length/\(JS ÿ).map (·.2)=K3 vs p/\Hx ÿ=Af/\s'={ s with heap:=((s.heap.update a (Bx λ_=>(#[]:AO Aj))).push (CO "tuple" vs.toArray 0)).push (CO "list" #[] 0) }) ÿ s':=λp ÿ s' _ ha hf hg=>⟨p,hg.1,hg.2.1,kat_snds rfl ha,hf,hg.2.2⟩
   refine Ah (C3 (show AD (model prog w) A ((Nd).run (Hc (tuples' Aa) (vs.toArray.zip vs.toArray) #[] 7 Af)) (λr s'=>(λÿ s'=>∃ p,Pm vs.length p/\EJ (ϱ rs) p vs.length/\(JS ÿ).map (·.2)=K3 vs p/\Hx ÿ=Af/\s'={ s with heap:=((s.heap.update a (Bx λ_=>(#[]:AO Aj))).push (CO "tuple" vs.toArray 0)).push (CO "list" #[] 0) }) r.2 s') E _ from ?_) ?_ λ_ _ e=>e)
   .rcases Î with Î|⟨Î,_⟩
    .exact kat_run (ks:=vs) (vs:=vs) (κ:=tuples' Aa) rfl h2' Î hq (Kr.wp ask (yz S h2') λp hp=>⟨hp.1,hp.2,rfl⟩)
    .exact zF (ks:=vs) (vs:=vs) (κ:=tuples' Aa) rfl h2' hq (Kr.wp ask (pL S h2' Î) λr hr=>⟨hr.1,hr.2.1,hr.2.2,rfl⟩)
   .rintro⟨⟨⟩,ÿ⟩ s' ⟨p,hp,hs,ϯ,hf,es⟩;exact fin p hp hs ÿ ϯ hf s' es
theorem qB{s:At}{Q:Vq}(hl:s.heap.IsList l vs.toArray)(hr:rs.length=vs.length)(ht:∀(i:Ag)(v:Aj)(r:Ac Ad),vs[i]?=Ab v->rs[i]?=Ab r->Jm s.heap v r)(nd:rs.Nodup)(Î:vs.length<64\/(EJ (ϱ rs) (BP (AK vs.length)) vs.length/\vs.length<=1000))(h:∀ p:AO Ag,Pm vs.length p->EJ (ϱ rs) p vs.length->Q (.ref (s.heap.objs.size+1)) {s with heap:=sortedAll s.heap vs (K3 vs p)}):
    AD (model prog w) A (call (.builtin "sorted") [.ref l]) Q E s:=by
  have hz:vs.length<=1000:=Î.elim (λh=>by omega) λh=>h.2
  refine Calls.call_function_entry kind_sorted plain_sorted entry_sorted (args_sorted1 _) ?_;unfold Builtin.«sorted»;refine Ah (m:=checkCount "sorted" 1 1 _) (Az ?_);refine Ah (collect_list hl ?_ (by rw[CN];omega))
  refine Ah (wpAny_newList ?_ (by rw[CN];omega))
  have hsz:((s.heap.push (CO "list" #[] 0)).update s.heap.objs.size (Bx (· ++ vs.toArray))).objs.size=s.heap.objs.size+1:=by
    rw[IG,size_push']
  have hoL:(((s.heap.push (CO "list" #[] 0)).update s.heap.objs.size (Bx (· ++ vs.toArray))).push (CO "list" vs.toArray 0)).get? (s.heap.objs.size+1)=Ab (CO "list" vs.toArray 0):=by
    rw[<-hsz];exact AB _ rfl
  have keep:∀ b o,s.heap.get? b=Ab o->(((s.heap.push (CO "list" #[] 0)).update s.heap.objs.size (Bx (· ++ vs.toArray))).push (CO "list" vs.toArray 0)).get? b=Ab o:=λb o q=>by
    have ô:b<s.heap.objs.size:=AE q;rw[Gz _ _ _ (by rw[hsz];exact AZ (CA ô)),Heap.get?_update_ne _ _ _ _ (AZ ô),Gz _ _ _ (AZ ô)]
    exact q
  show AD _ _ _ _ _ { s with heap:=((s.heap.push (CO "list" #[] 0)).update s.heap.objs.size (Bx (· ++ vs.toArray))).push (CO "list" vs.toArray 0) }
  rw[hsz];refine Ah (CG (CZ slot_list_sort ⟨_,hoL,rfl⟩ entry_list_sort (oW (s:={ s with heap:=((s.heap.push (CO "list" #[] 0)).update s.heap.objs.size (Bx (· ++ vs.toArray))).push (CO "list" vs.toArray 0) }) hoL hr (λi v r h1 h2=>(ht i v r h1 h2).kept keep) nd Î λp hp hs=>⟨_,rfl,?_⟩) (args_list_sort _)))
  exact Az ⟨_,rfl,h p hp hs⟩
end
end Ov
namespace Ov
noncomputable def tI(r:Ac Ad):D:=.H (r.map D.int)
theorem RZ:∀(r q:Ac Ad),My (r.map D.int) (q.map D.int)=decide (r=q)
 |[],[]=>rfl
 |[],_::_=>rfl
 |_::_,[]=>rfl
 |x::r,y::q=>by
  have e:My ((x::r).map D.int) ((y::q).map D.int)=(x==y&&My (r.map D.int) (q.map D.int)):=rfl;rw[e,RZ r q];by_cases h:x=y<;>by_cases g:r=q<;>simp[h,g]
theorem YV(r q:Ac Ad):U4 (tI r) (tI q)=decide (r=q):=RZ r q
theorem Wa:∀(r q:Ac Ad),Ô.ltDs (Ô 0) (r.map D.int) (q.map D.int)=CV r q
 |[],[]=>rfl
 |[],_::_=>rfl
 |_::_,[]=>rfl
 |x::r,y::q=>by
  have e:Ô.ltDs (Ô 0) ((x::r).map D.int) ((y::q).map D.int)=if (x==y)=Aa then Ô.ltDs (Ô 0) (r.map D.int) (q.map D.int) else decide (x<y):=rfl
  have e':CV (x::r) (y::q)=if x=y then CV r q else decide (x<y):=rfl
  rw[e,e',Wa r q];by_cases h:x=y<;>simp[h]
theorem X6(r q:Ac Ad):Ô 1 (tI r) (tI q)=CV r q:=Wa r q
theorem Xd:∀{xs:Ac D},xs.all (Ż 0)=Aa->∃ r:Ac Ad,xs=r.map D.int
 |[],_=>⟨[],rfl⟩
 |x::xs,h=>by
  rw[E9,Ap]at h;obtain⟨r,e⟩:=Xd h.2;cases x with
  |int i=>exact⟨i::r,by rw[e];rfl⟩
  |_=>cases h.1
theorem gY(h:Ż 1 d=Aa):∃ r,d=tI r:=by
 cases d with
 |H xs=>
  obtain⟨r,e⟩:=Xd (xs:=xs) h;exact⟨r,by rw[e];rfl⟩
 |_=>cases h
theorem Yr:∀{xs:Ac D},xs.all (λd=>Ż 1 d && !U4 d (.H []))=Aa->∃ rs:Ac (Ac Ad),xs=rs.map tI/\∀ r∈rs,r≠[]
 |[],_=>⟨[],rfl,λr h=>by cases h⟩
 |x::xs,h=>by
  rw[E9,Ap,Ap]at h;obtain⟨rs,e,hn⟩:=Yr h.2;obtain⟨r,e1⟩:=gY h.1.1;refine⟨r::rs,by rw[e,e1];rfl,λq hq=>?_⟩
  rcases Aw.mp hq with rfl|hq
  .intro z;have h2:=h.1.2;rw[e1,z]at h2;cases h2
  .exact hn q hq
theorem Ys:∀{rs:Ac (Ac Ad)},(∀ r∈rs,r≠[])->(rs.map tI).all (λd=>Ż 1 d && !U4 d (.H []))=Aa
 |[],_=>rfl
 |r::rs,h=>by
  rw[BA,E9,Ap,Ap];refine⟨⟨?_,?_⟩,Ys λq hq=>h q (Av _ hq)⟩
  .show (r.map D.int).all (Ż 0)=Aa;rw[DT];intro d hd;obtain⟨i,_,rfl⟩:=A7.mp hd;rfl
  .have e:U4 (tI r) (.H [])=decide (r=[]):=RZ r [];rw[e];have:=h r (Ax ..);simp[this]
noncomputable def JF(x:Ac Ad):Ac (Ac Ad)->Ac (Ac Ad)
 |[]=>[x]
 |y::ys=>if CV y x=Aa then y::JF x ys else x::y::ys
noncomputable def Ka:Ac (Ac Ad)->Ac (Ac Ad)
 |[]=>[]
 |x::xs=>JF x (Ka xs)
theorem YL(x:Ac Ad):∀ ys:Ac (Ac Ad),M9 (Ô 1) (tI x) (ys.map tI)=(JF x ys).map tI
 |[]=>rfl
 |y::ys=>by
  have e:M9 (Ô 1) (tI x) ((y::ys).map tI)=if Ô 1 (tI y) (tI x)=Aa then tI y::M9 (Ô 1) (tI x) (ys.map tI) else tI x::tI y::ys.map tI:=rfl
  have e':JF x (y::ys)=if CV y x=Aa then y::JF x ys else x::y::ys:=rfl
  rw[e,e',X6,YL x ys];by_cases h:CV y x=Aa<;>simp[h]
theorem S8:∀ rs:Ac (Ac Ad),PX (Ô 1) (rs.map tI)=(Ka rs).map tI
 |[]=>rfl
 |r::rs=>by
  show M9 (Ô 1) (tI r) (PX (Ô 1) (rs.map tI))=(JF r (Ka rs)).map tI;rw[S8 rs,YL]
theorem Sq(x:Ac Ad):∀ ys:Ac (Ac Ad),(JF x ys).Perm (x::ys)
 |[]=>.refl _
 |y::ys=>by
  show (if CV y x=Aa then y::JF x ys else x::y::ys).Perm _
  split
  .exact(JH y (Sq x ys)).trans (List.Perm.swap ..)
  .exact .refl _
theorem Rz:∀ rs:Ac (Ac Ad),(Ka rs).Perm rs
 |[]=>.refl _
 |r::rs=>(Sq r _).trans (JH r (Rz rs))
theorem YM(x:Ac Ad):∀{ys:Ac (Ac Ad)},x∉ys->ys.Pairwise (λa b=>CV a b=Aa)->(JF x ys).Pairwise (λa b=>CV a b=Aa)
 |[],_,_=>aG ..
 |y::ys,hx,h=>by
  show (if CV y x=Aa then y::JF x ys else x::y::ys).Pairwise _
  obtain⟨h1,h2⟩:=Fb.mp h;by_cases g:CV y x=Aa
  .rw[AC g];refine Fb.mpr ⟨λz hz=>?_,YM x (λm=>hx (Av _ m)) h2⟩
   rcases Aw.mp ((Sq x ys).mem_iff.mp hz) with rfl|hz
   .exact g
   .exact h1 z hz
  .rw[AH g];have g':CV y x=Ae:=by simpa using g
   have xy:CV x y=Aa:=Sk (λe=>hx (by rw[e];exact Ax ..)) g'
   refine Fb.mpr ⟨λz hz=>?_,h⟩
   rcases Aw.mp hz with rfl|hz
   .exact xy
   .exact Pd xy (h1 z hz)
theorem W8:∀{rs:Ac (Ac Ad)},rs.Nodup->(Ka rs).Pairwise (λa b=>CV a b=Aa)
 |[],_=>.nil
 |r::rs,h=>by
  obtain⟨h1,h2⟩:=BO.mp h;exact YM r (λm=>h1 ((Rz rs).mem_iff.mp m)) (W8 h2)
theorem Vy(nd:rs.Nodup)(hs:ys.Pairwise (λa b=>CV a b=Aa))(hp:ys.Perm rs):Ka rs=ys:=by
 refine List.Perm.eq_of_pairwise (le:=λa b=>CV a b=Aa) (λa b _ _ h1 h2=>?_) (W8 nd) hs ((Rz rs).trans hp.symm)
 rw[O2 h1]at h2;cases h2
theorem Ww{α:Type}[DecidableEq α]:∀{l m:Ac α},l.Nodup->(∀ x∈l,x∈m)->m.length<=l.length->l.Perm m
 |[],m,_,_,hl=>by
  cases m with
  |nil=>exact .refl _
  |cons a m=>simp at hl
 |x::l,m,nd,hs,hl=>by
  obtain⟨h1,h2⟩:=BO.mp nd;have hx:x∈m:=hs x (Ax ..);have hp:=List.perm_cons_erase hx;refine(JH x (Ww h2 (λy hy=>?_) ?_)).trans hp.symm
  .refine(G8 (λe=>h1 (by rw[<-e];exact hy))).mpr (hs y (Av _ hy))
  .have:=B9 hx;simp at hl;omega
theorem V8{ys:Ac (Ac Ad)}(h:ys.Pairwise (λa b=>CV a b=Aa)):ys.Nodup:=
 h.imp λ{a b} g e=>by
  subst e;have:=O2 g;rw[g]at this;cases this
theorem qQ{α:Type}[DecidableEq α]{l m:Ac α}(hl:l.Nodup)(hm:m.Nodup)(h:∀ x,x∈l↔x∈m):l.Perm m:=by
 rw[List.perm_iff_count];intro a;rw[hl.count,hm.count];simp[h]
theorem S0:∀ rs:Ac (Ac Ad),M6 (rs.map tI)=Aa↔rs.Nodup
 |[]=>by simp[M6]
 |r::rs=>by
  have e:M6 ((r::rs).map tI)=((rs.map tI).all (λy=>!U4 (tI r) y)&&M6 (rs.map tI)):=rfl
  rw[e,Ap,S0 rs,BO];refine and_congr ?_ Iff.rfl;rw[ZS,DT];constructor
  .intro h m;have:=h r m;simp[YV]at this
  .intro h q hq;have:r≠q:=λz=>h (by rw[z];exact hq)
   simp[YV,this]
theorem Y_1:∀{rs:Ac (Ac Ad)},Qx (rs.map tI)=Aa->rs.Pairwise (λa b=>CV a b=Aa)
 |[],_=>.nil
 |[_],_=>aG ..
 |x::y::r,h=>by
  have h':(Ô 1 (tI x) (tI y)&&Qx ((y::r).map tI))=Aa:=h;rw[Ap,X6]at h';have ih:=Y_1 h'.2;refine Fb.mpr ⟨λz hz=>?_,ih⟩
  rcases Aw.mp hz with rfl|hz
  .exact h'.1
  .exact Pd h'.1 ((Fb.mp ih).1 z hz)
theorem qN{rs ys:Ac (Ac Ad)}(hn:∀ r∈rs,r≠[])(nd:rs.Nodup)(Î:rs.length<64)(hs:ys.Pairwise (λa b=>CV a b=Aa))(hm:∀ r,r∈ys↔r∈rs):IS (rs.map tI)=.ok (ys.map tI):=by
 unfold IS;rw[AC (by rw[Ys hn,(S0 rs).mpr nd,AG,Bo Î,Bool.true_or];rfl),S8,Vy nd hs (qQ (V8 hs) nd hm)]
theorem qC(h:IS xs=.ok d):∃ rs:Ac (Ac Ad),xs=rs.map tI/\(∀ r∈rs,r≠[])/\rs.Nodup/\(rs.length<64\/(rs.Pairwise (λa b=>CV a b=Aa)/\rs.length<=1000))/\d=(Ka rs).map tI:=by
 unfold IS at h;split at h
 .next g=>
  rw[Ap,Ap,DH,Ap,AW,AW]at g;obtain⟨rs,e,hn⟩:=Yr g.1.1;subst e;rw[S8]at h;cases h;exact⟨rs,rfl,hn,(S0 rs).mp g.1.2,g.2.imp (λh=>by simpa using h) λh=>⟨Y_1 h.1,by simpa using h.2⟩,rfl⟩
 .cases h
open PySem PySem.Spec PyProof.Rows L2
theorem Wd{K:Fg}:∀{is:Ac Ad}{ys:Ac V},Z7 K CL H A ys (is.map D.int)->ys=is.map V.int
 |[],[],_=>rfl
 |[],_::_,r=>r.elim
 |_::_,[],r=>r.elim
 |i::is,y::ys,r=>by
  have e1:y=.int i:=r.1;rw[Wd r.2,e1];rfl
theorem So:∀{is:Ac Ad}{Z9:Ac Aj},Bl (is.map V.int) Z9->G2 Z9 is
 |[],_,h=>by cases h;exact .nil
 |i::is,_,h=>by
  cases h with
  |cons h1 h2=>
   obtain⟨t,rfl⟩:=h1;exact .cons i t (So h2)
theorem Wy(I:Z6 X pI Y H s):∀{rs:Ac (Ac Ad)}{ys:Ac V}{Z9:Ac Aj},Z7 X.K CL H A ys (rs.map tI)->Bl ys Z9->(∀ r∈rs,r≠[])->∀(i:Ag)(v:Aj)(r:Ac Ad),Z9[i]?=Ab v->rs[i]?=Ab r->Jm s.heap v r
 |[],_,_,_,_,_,i,v,r,_,e=>by cases e
 |_::_,[],_,h,_,_,_,_,_,_,_=>h.elim
 |q::rs,y::ys,_,h,hv,hn,i,v,r,e1,e2=>by
  cases hv with
  |cons h1 h2=>
   cases i with
   |succ i=>exact Wy I h.2 h2 (λr m=>hn r (Av _ m)) i v r e1 e2
   |zero=>
    cases e1;cases e2;have h0:DQ X.K CL H A y (.H (q.map D.int)):=.inl h.1;obtain⟨a,xs,rfl,_,sq,rx⟩:=h0.tup_of;obtain⟨Z9,hi,ht,_⟩:=I.tuple sq;rw[Wd rx]at hi;cases h1;exact⟨a,Z9.toArray,rfl,ht,So hi,hn q (Ax ..)⟩
theorem Vu(h:Bl ys Z9):∀ l:Ac Ag,(∀ i∈l,i<ys.length)->Bl (l.map λi=>ys.getD i .O) (l.map λi=>Z9.getD i Cv)
 |[],_=>.nil
 |i::l,hl=>by
  have hi:i<ys.length:=hl i (Ax ..);have e:ys[i]?=Ab ys[i]:=AR hi;obtain⟨u,e2,r⟩:=h.get e;refine .cons ?_ (Vu h l λj hj=>hl j (Av _ hj))
  show Co (ys.getD i .O) (Z9.getD i Cv);rw[A5,A5,e,e2];exact r
theorem Xe{K:Fg}:∀{ys:Ac V}{ds:Ac D}{i:Ag},Z7 K CL H A ys ds->i<ds.length->U8 K CL H A (ys.getD i .O) (ds.getD i .O)
 |[],[],_,_,h=>by cases h
 |[],_::_,_,r,_=>r.elim
 |_::_,[],_,r,_=>r.elim
 |y::ys,d::ds,0,r,_=>r.1
 |y::ys,d::ds,i+1,r,h=>Xe (ys:=ys) (ds:=ds) (i:=i) r.2 (Nat.lt_of_succ_lt_succ h)
theorem VV{K:Fg}(h:Z7 K CL H A ys ds):∀ l:Ac Ag,(∀ i∈l,i<ds.length)->Z7 K CL H A (l.map λi=>ys.getD i .O) (l.map λi=>ds.getD i .O)
 |[],_=>trivial
 |i::l,hl=>⟨Xe h (hl i (Ax ..)),VV h l λj hj=>hl j (Av _ hj)⟩
theorem Pl(hp:Pm n p):∀ i∈p.toList,i<n:=λi hi=>by
 obtain⟨j,hj,e⟩:=List.mem_iff_getElem.mp hi;have ε:j<n:=by rw[<-hp.sz];simpa using hj
 have:=hp.lt j ε;unfold BT at this;rw[Eh,<-En,AR hj,e]at this;exact this
theorem Zj(hp:Pm n p)(hj:j<p.toList.length):BT p j=p.toList[j]:=by
 unfold BT;rw[Eh,<-En,AR hj];rfl
theorem qI(nd:rs.Nodup)(hp:Pm rs.length p)(hs:EJ (ϱ rs) p rs.length):p.toList.map (λi=>rs.getD i [])=Ka rs:=by
 have hl:p.toList.length=rs.length:=by rw[C1,hp.sz]
 have pw:(p.toList.map (λi=>rs.getD i [])).Pairwise (λa b=>CV a b=Aa):=by
  rw[List.pairwise_map,EF];intro i j hi hj hij;have:=hs i j hij (by omega)
  rw[Zj hp hi,Zj hp hj]at this;exact this
 refine(Vy nd pw (Ww (V8 pw) (λx hx=>?_) (by rw[AG,hl];exact AT _))).symm
 obtain⟨i,hi,rfl⟩:=A7.mp hx;have:=Pl hp i hi;rw[A5,AR this];exact CI this
theorem rM:Qh X CL W (.builtin "sorted") (Tm .sorted):=by
  intro A H0 pI s Y H xs us Q I r ⟨s0,hA,ds,rs,p⟩;by_cases hls:∃ es,ds=[.L es]
  · obtain⟨es,rfl⟩:=hls;obtain⟨v,rfl,rv⟩:=rs.one;obtain⟨q,ys,rfl,sq,ry⟩:=rv.lst_of;have p':BN (Fn X.K CL Aa H0 A) W H ((IS es).bind λb=>.ok (.L b)) Q:=p
    cases hd:IS es with
    |exn x=>
      unfold IS at hd;split at hd<;>cases hd
    |bad=>
      rw[hd]at p';exact p'.elim
    |ok d=>
      rw[hd]at p';obtain⟨Ţ,rfl,hn,nd,Î,rfl⟩:=qC hd;obtain⟨u,rfl,rx⟩:=Jq r;cases rx;obtain⟨Z9,hv,pl,hz⟩:=I.list sq;have l1:ys.length=Ţ.length:=by rw[ry.length,AG]
      have l2:ys.length=Z9.length:=hv.length;have h1000:Ţ.length<=1000:=Î.elim (λh=>by omega) λh=>h.2
      have h64':Z9.length<64\/(EJ (ϱ Ţ) (BP (AK Z9.length)) Z9.length/\Z9.length<=1000):=Î.imp (λh=>by omega) λh=>⟨λx y Ϣ hy=>by
        have e:∀ x,x<Z9.length->BT (BP (AK Z9.length)) x=x:=λx hx=>by simp[BT,ZE,hx]
        rw[e x (by omega),e y hy]
        have g:=EF.mp h.1 x y (by omega) (by omega) Ϣ
        unfold ϱ;rw[A5,A5,AR (by omega),AR (by omega)]
        exact g,by omega⟩
      refine qB pl.isList (by omega) (Wy I ry hv hn) nd h64' λpp hp hs=>?_
      rw[<-l2,l1]at hp hs;have e1:=qI nd hp hs;have rp:=VV ry pp.toList (λi hi=>by rw[AG];exact Pl hp i hi)
      have e2:(pp.toList.map λi=>(Ţ.map tI).getD i .O)=(Ka Ţ).map tI:=by
        rw[<-e1,Do]
        apply CM
        intro i hi;have:=Pl hp i hi;simp[AR this]
      rw[e2]at rp;have vp:=Vu hv pp.toList (λi hi=>by rw[l1];exact Pl hp i hi)
      obtain⟨c,hat⟩:=sortedAll_at s.heap Z9 (K3 Z9 pp);have hf:=I.hok.fresh (HM s.heap.objs.size);refine⟨.ref (s.heap.objs.size+1),_,I.laid (t':=s.toks) (λb o hb=>sortedAll_old hb) (HM _) (o:=.L (pp.toList.map λi=>ys.getD i .O)) ?_,rfl,p' _ _ (GA hf _) (Lx s0 hA hf rp)⟩
      refine⟨?_,pp.toList.map λi=>Z9.getD i Cv,c,vp,hat⟩
      rw[AG,C1,hp.sz,CN];omega
  · have e:Tm .sorted ds=.bad:=by
      match ds with
      |[]=>rfl
      |[x]=>cases x<;>first|rfl|exact absurd ⟨_,rfl⟩ hls
      |x::_::_=>cases x<;>rfl
    rw[e]at p;exact p.elim
end Ov
namespace Ov
open PySem PySem.Spec PyProof.Rows
variable{a:Am}
section
variable{t:Nl}
noncomputable def æ(i b:Ag):SetTable.Probe:=⟨i,0,i,b,Af⟩
noncomputable def ő(i b:Ag):Ag:=(i*5+1+b/32)%8
noncomputable def ύ:Ag->Ag->Ag->Ag
 |i,_,0=>i
 |i,b,k+1=>ύ (ő i b) (b/32) k
theorem Zyq(hm:t.mask=7)(i b:Ag):t.advance (æ i b)=æ (ő i b) (b/32):=by
 unfold SetTable.advance æ SetTable.leap dR ő;simp[hm]
theorem jV(hm:t.mask=7)(hd:∀ j,t.slot j≠.dummy)(hl:∀ j i,t.slot j=.live i->(hashAt i==h)=Ae):∀(k f i b:Ag),k<f->t.slot (ύ i b k)=.empty->∃ j,Im t hashAt h f (æ i b)=Ab (.empty j Af):=by
 intro k
 induction k with
 |zero=>
  intro f i b hf e;obtain⟨f,rfl⟩:∃ f',f=f'+1:=⟨f-1,by omega⟩
  refine⟨i,?_⟩;unfold Im;rw[show (æ i b).j=i from rfl,show t.slot i=.empty from e]
  rfl
 |succ k ih=>
  intro f i b hf e;obtain⟨f,rfl⟩:∃ f',f=f'+1:=⟨f-1,by omega⟩
  unfold Im;rw[show (æ i b).j=i from rfl]
  cases e1:t.slot i with
  |empty=>exact⟨i,rfl⟩
  |dummy=>exact absurd e1 (hd i)
  |live i'=>
   dsimp only;rw[hl i i' e1,Zyq hm];exact ih f _ _ (by omega) e
theorem Pf:∀(k i b:Ag),ύ i b (k+1)=(ύ i b k*5+1+b/32 ^ (k+1))%8
 |0,i,b=>by
  show ő i b=_;unfold ő ύ;rw[Nat.pow_one]
 |k+1,i,b=>by
  show ύ (ő i b) (b/32) (k+1)=(ύ (ő i b) (b/32) k*5+1+_)%8;rw[Pf k,Nat.div_div_eq_div_mul,aR 32 (k+1),Nat.mul_comm 32]
theorem ON(e:t.slot j=.live i):t.place[i]?=Ab j:=by
 unfold dS at e;dsimp only at e;split at e
 .rename_i h1;cases e;exact eq_of_beq h1
 .split at e<;>cases e
theorem Pi(hd:t.dummies=#[])(j:Ag):t.slot j≠.dummy:=by
 unfold dS Kt;rw[hd];dsimp only;split
 .exact λz=>nomatch z
 .rw[AH (by simp)]
  exact λz=>nomatch z
theorem qD(hm:t.mask=7)(hd:t.dummies=#[])(hn:t.place.size<=2)(i:Ag)(hb:b<2 ^ 64):∃ k,k<20/\t.slot (ύ i b k)=.empty:=by
  have z:∀ k,13<=k->b/32 ^ (k+1)=0:=λk hk=>Nat.div_eq_of_lt (AF hb (by
    calc 2 ^ 64<=32 ^ 14:=by decide
      _<=32 ^ (k+1):=EG (by decide) (by omega)))
  have e0:=Pf 13 i b;have e1:=Pf 14 i b;have e2:=Pf 15 i b;rw[z 13 (by omega)]at e0
  rw[z 14 (by omega)]at e1
  rw[z 15 (by omega)]at e2
  have l14:ύ i b 14<8:=by rw[e0];exact Nat.mod_lt _ (by decide)
  have key:∀ a:Ag,a<8->a≠(a*5+1+0)%8/\a≠((a*5+1+0)%8*5+1+0)%8/\(a*5+1+0)%8≠((a*5+1+0)%8*5+1+0)%8:=by decide
  rw[e1]at e2;obtain⟨k1,k2,k3⟩:=key _ l14;rw[<-e1]at k1;rw[<-e2]at k2;rw[<-e2,<-e1]at k3;cases s0:t.slot (ύ i b 14) with
  |empty=>exact⟨14,by omega,s0⟩
  |dummy=>exact absurd s0 (Pi hd _)
  |live i0=>
    cases s1:t.slot (ύ i b 15) with
    |empty=>exact⟨15,by omega,s1⟩
    |dummy=>exact absurd s1 (Pi hd _)
    |live i1=>
      cases s2:t.slot (ύ i b 16) with
      |empty=>exact⟨16,by omega,s2⟩
      |dummy=>exact absurd s2 (Pi hd _)
      |live i2=>
        exfalso
        have p0:=ON s0;have p1:=ON s1;have p2:=ON s2;have l0:=(CS.mp p0).1;have l1:=(CS.mp p1).1;have l2:=(CS.mp p2).1;have d01:i0≠i1:=λz=>by
          subst z;exact k1 (BX (p0.symm.trans p1))
        have d02:i0≠i2:=λz=>by
          subst z;exact k2 (BX (p0.symm.trans p2))
        have d12:i1≠i2:=λz=>by
          subst z;exact k3 (BX (p1.symm.trans p2))
        omega
theorem uQ(hm:t.mask=7)(hd:t.dummies=#[])(hn:t.place.size<=2)(hl:∀ i,i<t.place.size->hashAt i≠h):∃ j,t.probe hashAt h (t.probeStart h)=Ab (.empty j Af):=by
 have hb:GM h<2 ^ 64:=by
  unfold GM;have h0:=A3 h (show (2 ^ 64:Ad)≠0 by decide)
  have h1:=AV h (show (0:Ad)<2 ^ 64 by decide)
  omega
 have e:t.probeStart h=æ (GM h%8) (GM h):=by
  unfold SetTable.probeStart dR æ;simp[hm]
 obtain⟨k,hk,ek⟩:=qD hm hd hn (GM h%8) hb;unfold SetTable.probe;rw[e];refine jV hm (Pi hd) (λj i s=>?_) k _ _ _ ?_ ek
 .have:=ON s;exact DJ.mpr (hl i (CS.mp this).1)
 .rw[hm];unfold SetTable.turns;omega
theorem NH(xs:AO α)(p:Ag)(x:α):(D8 xs p x).size=xs.size+1:=by
 unfold D8;simp;omega
theorem Xu{α:Type}{xs:AO α}{a:Ag}{y:α}(hy:y∈xs.extract a b):y∈xs:=by
 obtain⟨i,hi,rfl⟩:=Array.mem_iff_getElem.mp hy;rw[Array.getElem_extract];exact ZF _
theorem zP(hy:y∈D8 xs p x):y=x\/y∈xs:=by
 unfold D8 at hy;rcases Array.mem_append.mp hy with hy|hy
 .rcases Array.mem_push.mp hy with hy|hy
  .exact .inr (Xu hy)
  .exact .inl hy
 .exact .inr (Xu hy)
end
section
variable{E:Vq}{K:Type}[DecidableEq K]
theorem nV(ho:s.heap.get? a=Ab o)(hd:o.data=.set es ep t)(hf:t.fits es.size=Aa)(hm:t.mask=7)(ħ:t.dummies=#[])(hn:es.size<=2)(hh:∀ e∈es,e.1≠h)(q:∀ j,Q (.free j Ae) s):AD (model prog w) A (setSearch a x h Aa) Q E s:=by
 have hp:t.place.size=es.size:=by
  unfold Kk at hf;exact eq_of_beq (Ap _ _ |>.mp hf).1
 obtain⟨j,ej⟩:=uQ (t:=t) (hashAt:=λi=>(es[i]?.map (·.1)).getD 0) (h:=h) hm ħ (by omega) λi hi=>by
  have hi':i<es.size:=by omega
  rw[Cp hi'];exact hh _ (ZF _)
 unfold setSearch setSearchFrom;refine Ah (Ip ho hd hf ?_);dsimp only;rw[AH (by unfold SetTable.gaveWay;rw[hm];decide)]
 show AD _ _ (match t.probe (λi=>(es[i]?.map (·.1)).getD 0) h (t.probeStart h) with|some met=>_|_=>_) _ _ _
 rw[ej];exact Az (q j)
theorem hbv(hk:FO (FE prog w) s.heap ks a)(h:Q Aa s):AD (model prog w) A (Lk 8 (.ref a)) Q E s:=by
 have hT:=hk.typeIs;obtain⟨o,items,n,ho,_,hd,hi⟩:=hk;unfold Lk;refine Ah (Gb hT F.slot_tuple_hash.lookup ?_);dsimp only;refine Ah (Cf ho hd ?_);refine Ah ?_;show AD _ _ (forIn items _ _) _ _ s;rw[<-HN];refine wpAny_forIn_list _ (λrest r s'=>r.1=Af/\s'=s/\∃ ks,ItemsAre (FE prog w) ks rest) _ ?_ ?_ _ _ ⟨rfl,rfl,ks,hi⟩
 .rintro v rest r s' ⟨hr,rfl,ks,ń⟩;cases ń with
  | @cons k _ ks' _ h1 h2=>
   cases v with
   |int i t=>
    unfold Lk;refine Ah (Az ?_);simp only[Bool.not_true,Gd,HK];exact Az ⟨rfl,rfl,ks',h2⟩
   |_=>exact absurd (show Ae=Aa from h1) AX
 .rintro⟨r1,r2⟩ s' ⟨hr,rfl,_⟩;simp only at hr;subst hr;exact Az h
def JC(hp:AS)(a:Am)(hs:Ac Ad):Prop:=∃ o es ep t,hp.get? a=Ab o/\o.ExactSet/\o.data=.set es ep t/\t.fits es.size=Aa/\t.mask=7/\t.dummies=#[]/\es.size=hs.length/\∀ e∈es,e.1∈hs
theorem lH(S:JC s.heap a hs)(hk:FO (FE prog w) s.heap k b)(hn:hs.length<=2)(hh:h∉hs)(q:∀ h',FA a s.heap h'->JC h' a (hs++[h])->Q Aa {s with heap:=h'}):AD (model prog w) A (setAddHashed a (.ref b) h) Q E s:=by
 obtain⟨o,es,ep,t,ho,hex,hd,hf,hm,ħ,hsz,hme⟩:=S;have hp:t.place.size=es.size:=by
  unfold Kk at hf;exact eq_of_beq (Ap _ _ |>.mp hf).1
 unfold setAddHashed setAddHashedIn;refine CG (Ah (Ip ho hd hf ?_));dsimp only;rw[AH (by unfold byScan;simp[Value.scannable])]
 refine Ah (nV ho hd hf hm ħ (by omega) (λe he z=>hh (z ▸ hme e he)) λj=>?_)
 dsimp only;refine Ah (Ip ho hd hf ?_);dsimp only;have nd:Kt t.dummies j=Ae:=by
  unfold Kt;rw[ħ];simp
 have fin:∀ t':Nl,t'.mask=7->t'.dummies=#[]->t'.place=D8 t.place (JK t.place j) j ->
   AD (model prog w) A (do
    storeSet a (D8 es (JK t.place j) (h,.ref b)) t'
    if (!false&&t'.tooFull)=Aa then setRelay a (SetTable.grown (es.size+1))
    pure Aa) Q E s:=by
  intro t' h1 h2 h3;have hfi:t'.fill=es.size+1:=by
   unfold SetTable.fill;rw[h2,h3,NH,hp];rfl
  refine Ah (wpAny_storeSet_of ho hd ?_ (by rw[NH,CN];omega))
  rw[AH (by unfold SetTable.tooFull;rw[hfi,h1];simp;omega)]
  refine Az (q _ (F3 s.heap a _) ?_);have hg:=Ck (Obj.putSet (D8 es (JK t.place j) (h,.ref b)) t') ho (by rw[putSet_of _ t' hd];rfl)
  rw[putSet_of _ t' hd]at hg;refine⟨_,_,_,_,hg,hex,rfl,?_,h1,h2,?_,?_⟩
  .unfold Kk;rw[hfi,h1,h3,NH,NH,hp];simp;omega
  .rw[NH,hsz,BE];rfl
  .intro e he;rcases zP he with rfl|he
   .simp
   .exact EE _ (hme e he)
 unfold SetTable.put;dsimp only;rw[nd];split
 .refine Ah (hbv hk ?_);exact fin _ hm ħ rfl
 .refine Ah (Az ?_);exact fin _ hm ħ rfl
end
theorem Ug(x:FO (FE prog w) h k b)(e:∀ o,h.get? b=Ab o->h'.get? b=Ab o):FO (FE prog w) h' k b:=by
 obtain⟨o,items,n,ho,r⟩:=x;exact⟨o,items,n,e o ho,r⟩
theorem Y_4(x:JC h b hs)(e:∀ o,h.get? b=Ab o->h'.get? b=Ab o):JC h' b hs:=by
 obtain⟨o,es,ep,t,ho,r⟩:=x;exact⟨o,es,ep,t,e o ho,r⟩
theorem wm{R:Kq->At->Prop}{I:Am}{St:Ag->At->Prop}(W:WalksS prog w A.in1 I fp wr G n P St)(S:Am)(Ħ:S∉fp)(hu:A.in1.units<CF)(key:Ag->Ac Ad)(hn:n<=3)(Ϯ:∀ i j,i<j->j<n->GV (key i)≠GV (key j)):
    ∀(k i:Ag)(s:At),n-i=k->i<=n->St i s->(∀ j v,P j v->∃ b,v=.ref b/\b∉S::wr/\FO (FE prog w) s.heap (key j) b) ->
      JC s.heap S ((AK i).map λj=>GV (key j)) ->
      (∀ s',Moved (S::wr) G s s'->JC s'.heap S ((AK n).map λj=>GV (key j))->R (.ok (.ret .none)) s') ->
      F0 (model prog w) A (.builtin "set.update.loop" ⟨[.ref S,.ref I],[]⟩) R s:=by
  have hSw:S∉wr:=λh=>Ħ (W.sub _ h)
  have Ì:∀ b∈wr,b∈S::wr:=λb hb=>Av _ hb
  intro k
  induction k with
  |zero=>
    intro i s hk hi Ϡ hky hS hR;have hin:i=n:=by omega
    subst hin;refine D6 aV ?_;rw[DA Gu _];show AD _ A.in1 (Ek (.ref I) >>= _) _ _ s;refine Ah (W.done s _ _ Ϡ λs' hm=>?_)
    show AD _ A.in1 (ret Cv) _ _ s';exact Az (hR s' (hm.mono Ì) (Y_4 hS λo e=>hm.heap S _ hSw e))
  |succ k ih=>
    intro i s hk hi Ϡ hky hS hR;have ô:i<n:=by omega
    refine D6 aV ?_;rw[DA Gu _];show AD _ A.in1 (Ek (.ref I) >>= _) _ _ s;refine Ah (W.item i s _ _ ô Ϡ λv s' hP hst' hm=>?_)
    obtain⟨b,rfl,hb,hkb⟩:=hky i v hP;have hkb':FO (FE prog w) s'.heap (key i) b:=Ug hkb λo e=>hm.heap b _ (λz=>hb (Ì _ z)) e
    have ł:=Y_4 hS λo e=>hm.heap S _ hSw e
    show AD _ A.in1 (holding [Ds b] (setAdd S (.ref b)) >>= _) _ _ s';refine Ah (CG ?_);unfold setAdd;refine CG ?_;refine Ah (wpAny_pyHash_tuple hu hkb' ?_);refine lH (s:={s' with toks:=s'.toks+((key i).length+1)}) (h:=GV (key i)) ł hkb' (by rw[AG,Fs];omega) ?_ λh' hsb hS2=>?_
    · intro z;obtain⟨j,hj,e⟩:=A7.mp z;exact Ϯ j i (A9.mp hj) ô e
    have hSi:JC h' S ((AK (i+1)).map λj=>GV (key j)):=by
      rw[aH,D4];exact hS2
    refine Az ⟨FW Gu _,ih (i+1) _ (by omega) ô (W.frame _ s' _ _ hst' (DU _ _) λb hb o e=>?_) (λj v hP=>?_) hSi λŔ hm'' hS''=>?_⟩
    · rw[hsb.2 b (λh:b=S=>Ħ (by rw[<-h];exact hb))];exact e
    · obtain⟨c,ec,hc,hkc⟩:=hky j v hP;refine⟨c,ec,hc,Ug hkc λo e=>?_⟩
      rw[hsb.2 c (λh:c=S=>hc (by rw[h];exact Ax))]
      exact hm.heap c _ (λz=>hc (Ì _ z)) e
    · refine hR Ŕ (Moved.trans W.gtrans ((hm.mono Ì).then_heap (DU _ _) λb o hb e=>?_) hm'') hS''
      rw[hsb.2 b (λh:b=S=>hb (by rw[h];exact Ax))];exact e
theorem pK:isSubtype (.type "tuple") (.type "set")=pure Ae:=by rw[JM];kernel_rfl
theorem oU:isSubtype (.type "tuple") (.type "frozenset")=pure Ae:=by rw[JM];kernel_rfl
section
variable{E:Vq}{s:At}
theorem pA{key:Ag->Ac Ad}{Q:Vq}(hu:A.units+8<CF)(hh:A.handled=Af)(hl:s.heap.IsTuple l items)(hi:∀ j v,items[j]?=Ab v->∃ b,v=.ref b/\FO (FE prog w) s.heap (key j) b)(hn:items.size<=3)(Ϯ:∀ i j,i<j->j<items.size->GV (key i)≠GV (key j))(h:∀(h':AS)(tk:Ag),JC h' s.heap.objs.size ((AK items.size).map λj=>GV (key j)) ->
   (∀ b o,b<s.heap.objs.size->s.heap.get? b=Ab o->h'.get? b=Ab o)->Q (.ref s.heap.objs.size) {s with heap:=h',toks:=tk}):
  AD (model prog w) A (call (.type "set") [.ref l]) Q E s:=by
 obtain⟨c,tl,hmro⟩:=F.called_set.mro;have hmade:=F.called_set.made;have Ì:=F.called_set.sub;refine wpAny_call (eX ?_);show AD _ _ (callAny (.type "set") _) _ _ _;refine Az ⟨Code.quiet_builtin _ (by decide+kernel),D6 F.entry_type_call ?_⟩
 rw[Around.under_plain (weight_type_call_type "set" [.ref l] []) rfl];have h1:=F.called_set.notType;have h2:=F.called_set.canCreate;have hct:=F.typeCall_set_1 (.ref l)
 repeat (any_goals (first|assumption|wp_step))
 refine Hg (code_set_new_1 (.ref l) (E:=E) (Q₁:=λobj s₁=>∃ led:Al,obj=.ref s.heap.objs.size/\s₁={ s with heap:=s.heap.push { cls:=.type "set",dict:=Af,data:=.set #[] 0 (.fresh 0 0 led) } }) λled=>⟨led,rfl,rfl⟩) λr s₁ hr=>?_
 cases r with
 |error e=>exact hr
 |ok fl=>
  cases fl with
  |ret obj=>
   obtain⟨led,rfl,rfl⟩:=hr;have hS:(s.heap.push { cls:=.type "set",dict:=Af,data:=.set #[] 0 (.fresh 0 0 led) }).get? s.heap.objs.size=Ab { cls:=.type "set",dict:=Af,data:=.set #[] 0 (.fresh 0 0 led) }:=AB _ rfl;have hT:dU { s with heap:=s.heap.push { cls:=.type "set",dict:=Af,data:=.set #[] 0 (.fresh 0 0 led) } } (.ref s.heap.objs.size) "set" := ⟨_,hS,rfl⟩
   have hli:=F.called_set.init.lookup;have hbi:=F.called_set.init.bind (.ref s.heap.objs.size)
   repeat (any_goals (first|assumption|wp_step))
   refine Hg (codeAny_call_builtin (R:=wants (λr s₂=>r=.none/\∃ h' tk,s₂={s with heap:=h',toks:=tk} /\
     JC h' s.heap.objs.size ((AK items.size).map λj=>GV (key j)) /\
     (∀ b o,b<s.heap.objs.size->s.heap.get? b=Ab o->h'.get? b=Ab o)) E) F.called_set.init.plain F.entry_set_init (check_set_init_1 hT ?_)) λr₂ s₂ hr₂=>?_
   .obtain⟨ol,hol,Ϻ,nl,hdl⟩:=hl;obtain⟨ocls,Ď,odata,Œ⟩:=ol;simp only at Ϻ hdl;subst Ϻ;subst hdl;have hol':(s.heap.push { cls:=.type "set",dict:=Af,data:=.set #[] 0 (.fresh 0 0 led) }).get? l=Ab { cls:=.type "tuple",dict:=Ď,data:=.seq items nl,slots:=Œ }:=Ar _ hol;have hsls:=pK;have hslf:=oU;have hne':(C2 "tuple" == C2 "dict")=Ae:=by decide
    have hl1:(s.heap.push { cls:=.type "set",dict:=Af,data:=.set #[] 0 (.fresh 0 0 led) }).IsTuple l items:=⟨_,hol',rfl,nl,rfl⟩;unfold Builtin.«set.__init__» noKeywords Builtin.Frozenset.updateFrom;generalize hPI:KC=PI
    wp_walk
    subst hPI;refine Fh hl1 ?_;refine Ah (fN ?_);have hlS:l<s.heap.objs.size:=AE hol;have hh3:A.in1.in1.in1.handled=Af:=by simp[hh]
    have hneI:l≠(s.heap.push { cls:=.type "set",dict:=Af,data:=.set #[] 0 (.fresh 0 0 led) }).objs.size:=by
     rw[Bg];exact AZ (CA hlS)
    have Ħ:s.heap.objs.size∉[(s.heap.push { cls:=.type "set",dict:=Af,data:=.set #[] 0 (.fresh 0 0 led) }).objs.size,l]:=by
     rw[Bg];simp only[Aw,AQ,A2,Ca,DR];exact⟨AZ (ES _),Cm hlS⟩
    refine wm ((Lj hh3 _ l hneI items).toS) s.heap.objs.size Ħ (show A.units+1+1+1<CF by omega) key hn Ϯ (items.size-0) 0 _ (by omega) (CC _)
     ⟨⟨_,AB _ rfl,rfl,rfl⟩,(hl1.push _)⟩ ?hK ?hS0 ?hR
    case hK=>
     intro j v hv;obtain⟨b,e,hk⟩:=hi j v hv;have hb:b<s.heap.objs.size:=by
      obtain⟨o,_,_,ho,_⟩:=id hk;exact AE ho
     refine⟨b,e,?_,Ug hk λo e=>Ar _ (Ar _ e)⟩
     rw[Bg];simp only[Aw,A2,Ca,DR];exact⟨AZ hb,AZ (CA hb)⟩
    case hS0=>
     have hget:((s.heap.push { cls:=.type "set",dict:=Af,data:=.set #[] 0 (.fresh 0 0 led) }).push { cls:=.type "tuple_iterator",data:=.fields #[.ref l,.int 0 0] }).get? s.heap.objs.size
       = Ab { cls:=.type "set",dict:=Af,data:=.set #[] 0 (.fresh 0 0 led) }:=Ar _ hS
     exact⟨_,#[],0,.fresh 0 0 led,hget,⟨rfl,rfl,rfl⟩,rfl,rfl,rfl,rfl,rfl,λe he=>absurd he (by simp)⟩
    case hR=>
     intro s' hm ł;obtain⟨h',g',d',tk',os'⟩:=s';have eg:g'=s.gens:=hm.gens;have ed:d'=s.drawn:=hm.drawn;have eo:os'=s.os:=hm.os;subst eg;subst ed;subst eo;show AD _ _ _ _ _ _;refine Az ?_;show AD _ _ (ret Cv) _ _ _;refine Az ⟨rfl,h',tk',rfl,ł,λb o hb e=>?_⟩
     have hb1:b≠s.heap.objs.size:=AZ hb;have hb2:b≠(s.heap.push { cls:=.type "set",dict:=Af,data:=.set #[] 0 (.fresh 0 0 led) }).objs.size:=by
      rw[Bg];exact AZ (CA hb)
     exact hm.heap b o (by simp only[Aw,AQ,A2,Ca,DR];exact⟨hb1,hb2⟩) (Ar _ (Ar _ e))
   .cases r₂ with
    |error e=>exact hr₂
    |ok fl₂=>
     cases fl₂ with
     |ret r=>
      obtain⟨rfl,h',tk,rfl,ł,Ű⟩:=hr₂
      repeat (any_goals (first|assumption|wp_step))
      exact h _ _ ł Ű
     |_=>exact hr₂.elim
  |_=>exact hr.elim
theorem vd{Q:Vq}(S:JC s.heap a hs)(hn:hs.length<=3)(q:Q (.int hs.length (s.toks+1)) {s with toks:=s.toks+1+1}):AD (model prog w) A (call (.builtin "len") [.ref a]) Q E s:=by
 obtain⟨o,es,ep,t,ho,hex,hd,hf,_,_,hz,_⟩:=S;refine call_len_set ho hex hd hf (by omega) ?_
 rw[hz];exact q
end
end Ov
namespace Ov
open PySem PySem.Spec PyProof.Rows L2
variable{w:AM}{X:Cx}{pI:Pn}{Y:L2.St}{ex:Ac Am}{vs:AO Aj}{Q:JY->At->Prop}
theorem X5(is:Ac Ad):(firstMet (λi=>is.getD i 0) is.length).length=ģ is:=by
 have e:(AK is.length).map (λi=>is.getD i 0)=is:=by
  apply ZZ
  .simp
  .intro i h1 h2;simp[A5,AR h2]
 unfold firstMet ģ;rw[e];rfl
theorem ar{s:At}{E:Vq}{S:Ad->Al}{Q:Vq}(h:s.heap.SetOf (FE prog w) a S n)(hf:(n:Ad)<2 ^ 63)(q:Q (.int n (s.toks+1)) {s with toks:=s.toks+1+1}):AD (model prog w) A (call (.builtin "len") [.ref a]) Q E s:=by
 obtain⟨o,es,ep,t,ho,hex,hd,_,_,_,hfi,rfl⟩:=h;exact call_len_set ho hex hd hfi hf q
theorem tK:∀{k:Ac Ad}{Z9:Ac Aj},Bl (k.map V.int) Z9->ItemsAre (FE P w) k Z9:=by
 intro k
 induction k with
 |nil=>intro Z9 v;cases v;exact .nil
 |cons i k ih=>
  intro Z9 v;cases v with
  |cons v1 v2=>
   obtain⟨t,rfl⟩:=v1;exact .cons (intKind_is _ _ _ _) (ih v2)
def LR(K:Fg)(H:Hp):Ac V->Ac (Ac Ad)->Prop
 |[],[]=>Jj
 |x::xs,k::ks=>(∃ b,x=.ref b/\ð K H b (k.map V.int))/\LR K H xs ks
 |_,_=>BV
theorem av{K:Fg}:∀{ds:Ac D}{ks:Ac (Ac Ad)}{xs:Ac V},MN ds=Ab ks->Z7 K CL H A xs ds->LR K H xs ks:=by
 intro ds
 induction ds with
 |nil=>
  intro ks xs e r;cases e;cases xs with
  |nil=>exact trivial
  |cons=>exact r.elim
 |cons d ds ih=>
  intro ks xs e r;cases xs with
  |nil=>exact r.elim
  |cons x xs=>
   cases d with
   |H es=>
    have e':((Ju es).bind λk=>(MN ds).map (k :: ·))=Ab ks:=e
    cases e1:Ju es with
    |none=>rw[e1]at e';cases e'
    |some k=>
     cases e2:MN ds with
     |none=>rw[e1,e2]at e';cases e'
     |some ks'=>
      rw[e1,e2]at e';cases e';obtain⟨a,ys,ev,na,sq,rs⟩:=r.1;exact⟨⟨a,ev,RH e1 rs ▸ sq⟩,ih e2 r.2⟩
   |_=>cases e
theorem LR.length{K:Fg}:∀{xs:Ac V}{ks:Ac (Ac Ad)},LR K H xs ks->xs.length=ks.length
 |[],[],_=>rfl
 |_::_,_::_,h=>congrArg (· + 1) (LR.length h.2)
 |[],_::_,h=>h.elim
 |_::_,[],h=>h.elim
theorem aw(I:Z6 X pI Y H s):∀{xs:Ac V}{ks:Ac (Ac Ad)}{Z9:Ac Aj},LR X.K H xs ks->Bl xs Z9->∀(j:Ag)(v:Aj),Z9[j]?=Ab v->∃ b,v=.ref b/\FO (FE X.prog X.w) s.heap (ks.getD j []) b:=by
 intro xs
 induction xs with
 |nil=>intro ks Z9 k v j u e;cases v;cases e
 |cons x xs ih=>
  intro ks Z9 k v j u e;cases ks with
  |nil=>exact k.elim
  |cons k0 ks=>
   cases v with
   |cons v1 v2=>
    cases j with
    |zero=>
     cases e;obtain⟨⟨b,rfl,sq⟩,_⟩:=k;cases v1;obtain⟨Z9,vs,⟨o,ho,hc,n,hd⟩,_⟩:=I.tuple sq;exact⟨b,rfl,o,Z9.toArray,n,ho,hc,hd,tK vs⟩
    |succ j=>exact ih k.2 v2 j u e
theorem wU:∀{hs:Ac Ad},IY hs=Aa->∀ i j,i<j->j<hs.length->hs.getD i 0≠hs.getD j 0:=by
 intro hs
 induction hs with
 |nil=>intro _ i j _ hj;cases hj
 |cons h r ih=>
  intro e i j hij hj;obtain⟨e1,e2⟩:=(Ap _ _).mp (show (!r.contains h&&IY r)=Aa from e)
  cases j with
  |zero=>omega
  |succ j=>
   have ε:j<r.length:=by simpa using hj
   cases i with
   |zero=>
    intro z;have:r.contains h=Aa:=by
     rw[List.contains_iff_mem,show h=r.getD j 0 from z,A5,AR ε]
     exact CI _
    rw[this]at e1;cases e1
   |succ i=>exact ih e2 i j (by omega) ε
theorem XQ(ks:Ac (Ac Ad))(h:i<ks.length):(ks.map GV).getD i 0=GV (ks.getD i []):=by
 rw[A5,A5,D7,AR h];rfl
def ZzJ(K:Fg)(ta:TA):TE:=λY H Q=>ta Y H λvs H1=>∃ a,vs=[.ref a]/\((∃ is:Ac Ad,fI K H1 a (is.map V.int)/\is.length<=4000/\Q (.int (ģ is)) H1)\/∃ xs ks,ð K H1 a xs/\LR K H1 xs ks/\ks.length<=3/\IY (ks.map GV)=Aa/\Q (.int ks.length) H1)
theorem xH(hu:X.A.units+64<CF)(hc:X.calm=Aa)(hg:Gl X "len")(hm:X.mg "len" = Af)(ϻ:Gl X "set")(ζ:X.mg "set" = Af)(ha:PA X [a] ta)(hs:AN [a] X.env=[(Ae,eval a X.env)]):
    PE X (.Call (.Name "len" p) [.Call (.Name "set" p') [a] [] pos'] [] pos) (ZzJ X.K ta):=by
  intro pI s Y H Q I h;refine Iq (HB I hg hm boot_len (aX ?_ rfl rfl));show AD _ _ (spliced ((Ae,eval (.Call (.Name "set" p') [a] [] pos') X.env)::C8 pos (AN [] X.env))) _ _ s;refine Gh ?_;refine Iq (HB I ϻ ζ PyProof.Rows.boot_set (B7 (LT (ha pos' pI s Y H _ I h) λus s1 ⟨vs,H1,I1,r1,q1⟩=>?_) (by rw[hs];rfl) rfl))
  obtain⟨b,e,q1⟩:=q1;subst e;cases r1 with
  |cons r rr=>
    cases rr;cases r;rcases q1 with ⟨is,sq,hn,q⟩|⟨xs,ks,sq,kv,hn,hl,q⟩
    rotate_left
    · obtain⟨Z9,rv,pl,hz⟩:=I1.tuple sq;have hsz:Z9.toArray.size=ks.length:=by rw[AJ,<-rv.length,kv.length]
      refine pA (key:=λj=>ks.getD j []) (by omega) (I1.ok.hd hc) pl (λj v e=>aw I1 kv rv j v (by rw[<-Fw];exact e)) (by rw[hsz];exact hn) (λi j hij hj=>?_) λh' tk hS kp=>Fu ?_
      · rw[hsz]at hj;have:=wU hl i j hij (by rw[AG];exact hj)
        rw[XQ ks (by omega),XQ ks hj]at this
        exact this
      · refine vd (s:={s1 with heap:=h',toks:=tk}) hS (by rw[AG,Fs,hsz];exact hn) ?_
        rw[AG,Fs,hsz];exact⟨.int ks.length,H1,I1.kept (t':=tk+1+1) λb o e=>kp b o (AE e) e,⟨_,rfl⟩,q⟩
    obtain⟨Z9,rv,pl,hz⟩:=I1.list sq;have ia:=So rv;have hl:Z9.length=is.length:=by rw[<-rv.length,AG]
    refine PySem.call_set_list (ns:=is) (I1.ok.hd hc) pl.isList ia (by rw[AJ,hl];unfold scanBound;omega) λh' tk hS kp=>Fu ?_
    have hsz:Z9.toArray.size=is.length:=by rw[AJ,hl]
    rw[hsz,X5]at hS;have hle:ģ is<=is.length:=by
      rw[<-X5];exact firstMet_length_le _ _
    refine ar (s:={s1 with heap:=h',toks:=tk}) hS (by omega) ?_
    exact⟨.int (ģ is),H1,I1.kept (t':=tk+1+1) λb o e=>kp b o (AE e) e,⟨_,rfl⟩,q⟩
theorem yX(ha:ST X CL W a fa)(hu:X.A.units+64<CF)(hc:X.calm=Aa)(hg:Gl X "len")(hm:X.mg "len" = Af)(ϻ:Gl X "set")(ζ:X.mg "set" = Af)(hs:AN [a] X.env=[(Ae,eval a X.env)]):
  SE X CL W (.Call (.Name "len" p) [.Call (.Name "set" p') [a] [] pos'] [] pos) (λU=>(fa U).bind λx=>Tm .lset [x]):=
 λA=>PE.weak (xH hu hc hg hm ϻ ζ (Gi (ha A) HZ hs) hs) λY H Q ⟨hA,U,g,q⟩=>⟨hA,U,g,BN.bind q λd v H1 _ s1 r1 p1=>by
  cases d with
  |L ds=>
   obtain⟨b,xs,rfl,sq,r⟩:=r1.lst_of;have p2:BN (λH=>U8 X.K CL H A) W H1 (Qf ds) Q:=p1
   unfold Qf at p2;cases e:Ju ds with
   |none=>rw[e]at p2;exact p2.elim
   |some is=>
    rw[e]at p2;have ex:=RH e r;subst ex;dsimp only at p2;split at p2
    .rename_i hb;exact⟨b,rfl,.inl ⟨is,sq,Et hb,p2 _ H1 (A1.refl H1) rfl⟩⟩
    .exact p2.elim
  |H ds=>
   obtain⟨b,xs,rfl,_,sq,r⟩:=r1.tup_of;have p2:BN (λH=>U8 X.K CL H A) W H1 (Uo ds) Q:=p1
   unfold Uo at p2;cases e:MN ds with
   |none=>rw[e]at p2;exact p2.elim
   |some ks=>
    rw[e]at p2;dsimp only at p2;split at p2
    .rename_i hb;obtain⟨h1,h2⟩:=(Ap _ _).mp hb;exact⟨b,rfl,.inr ⟨xs,ks,sq,av e r,Et h1,h2,p2 _ H1 (A1.refl H1) rfl⟩⟩
    .exact p2.elim
  | _=>exact p1.elim⟩
section
open PySem.AutoSeq1 (wpAny_loadPart')
end
def Qy(e T:Am)(cls:Aj)(dx:As Am)(fl:Aj)(h:AS):Prop:=∃ oe vs oT ts a0,h.get? e=Ab oe/\oe.cls=cls/\oe.dict=dx/\vs[0]?=Ab a0/\oe.data=.fields vs/\vs[1]?=Ab (.ref T)/\T≠e/\h.get? T=Ab oT/\oT.data=.fields ts/\ts[3]?=Ab fl
noncomputable abbrev Ğ(e T:Am)(cls:Aj)(dx:As Am)(h:AS):Prop:=Qy e T cls dx Cv h
noncomputable def jI(C:Am)(dx:As Am)(t:Am):Dr:={cls:=.ref C,dict:=dx,data:=.fields #[.ref t,.none,.none,.none,.bool Ae,.none]}
structure â (ex fs:Ac Am) (h h':AS):Prop where
 keep:∀ b o,h.get? b=Ab o->b∉ex->b∉fs->h'.get? b=Ab o
 slot:∀ b o,h.get? b=Ab o->b∈fs->∃ sl,h'.get? b=Ab {o with slots:=sl}
theorem ObjOk.isThere:∀(o:HO),L2.ObjOk P w H h a o->∃ ob,h.get? a=Ab ob
 |.L _,x=>by obtain⟨_,_,_,_,e⟩:=x;exact⟨_,e⟩
 |.H _,x=>by obtain⟨_,_,_,p⟩:=x;obtain⟨o,e,_⟩:=p;exact⟨_,e⟩
 |.dK _,x=>by obtain⟨_,_,_,_,o,_,_,e,_⟩:=x;exact⟨_,e⟩
 |.dT _,x=>by obtain⟨_,_,_,_,o,_,_,e,_⟩:=x;exact⟨_,e⟩
 |.set _ _,x=>by obtain⟨o,_,_,_,e,_⟩:=x;exact⟨_,e⟩
 |.ins _ _ _,x=>by obtain⟨_,_,_,e,_⟩:=x;exact⟨_,e⟩
 |.own _,x=>x
 |.xd _,x=>by obtain⟨_,⟨_,_,_,e,_⟩,_⟩:=x;exact⟨_,e⟩
 |.met _ _,x=>⟨_,x⟩
 |.rng _ _,x=>by obtain⟨_,_,_,e⟩:=x;exact⟨_,e⟩
 |.frz _ _,x=>⟨_,x.1⟩
 |.tbl _,x=>⟨_,x⟩
 |.ext _,x=>x.2.1
theorem WH(x:ì P w H h)(e:h.get? a=Af):H a=Af:=by
 cases q:H a with
 |none=>rfl
 |some o=>
  obtain⟨ob,z⟩:=ObjOk.isThere o (x a o q);rw[e]at z;cases z
theorem ì.shift(x:ì P w H h)(sh:â ex fs h h')(h1:∀ b∈ex,H b=Af)(h2:∀ b∈fs,H b=Af):ì P w H h':=λa o e=>
 (x a o e).stay (λb u hb q=>by
  have hs:∃ v,H b=Ab v:=by
   rcases hb with rfl|hb
   .exact⟨_,e⟩
   .exact⟨_,hb⟩
  obtain⟨v,hv⟩:=hs;exact sh.keep b u q (λz=>by rw[h1 b z]at hv;cases hv) (λz=>by rw[h2 b z]at hv;cases hv)) (λ_ q=>q) λ_ _ q=>q
theorem Un.shift{ex:Ac Am}(u:Un ϝ [] H H' h0 h)(sh:â ex fs h h')(h1:∀ b∈ex,h0.get? b=Af)(h2:∀ b∈fs,b∈ϝ\/h0.get? b=Af):Un ϝ [] H H' h0 h' where
 keep:=λb o q n hb hx=>sh.keep b o (u.keep b o q n hb hx) (λz=>by rw[h1 b z]at q;cases q) λz=>(h2 b z).elim hb λe=>by rw[e]at q;cases q
 slot:=λb o q n hb hx=>by
  obtain⟨sl,e1⟩:=u.slot b o q n hb hx;by_cases hf:b∈fs
  .obtain⟨ĵ,e2⟩:=sh.slot b _ e1 hf;exact⟨ĵ,e2⟩
  .exact⟨sl,sh.keep b _ e1 (λz=>by rw[h1 b z]at q;cases q) hf⟩
 free:=u.free
 there:=λb o q hx=>by
  obtain⟨o',e1⟩:=u.there b o q hx;by_cases hf:b∈fs
  .obtain⟨ĵ,e2⟩:=sh.slot b _ e1 hf;exact⟨_,e2⟩
  .exact⟨o',sh.keep b _ e1 (λz=>by rw[h1 b z]at q;cases q) hf⟩
 tups:=u.tups
 frzs:=u.frzs
 tbls:=u.tbls
theorem ii(f:AO Aj->AO Aj)(o:Dr):(GL f o).dict=o.dict:=by
 obtain⟨c,d,dt,sl⟩:=o;cases dt<;>rfl
section
variable{M:K9}{A:Bm}{E:Vq}{s:At}{env:Dc}{outer:Ac Dc}{L e T:Am}{base:AS}
theorem VZ{oe:Dr}{hd:Aj}{nx:Al}(Ů:A.frames=Ab (env::outer))(hf:env.frame=Ab L)(ff:s.heap.FunFrames base (env::outer))(he:s.heap.get? e=Ab oe)(dt:oe.data=.fields vs)(hz:1<vs.size)(hQ:∀ h' T' oT ts,h'.get? e=Ab (GL (·.setIfInBounds 1 (.ref T')) oe)->T'≠e->s.heap.get? T'=Af->h'.get? T'=Ab oT->oT.data=.fields ts->ts[3]?=Ab (CJ L)->â [e] (å (env::outer)) s.heap h'->Q () {s with heap:=h'}):
  AD M A (do
   let fr <-frameOf env
   let pl <-entryPlaceOf L nx
   let en <-bJ hd fr .none (CJ L) .none pl
   setField (.ref e) 1 en) Q E s:=by
 have nf:e∉å (env::outer):=λz=>by
  obtain⟨_,o,q,n⟩:=ff.mem z;rw[he]at q;cases q;exact n vs dt
 refine Ah (wpAny_frameOf_fun Ů ff hf λk1 so=>Ah (wpAny_entryPlaceOf λpl ip=>?_))
 obtain⟨sz,sm,sl⟩:=so;have e1:k1.get? e=Ab oe:=(sm e nf).trans he;unfold bJ;unfold newFields;refine Ah (C4 ?_ (ip.sizeOk5 _ _ _ _ _));generalize hX:({ cls:=.type "traceback",dict:=Af,data:=.fields ([hd,.ref L,.none,CJ L,.none]++(if pl.isEmpty then Hw 6 Cv else pl)).toArray }:Dr)=ob
 have od:ob.data=.fields ([hd,.ref L,.none,CJ L,.none]++(if pl.isEmpty then Hw 6 Cv else pl)).toArray:=by rw[<-hX]
 have nl:k1.objs.size≠e:=Cm (AE e1);have e2:=Ar ob e1;refine Gr e2 dt hz ?_;have up:∀ b,b≠e->((k1.push ob).update e (GL (·.setIfInBounds 1 (.ref k1.objs.size)))).get? b=(k1.push ob).get? b:=λb nb=>Ch _ _ (A8 nb)
 have lf:ob.isFreed=Ae:=by rw[<-hX];rfl
 refine hQ _ k1.objs.size ob _ (Ck _ e2 (FC (DX dt _))) nl ?_ ((up _ nl).trans (AB k1 lf)) od ?_ ⟨λb o q n1 n2=>?_,λb o q hb=>?_⟩
 .rw[sz];exact Hd (AT _)
 .simp
 .have nb:b≠e:=λz=>n1 (by rw[z];exact Ax)
  rw[up b nb];exact Ar ob ((sm b n2).trans q)
 .obtain⟨ĵ,q'⟩:=sl b o q;have nb:b≠e:=λz=>nf (z ▸ hb)
  exact⟨ĵ,(up b nb).trans (Ar ob q')⟩
theorem VH(hc:oe.cls=cls)(hx:oe.dict=dx)(h0:vs[0]?=Ab a0)(dt:oe.data=.fields vs)(hz:1<vs.size)(g:h'.get? e=Ab (GL (·.setIfInBounds 1 (.ref T')) oe))(ne:T'≠e)(gT:h'.get? T'=Ab oT)(dT:oT.data=.fields ts)(f3:ts[3]?=Ab fl):Qy e T' cls dx fl h':=
 ⟨_,_,oT,ts,a0,g,(dL _ _).trans hc,(ii _ _).trans hx,by rw[Array.getElem?_setIfInBounds_ne (by decide)];exact h0,DX dt _,by simp[hz],ne,gT,dT,f3⟩
theorem Mk(q:vs[i]?=Ab v):i<vs.size:=(CS.mp q).1
theorem vF{cls:Aj}{dx:As Am}(Ů:A.frames=Ab (env::outer))(hf:env.frame=Ab L)(ff:s.heap.FunFrames base (env::outer))(fl:Ğ e T cls dx s.heap)(hQ:∀ h' T',Qy e T' cls dx (CJ L) h'->â [e,T] (å (env::outer)) s.heap h'->s.heap.get? T'=Af->Q () {s with heap:=h'}):AD M A (KA (.ref e) env) Q E s:=by
 obtain⟨oe,vs,oT,ts,a0,he,hc,hx,h0,dt,h1,ne,hT,dT,h3⟩:=fl;have z3:=Mk h3;unfold KA;simp only[hf];refine Ah (Bv he dt h1 ?_);rw[AC (by simp:(Ds T != Cv)=Aa)]
 refine Ah (Bv hT dT h3 ?_);rw[AH (by simp[CJ]:¬ (Cv==CJ L)=Aa)]
 refine Ah (Gr hT dT z3 ?_);have up:∀ b,b≠T->(s.heap.update T (GL (·.setIfInBounds 3 Cv))).get? b=s.heap.get? b:=λb nb=>Ch _ _ (A8 nb)
 have ı:∀ b o,s.heap.get? b=Ab o->(∀ us,o.data≠.fields us)->b≠T:=λb o q n z=>by
  rw[z,hT]at q;cases q;exact n ts dT
 refine VZ (base:=base) Ů hf (ff.of_keeps λb o q n=>⟨o,(up b (ı b o q n)).trans q,rfl⟩) ((up e (A8 ne)).trans he) dt (Mk h1) λh' T' oT' ts' g nT gn gT dT' f3 sh=>?_
 have T0:s.heap.get? T'=Af:=by
  by_cases z:T'=T
  .rw[z]at gn;rw[Ck _ hT (FC (DX dT _))]at gn;cases gn
  .rw[<-up T' z];exact gn
 refine hQ h' T' (VH hc hx h0 dt (Mk h1) g nT gT dT' f3) ⟨λb o q n1 n2=>?_,λb o q hb=>?_⟩ T0
 .simp only[Aw,A2,Ca,DR]at n1;exact sh.keep b o ((up b n1.2).trans q) (by simp[n1.1]) n2
 .obtain⟨_,o',q',n⟩:=ff.mem hb;rw[q]at q';cases q';exact sh.slot b o ((up b (ı b o q n)).trans q) hb
theorem Xq(fl:Qy e T cls dx fv s.heap)(hQ:∀ h',Ğ e T cls dx h'->(∀ b o,b≠T->s.heap.get? b=Ab o->h'.get? b=Ab o)->Q () {s with heap:=h'}):AD M A (setFlight (.ref e) Af) Q E s:=by
 obtain⟨oe,vs,oT,ts,a0,he,hc,hx,h0,dt,h1,ne,hT,dT,h3⟩:=fl;have z3:=Mk h3;unfold setFlight;refine Ah (Bv he dt h1 ?_);rw[AC (by simp:(Ds T != Cv)=Aa)]
 refine Gr hT dT z3 (hQ _ ?_ λb o nb q=>(Ch _ _ (A8 nb)).trans q)
 exact⟨oe,vs,_,_,a0,(Ch _ _ ne).trans he,hc,hx,h0,dt,h1,ne,Ck _ hT (FC (DX dT _)),DX dT _,by simp[z3]⟩
theorem VT(ff:s.heap.FunFrames base (env::outer))(sh:â ex (å (env::outer)) s.heap h1)(hT:s.heap.get? T'=Af)(k:∀ b o,b≠T'->h1.get? b=Ab o->h2.get? b=Ab o):â ex (å (env::outer)) s.heap h2:=
 ⟨λb o q n1 n2=>k b o (λz=>by rw[z,hT]at q;cases q) (sh.keep b o q n1 n2),λb o q hb=>let ⟨sl,q'⟩:=sh.slot b o q hb;⟨sl,k b _ (λz=>by rw[z,hT]at q;cases q) q'⟩⟩
theorem rF(Ů:A.frames=Ab (env::outer))(hf:env.frame=Ab L)(ff:s.heap.FunFrames base (env::outer))(fl:Ğ e T cls dx s.heap)(hQ:∀ h' T',Ğ e T' cls dx h'->â [e,T] (å (env::outer)) s.heap h'->(T'=T\/s.heap.get? T'=Af)->Q () {s with heap:=h'}):AD M A (leaving env (.ref e)) Q E s:=by
 unfold leaving;exact Ah (vF Ů hf ff fl λh1 T' f1 sh hT=>Xq f1 λh2 f2 k=>hQ h2 T' f2 (VT ff sh hT k) (.inr hT))
theorem pR(Ů:A.frames=Ab (env::outer))(hf:env.frame=Ab L)(ff:s.heap.FunFrames base (env::outer))(he:s.heap.get? e=Ab oe)(hc:oe.cls=cls)(hx:oe.dict=dx)(dt:oe.data=.fields vs)(h0:vs[0]?=Ab a0)(h1:vs[1]?=Ab .none)(hQ:∀ h' T',Ğ e T' cls dx h'->â [e] (å (env::outer)) s.heap h'->s.heap.get? T'=Af->Q () {s with heap:=h'}):AD M A (leaving env (.ref e)) Q E s:=by
 unfold leaving KA;simp only[hf];refine Ah (Ah (Bv he dt h1 ?_));rw[AH (by decide)]
 exact VZ (base:=base) Ů hf ff he dt (Mk h1) λh' T' oT ts g nT gn gT dT f3 sh=>Xq (VH hc hx h0 dt (Mk h1) g nT gT dT f3) λh2 f2 k=>hQ h2 T' f2 (VT ff sh gn k) gn
end
def CXR(P:A6)(w:AM):CXT:=λouter H s E ev s'=>∃ e T cls dx H',ev=.ref e/\s'.os=s.os/\Go s'.gens/\Un (å outer) [] H H' s.heap s'.heap/\ì P w H' s'.heap/\Ğ e T cls dx s'.heap/\H' e=Af/\H' T=Af/\s.heap.get? e=Af/\s.heap.get? T=Af/\E cls dx H'
def QN(X:Cx)(CL:ClA)(W:XW):Prop:=∀ pI Y H s e C dx t x,Z6 X pI Y H s->(X.ex=[]->X.s₀.heap.get? e=Af)->H e=Af->s.heap.get? e=Ab (jI C dx t)->Jx X.K CL H (.ref C) dx x->W x H->X.xe (.ref e) s
section
variable{K:Fg}{E:XK}
theorem XS(I:Z6 X pI Y H s):∀ b∈å X.stack,b∈X.fs\/X.s₀.heap.get? b=Af:=λb hb=>by
 rcases Aw.mp (I.stkSub b hb) with z|z
 .exact .inr (by rw[z];exact Hd I.ok.above)
 .exact .inl z
theorem O1(I:Z6 X pI Y H s)(hx:X.ex=[])(h:s.heap.get? b=Af):X.s₀.heap.get? b=Af:=by
 cases q:X.s₀.heap.get? b with
 |none=>rfl
 |some o=>
  obtain⟨o',z⟩:=I.base.there b o q (by rw[hx];simp)
  rw[h]at z;cases z
theorem jZ(hE:∀ x cls dx H',W x H'->Jx K CL H' cls dx x->E cls dx H'):∀ A',MH (CXR P w) (HG (CXR P w) P w K mg base N qual scope f cd A outer s H E) (EKW K CL A' W):=by
 intro A' pI Y H1 s1 ev s2 I h;obtain⟨e,T,cls,dx,H',rfl,os,bare,un,hok,fl,he,hT,ne,nT,x,xr,wx⟩:=h;have I':=I.call' (s':=s2) (ch:=[]) os un hok bare (λb z=>absurd z (by simp))
 have hb0:Un (å outer) [] H H' s.heap s2.heap:=I'.base;show AD (model P w) (A.deeper (FV qual scope s.heap.objs.size f cd)) (leaving (FV qual scope s.heap.objs.size f cd) (.ref e)) _ _ s2;refine rF (L:=s.heap.objs.size) I'.ok.frames rfl I'.stack fl λh' T' fl' sh hT'=>?_
 have e0:s.heap.get? e=Af:=O1 I rfl ne;have T0:s.heap.get? T=Af:=O1 I rfl nT;refine⟨e,T',cls,dx,H',rfl,I'.os,bare,Un.shift hb0 sh ?_ (XS I'),ì.shift hok sh ?_ I'.stkFree,fl',he,?_,e0,?_,?_⟩
 .intro b hb;rcases Aw.mp hb with rfl|hb
  .exact e0
  .rw[AQ.mp hb];exact T0
 .intro b hb;rcases Aw.mp hb with rfl|hb
  .exact he
  .rw[AQ.mp hb];exact hT
 .rcases hT' with rfl|z
  .exact hT
  .exact WH hok z
 .rcases hT' with rfl|z
  .exact T0
  .exact O1 I' rfl z
 .exact hE x cls dx H' wx xr
theorem rzR(hE:∀ x cls dx H',W x H'->Jx K CL H' cls dx x->E cls dx H'):QN (HG (CXR P w) P w K mg base N qual scope f cd A outer s H E) CL W:=by
 intro pI Y H1 s1 e C dx t x I e0 he ge xr hw;have hb0:Un (å outer) [] H H1 s.heap s1.heap:=I.base;have e0':s.heap.get? e=Af:=e0 rfl;show AD (model P w) (A.deeper (FV qual scope s.heap.objs.size f cd)) (leaving (FV qual scope s.heap.objs.size f cd) (.ref e)) _ _ s1;refine pR (cls:=.ref C) (dx:=dx) (L:=s.heap.objs.size) I.ok.frames rfl I.stack ge rfl rfl rfl (a0:=.ref t) rfl rfl λh' T' fl' sh hT'=>?_
 have one:∀{Z_:Am->Prop},Z_ e->∀ b∈[e],Z_ b:=λ{Z_} z b hb=>by rw[AQ.mp hb];exact z
 exact⟨e,T',.ref C,dx,H1,rfl,I.os,I.bare,Un.shift hb0 sh (one e0') (XS I),ì.shift I.hok sh (one (Z_:=λb=>H1 b=Af) he) I.stkFree,fl',he,WH I.hok hT',e0',O1 I rfl hT',hE x _ dx H1 hw xr⟩
theorem ď:Jf (model P w) (HG (CXR P w) P w K mg base N qual scope f cd A outer s H E).A (HG (CXR P w) P w K mg base N qual scope f cd A outer s H E).env (HG (CXR P w) P w K mg base N qual scope f cd A outer s H E).xe:=PassesOwn.leaving
end
noncomputable def veB:Ac Aj:=[.type "ValueError",.type "Exception",.type "BaseException",.type "object"]
noncomputable def UL(K:Fg)(C:Am)(v:As Aj):Al:=match K.lookup C with
  | some ⟨.type "type",_,.cls c,z⟩=>(match c.mro,z.toList with
    |.ref c0::tl,[_,_,_,_,Ab (.builtin nw),_]=>c0==C&&(nw == "ValueError.__new__" && (!c.hasDel&&(PySem.W.tailIn K veB tl&&(PySem.W.nsOkIn K c.ns&&Cn K c.ns "__init__" == Ab v))))
    | _,_=>Ae)
  |_=>Ae
structure XcOk (K:Fg) (C:Am):Prop where
 exc:∃ v,UL K C v=Aa
 ga:Gq K (.ref C) "__getattribute__" = Ab (Ab (.builtin "BaseException.__getattribute__"))
 gt:Gq K (.ref C) "__getattr__" = Ab Af
 cl:Gq K (.ref C) "__class__" = Ab (Ab (.builtin "object.__class__"))
 ob:PySem.W.mroIn K C (.type "object")=Ab Aa
 be:eT K (.ref C) (.type "BaseException")=Ab Aa
 cs:(PySem.W.clsIn K C).isSome=Aa
 ve:eR K (.ref C) (.type "ValueError")=Ab Aa
noncomputable def Cx.pw(X:Cx)(pI:Pn)(Xw:Vq):Cx:={X with pn:=X.pn++pI,xe:=Xw}
section
variable{X:Cx}{CL:ClA}{k n:Ag}{fr:Al}{f:Am}{fd:CY}{ps:Ac An}{F:Ac D->R D}{x:An}{pos:Bf}{e:Aq}{es:Ac Aq}{fs ft:Rho->R (Ac D)}{sh:Rho->Al}
variable(hx0:X.ex=[])(G:û X.prog X.w X.K X.mg X.base (CXR X.prog X.w) k f fd ps (spD X.K CL n fr F))(hr:gV k X.A)(hg:Gl X x)(hm:X.mg x=Ab (.ref f))(hk:DY X.K (.ref f)=Aa)(hb:Jp X.K fd ps [])(Ϡ:∀ U,sh U=Aa->ft U=fs U)(hn:∀ U ds,ft U=.ok ds->ds.length=n)(hnx:∀ U y,ft U≠.exn y)(Ï:(x==("__debug__" : An))=Ae)(he:AN (e::es) X.env=(Ae,eval e X.env)::AN es X.env)(è:∀ pos,(C8 pos (AN es X.env)).any (·.1)=Ae)(ha:∀ pI Xw,Jf (model X.prog X.w) X.A X.env Xw->SA (Cx.pw X pI Xw) CL (λ_ _=>BV) (e::es) fs/\τ (Cx.pw X pI Xw) CL (λ_ _=>BV) (e::es) ft)
include hx0 G hr hg hm hk hb Ϡ hn hnx Ï he è ha
end
def Zyx(K:Fg)(CL:ClA)(up:Ag->Ac Ag)(c':Ag)(C':Am):Prop:=∀ c C,CL c=Ab C->eR K (.ref C) (.ref C')=Ab ((up c).contains c')
end Ov
namespace Ov
open PySem PySem.Spec PyProof.Rows L2
end Ov
namespace Ov
open PySem PySem.Spec PyProof.Rows L2
variable{α:Type}{g x n x0 x1:An}{y:Aq}{as:Es}{a:E}{p:Bf}{xs ys:Ac Aq}{l:Ag}{scope:CP}{ts:Ac Ag}{H:Hp}{K:Fg}{h:AS}
noncomputable abbrev oH:CXT:=λ_ _ _ _ _ _=>BV
structure Ι (P:A6) (w:AM) (K:Fg) (mg:An->As Aj) (base:AS) (k:Ag) (f:Am) (fd:CY) (ps:Ac An) (sp:Sp):Prop where
 len:∀ vs H Q E,sp vs H Q E->vs.length=ps.length
 run:∀(A:Bm)(ev:Am)(outer:Ac Dc)(s:At)(H:Hp)(args:Args)(us:Ac Aj)(vs:Ac V)(Q:VK)(E:XK),gV k A->Θ P w K mg base (A.mark (Ab (.ref ev))) outer s H->Iu s fd args (ps.zip us)->Bl vs us->sp vs H Q E ->
  F0 (model P w) (A.mark (Ab (.ref ev))) (.call (.ref f) args) (CR oH outer P w H s Q E) s
def spH(K:Fg)(CL:ClA)(n:Ag)(fr:Al)(F:Ac D->R D):Sp:=λvs H Q _=>∃(ds:Ac D)(A:Am->Prop),vs.length=n/\we H A/\Z7 K CL H A vs ds/\(match F ds with
  |.ok d=>∀ v H',A1 H H'->Fn K CL fr H A H' v d->Q v H'
  |.exn _=>BV
  | .bad=>BV)
noncomputable def lP(K:Fg)(C:Am):Al:=match K.lookup C with
  |some ⟨_,_,.cls c,_⟩=>c.hasDict
  |_=>Ae
theorem Id{P:Prop}(h:Ae=Aa):P:=nomatch h
structure Tc where
 sc:CP
 N:Ac An
 fns:Ac (An×Ag×Ag)
 bl:Ac An
 rzs:Ac (An×Ag)
 exs:Ac (An×Ag)
 gls:Ac (An×Ag)
noncomputable def UK(T:Tc)(x:An):Al:=match T.sc.names.lookup x with
  |some .local=>Aa
  |some .cell=>Aa
  |some .free=>Aa
  |_=>Ae
noncomputable def M7(T:Tc)(x:An):Al:=match T.sc.names.lookup x with
  |some .local=>Aa
  |some .cell=>Aa
  |_=>Ae
noncomputable def glB(T:Tc)(x:An):Al:=T.sc.names.lookup x==Ab .globalImplicit
noncomputable def Od(x:An):Al:=!(x==("__debug__" : An)) && !(x==("__classdict__" : An)) && !(x==("__name__" : An))
noncomputable def Ī(T:Tc)(x:An)(i:Ag):Al:=T.N[i]? == Ab x&&UK T x&&Od x
noncomputable def Û(T:Tc)(x:An):Al:=T.bl.contains x&&glB T x&&Od x
theorem Gn{a:Al}(h:(a&&b)=Aa):a=Aa/\b=Aa:=(Ap a b).mp h
theorem į{a:Al}(h:(a||b)=Aa):a=Aa\/b=Aa:=(DH a b).mp h
noncomputable def Jn(e:Aq)(F:An->Al):Al:=if c:e.ctorIdx=23 then cJ (motive_1:=λ_=>Al) e c λx _=>F x else Ae
theorem J4(h:Jn e F=Aa):∃ x p,e=cI x p/\F x=Aa:=by
 by_cases c:e.ctorIdx=23
 .exact cJ (motive_1:=λe=>Jn e F=Aa->∃ x p,e=cI x p/\F x=Aa) e c (λx p h=>⟨x,p,rfl,h⟩) h
 .exact Id ((C0 c).symm.trans h)
noncomputable def MT(e:Aq)(F:Const->Al):Al:=if c:e.ctorIdx=19 then bX (motive_1:=λ_=>Al) e c λc _ _=>F c else Ae
theorem O0(h:MT e F=Aa):∃ c u p,e=bW c u p/\F c=Aa:=by
 by_cases c:e.ctorIdx=19
 .exact bX (motive_1:=λe=>MT e F=Aa->∃ c u p,e=bW c u p/\F c=Aa) e c (λc u p h=>⟨c,u,p,rfl,h⟩) h
 .exact Id ((C0 c).symm.trans h)
noncomputable def Uv(e:Aq)(F:Aq->GP->Aq->Al):Al:=if c:e.ctorIdx=2 then bP (motive_1:=λ_=>Al) e c λx o y _=>F x o y else Ae
theorem tU(h:Uv e F=Aa):∃ x o y p,e=bO x o y p/\F x o y=Aa:=by
 by_cases c:e.ctorIdx=2
 .exact bP (motive_1:=λe=>Uv e F=Aa->∃ x o y p,e=bO x o y p/\F x o y=Aa) e c (λx o y p h=>⟨x,o,y,p,rfl,h⟩) h
 .exact Id ((C0 c).symm.trans h)
noncomputable def M5(e:Aq)(F:La->Aq->Al):Al:=if c:e.ctorIdx=3 then cT (motive_1:=λ_=>Al) e c λo x _=>F o x else Ae
theorem SZ(h:M5 e F=Aa):∃ o x p,e=cS o x p/\F o x=Aa:=by
 by_cases c:e.ctorIdx=3
 .exact cT (motive_1:=λe=>M5 e F=Aa->∃ o x p,e=cS o x p/\F o x=Aa) e c (λo x p h=>⟨o,x,p,rfl,h⟩) h
 .exact Id ((C0 c).symm.trans h)
noncomputable def MK(e:Aq)(F:BoolOp->Ac Aq->Bf->Al):Al:=if c:e.ctorIdx=0 then bR (motive_1:=λ_=>Al) e c λo xs p=>F o xs p else Ae
theorem Si(h:MK e F=Aa):∃ o xs p,e=bQ o xs p/\F o xs p=Aa:=by
 by_cases c:e.ctorIdx=0
 .exact bR (motive_1:=λe=>MK e F=Aa->∃ o xs p,e=bQ o xs p/\F o xs p=Aa) e c (λo xs p h=>⟨o,xs,p,rfl,h⟩) h
 .exact Id ((C0 c).symm.trans h)
noncomputable def MJ(e:Aq)(F:Aq->Ac D0->Ac Aq->Al):Al:=if c:e.ctorIdx=15 then bV (motive_1:=λ_=>Al) e c λx os ys _=>F x os ys else Ae
theorem Sh(h:MJ e F=Aa):∃ x os ys p,e=bU x os ys p/\F x os ys=Aa:=by
 by_cases c:e.ctorIdx=15
 .exact bV (motive_1:=λe=>MJ e F=Aa->∃ x os ys p,e=bU x os ys p/\F x os ys=Aa) e c (λx os ys p h=>⟨x,os,ys,p,rfl,h⟩) h
 .exact Id ((C0 c).symm.trans h)
noncomputable def Qb(e:Aq)(F:Aq->Ac Aq->Ac FY->Bf->Al):Al:=if c:e.ctorIdx=16 then bT (motive_1:=λ_=>Al) e c λf as ks p=>F f as ks p else Ae
theorem Wn(h:Qb e F=Aa):∃ f as ks p,e=bS f as ks p/\F f as ks p=Aa:=by
 by_cases c:e.ctorIdx=16
 .exact bT (motive_1:=λe=>Qb e F=Aa->∃ f as ks p,e=bS f as ks p/\F f as ks p=Aa) e c (λf as ks p h=>⟨f,as,ks,p,rfl,h⟩) h
 .exact Id ((C0 c).symm.trans h)
noncomputable def Uw(e:Aq)(F:Aq->An->Bf->Al):Al:=if c:e.ctorIdx=20 then bN (motive_1:=λ_=>Al) e c λo m p=>F o m p else Ae
theorem tV(h:Uw e F=Aa):∃ o m p,e=bK o m p/\F o m p=Aa:=by
 by_cases c:e.ctorIdx=20
 .exact bN (motive_1:=λe=>Uw e F=Aa->∃ o m p,e=bK o m p/\F o m p=Aa) e c (λo m p h=>⟨o,m,p,rfl,h⟩) h
 .exact Id ((C0 c).symm.trans h)
noncomputable def NY(e:Aq)(F:Aq->Aq->Al):Al:=if c:e.ctorIdx=21 then cP (motive_1:=λ_=>Al) e c λx y _=>F x y else Ae
theorem Sg(h:NY e F=Aa):∃ x y p,e=cO x y p/\F x y=Aa:=by
 by_cases c:e.ctorIdx=21
 .exact cP (motive_1:=λe=>NY e F=Aa->∃ x y p,e=cO x y p/\F x y=Aa) e c (λx y p h=>⟨x,y,p,rfl,h⟩) h
 .exact Id ((C0 c).symm.trans h)
noncomputable def Uq(e:Aq)(F:As Aq->As Aq->As Aq->Al):Al:=if c:e.ctorIdx=26 then cN (motive_1:=λ_=>Al) e c λl u s _=>F l u s else Ae
theorem vB(h:Uq e F=Aa):∃ l u s p,e=cK l u s p/\F l u s=Aa:=by
 by_cases c:e.ctorIdx=26
 .exact cN (motive_1:=λe=>Uq e F=Aa->∃ l u s p,e=cK l u s p/\F l u s=Aa) e c (λl u s p h=>⟨l,u,s,p,rfl,h⟩) h
 .exact Id ((C0 c).symm.trans h)
noncomputable def MS(e:Aq)(F:Ac Aq->Al):Al:=if c:e.ctorIdx=25 then cR (motive_1:=λ_=>Al) e c λxs _ _=>F xs else Ae
theorem OZ(h:MS e F=Aa):∃ xs c p,e=cQ xs c p/\F xs=Aa:=by
 by_cases c:e.ctorIdx=25
 .exact cR (motive_1:=λe=>MS e F=Aa->∃ xs c p,e=cQ xs c p/\F xs=Aa) e c (λxs c p h=>⟨xs,c,p,rfl,h⟩) h
 .exact Id ((C0 c).symm.trans h)
noncomputable def Ut(e:Aq)(F:Ac Aq->Al):Al:=if c:e.ctorIdx=24 then cB (motive_1:=λ_=>Al) e c λxs _=>F xs else Ae
theorem tP(h:Ut e F=Aa):∃ xs p,e=cA xs p/\F xs=Aa:=by
 by_cases c:e.ctorIdx=24
 .exact cB (motive_1:=λe=>Ut e F=Aa->∃ xs p,e=cA xs p/\F xs=Aa) e c (λxs p h=>⟨xs,p,rfl,h⟩) h
 .exact Id ((C0 c).symm.trans h)
noncomputable def Uu(e:Aq)(F:Aq->Ac Kj->CP->Al):Al:=if c:e.ctorIdx=8 then cH (motive_1:=λ_=>Al) e c λx gs sc _=>F x gs sc else Ae
theorem tQ(h:Uu e F=Aa):∃ x gs sc p,e=cE x gs sc p/\F x gs sc=Aa:=by
 by_cases c:e.ctorIdx=8
 .exact cH (motive_1:=λe=>Uu e F=Aa->∃ x gs sc p,e=cE x gs sc p/\F x gs sc=Aa) e c (λx gs sc p h=>⟨x,gs,sc,p,rfl,h⟩) h
 .exact Id ((C0 c).symm.trans h)
noncomputable def Ux(e:BQ)(F:Ac Aq->Aq->Al):Al:=if c:e.ctorIdx=5 then dX (motive_2:=λ_=>Al) e c λts v _=>F ts v else Ae
theorem tW(h:Ux e F=Aa):∃ ts v p,e=dW ts v p/\F ts v=Aa:=by
 by_cases c:e.ctorIdx=5
 .exact dX (motive_2:=λe=>Ux e F=Aa->∃ ts v p,e=dW ts v p/\F ts v=Aa) e c (λts v p h=>⟨ts,v,p,rfl,h⟩) h
 .exact Id ((C0 c).symm.trans h)
noncomputable def P7(e:BQ)(F:Aq->Al):Al:=if c:e.ctorIdx=24 then dZ (motive_2:=λ_=>Al) e c λv _=>F v else Ae
theorem Wm(h:P7 e F=Aa):∃ v p,e=dY v p/\F v=Aa:=by
 by_cases c:e.ctorIdx=24
 .exact dZ (motive_2:=λe=>P7 e F=Aa->∃ v p,e=dY v p/\F v=Aa) e c (λv p h=>⟨v,p,rfl,h⟩) h
 .exact Id ((C0 c).symm.trans h)
noncomputable def Ur(e:BQ)(F:As Aq->Al):Al:=if c:e.ctorIdx=3 then eG (motive_2:=λ_=>Al) e c λo _=>F o else Ae
theorem vC(h:Ur e F=Aa):∃ o p,e=eF o p/\F o=Aa:=by
 by_cases c:e.ctorIdx=3
 .exact eG (motive_2:=λe=>Ur e F=Aa->∃ o p,e=eF o p/\F o=Aa) e c (λo p h=>⟨o,p,rfl,h⟩) h
 .exact Id ((C0 c).symm.trans h)
noncomputable def QE(e:BQ)(F:Aq->Ac BQ->Ac BQ->Al):Al:=if c:e.ctorIdx=12 then eE (motive_2:=λ_=>Al) e c λt xs ys _=>F t xs ys else Ae
theorem ce(h:QE e F=Aa):∃ t xs ys p,e=Stmt.If t xs ys p/\F t xs ys=Aa:=by
 by_cases c:e.ctorIdx=12
 .exact eE (motive_2:=λe=>QE e F=Aa->∃ t xs ys p,e=Stmt.If t xs ys p/\F t xs ys=Aa) e c (λt xs ys p h=>⟨t,xs,ys,p,rfl,h⟩) h
 .exact Id ((C0 c).symm.trans h)
noncomputable def P6(e:BQ)(F:Aq->Aq->Ac BQ->Ac BQ->Al):Al:=if c:e.ctorIdx=9 then eA (motive_2:=λ_=>Al) e c λt it xs ys _=>F t it xs ys else Ae
theorem Wl(h:P6 e F=Aa):∃ t it xs ys p,e=Stmt.For t it xs ys p/\F t it xs ys=Aa:=by
 by_cases c:e.ctorIdx=9
 .exact eA (motive_2:=λe=>P6 e F=Aa->∃ t it xs ys p,e=Stmt.For t it xs ys p/\F t it xs ys=Aa) e c (λt it xs ys p h=>⟨t,it,xs,ys,p,rfl,h⟩) h
 .exact Id ((C0 c).symm.trans h)
noncomputable def Po{α:Type}:Ac α->(α->Ac α->Al)->Al
 |[],_=>Ae
 |x::xs,F=>F x xs
theorem RT{l:Ac α}{F:α->Ac α->Al}(h:Po l F=Aa):∃ x xs,l=x::xs/\F x xs=Aa:=by
 cases l with
 |nil=>exact Id h
 |cons x xs=>exact⟨x,xs,rfl,h⟩
theorem MB{l:Ac α}(h:l.isEmpty=Aa):l=[]:=List.isEmpty_iff.mp h
noncomputable def GS{α:Type}(l:Ac α)(F:α->Al):Al:=Po l λx r=>r.isEmpty&&F x
theorem HY{l:Ac α}{F:α->Al}(h:GS l F=Aa):∃ x,l=[x]/\F x=Aa:=by
 obtain⟨x,r,rfl,h⟩:=RT h;obtain⟨h1,h2⟩:=Gn h;exact⟨x,by rw[MB h1],h2⟩
noncomputable def Js{α:Type}(l:Ac α)(F:α->α->Al):Al:=Po l λx r=>GS r λy=>F x y
theorem Lv{l:Ac α}{F:α->α->Al}(h:Js l F=Aa):∃ x y,l=[x,y]/\F x y=Aa:=by
 obtain⟨x,r,rfl,h⟩:=RT h;obtain⟨y,rfl,h⟩:=HY h;exact⟨x,y,rfl,h⟩
noncomputable def LJ(e:Aq)(F:An->Ac Aq->Al):Al:=Qb e λf as ks _=>Jn f λg=>ks.isEmpty&&F g as
theorem Mq(h:LJ e F=Aa):∃ g p as q,e=.Call (.Name g p) as [] q/\F g as=Aa:=by
 obtain⟨f,as,ks,q,rfl,h⟩:=Wn h;obtain⟨g,p,rfl,h⟩:=J4 h;obtain⟨h1,h2⟩:=Gn h;exact⟨g,p,as,q,by rw[MB h1],h2⟩
noncomputable def TY(e:Aq)(F:An->Aq->Ac Aq->Al):Al:=LJ e λg l=>Po l λx xs=>F g x xs
theorem V6(h:TY e F=Aa):∃ g p x xs q,e=.Call (.Name g p) (x::xs) [] q/\F g x xs=Aa:=by
 obtain⟨g,p,as,q,rfl,h⟩:=Mq h;obtain⟨x,xs,rfl,h⟩:=RT h;exact⟨g,p,x,xs,q,rfl,h⟩
noncomputable def Us(st:BQ)(F:An->An->Ac Aq->Al):Al:=P7 st λe=>Qb e λf as ks cp=>Uw f λo m ap=>Jn o λx=>ks.isEmpty&&(ap.endLine==cp.line&&F x m as)
theorem Wk{st:BQ}(h:Us st F=Aa):∃ x p m ap as cp q,st=.Expr (.Call (.Attribute (.Name x p) m ap) as [] cp) q/\ap.endLine=cp.line/\F x m as=Aa:=by
 obtain⟨e,q,rfl,h⟩:=Wm h;obtain⟨f,as,ks,cp,rfl,h⟩:=Wn h;obtain⟨o,m,ap,rfl,h⟩:=tV h;obtain⟨x,p,rfl,h⟩:=J4 h;obtain⟨h1,h⟩:=Gn h;obtain⟨h2,h3⟩:=Gn h;exact⟨x,p,m,ap,as,cp,q,by rw[MB h1],eq_of_beq h2,h3⟩
noncomputable def Qc(st:BQ)(F:Aq->Aq->Al):Al:=Ux st λts v=>GS ts λt=>F t v
theorem Sj{st:BQ}(h:Qc st F=Aa):∃ t v q,st=.Assign [t] v q/\F t v=Aa:=by
 obtain⟨ts,v,q,rfl,h⟩:=tW h;obtain⟨t,rfl,h⟩:=HY h;exact⟨t,v,q,rfl,h⟩
noncomputable def Zd(st:BQ)(F:An->Aq->Al):Al:=Qc st λt v=>Jn t λx=>F x v
theorem tX{st:BQ}(h:Zd st F=Aa):∃ x p v q,st=.Assign [.Name x p] v q/\F x v=Aa:=by
 obtain⟨t,v,q,rfl,h⟩:=Sj h;obtain⟨x,p,rfl,h⟩:=J4 h;exact⟨x,p,v,q,rfl,h⟩
noncomputable def QD(e:Aq)(F:Aq->Aq->Aq->Ac Aq->CP->Al):Al:=Uu e λx gs sc=>GS gs λg=>decide (g.is_async=0)&&F x g.target g.iter g.ifs sc
theorem XJ(h:QD e F=Aa):∃ x t it ifs sc p,e=.ListComp x [⟨t,it,ifs,0⟩] sc p/\F x t it ifs sc=Aa:=by
 obtain⟨x,gs,sc,p,rfl,h⟩:=tQ h;obtain⟨g,rfl,h⟩:=HY h;obtain⟨t,it,ifs,a⟩:=g;obtain⟨h1,h2⟩:=Gn h;have h1:a=0:=By h1;subst h1;exact⟨x,t,it,ifs,sc,p,rfl,h2⟩
noncomputable def Qq(e:E)(F:E->Al):Al:=if c:e.ctorIdx=8 then E.no.elim (motive_1:=λ_=>Al) e c F else Ae
theorem bv(h:Qq e F=Aa):∃ a,e=E.no a/\F a=Aa:=by
 by_cases c:e.ctorIdx=8
 .exact E.no.elim (motive_1:=λe=>Qq e F=Aa->∃ a,e=E.no a/\F a=Aa) e c (λa h=>⟨a,rfl,h⟩) h
 .exact Id ((C0 c).symm.trans h)
noncomputable def Qd(e:E)(F:Es->Al):Al:=if c:e.ctorIdx=9 then E.and.elim (motive_1:=λ_=>Al) e c F else Ae
theorem tY(h:Qd e F=Aa):∃ es,e=E.and es/\F es=Aa:=by
 by_cases c:e.ctorIdx=9
 .exact E.and.elim (motive_1:=λe=>Qd e F=Aa->∃ es,e=E.and es/\F es=Aa) e c (λes h=>⟨es,rfl,h⟩) h
 .exact Id ((C0 c).symm.trans h)
noncomputable def Qp(e:E)(F:Es->Al):Al:=if c:e.ctorIdx=10 then E.or.elim (motive_1:=λ_=>Al) e c F else Ae
theorem bu(h:Qp e F=Aa):∃ es,e=E.or es/\F es=Aa:=by
 by_cases c:e.ctorIdx=10
 .exact E.or.elim (motive_1:=λe=>Qp e F=Aa->∃ es,e=E.or es/\F es=Aa) e c (λes h=>⟨es,rfl,h⟩) h
 .exact Id ((C0 c).symm.trans h)
noncomputable def P8(e:E)(F:D0->E->E->Al):Al:=if c:e.ctorIdx=11 then E.cmp.elim (motive_1:=λ_=>Al) e c F else Ae
theorem tR(h:P8 e F=Aa):∃ o a b,e=E.cmp o a b/\F o a b=Aa:=by
 by_cases c:e.ctorIdx=11
 .exact E.cmp.elim (motive_1:=λe=>P8 e F=Aa->∃ o a b,e=E.cmp o a b/\F o a b=Aa) e c (λo a b h=>⟨o,a,b,rfl,h⟩) h
 .exact Id ((C0 c).symm.trans h)
noncomputable def P9(e:E)(F:D0->D0->E->E->E->Al):Al:=if c:e.ctorIdx=12 then E.cmp2.elim (motive_1:=λ_=>Al) e c F else Ae
theorem tS(h:P9 e F=Aa):∃ o q a b c,e=E.cmp2 o q a b c/\F o q a b c=Aa:=by
 by_cases c:e.ctorIdx=12
 .exact E.cmp2.elim (motive_1:=λe=>P9 e F=Aa->∃ o q a b c,e=E.cmp2 o q a b c/\F o q a b c=Aa) e c (λo q a b c h=>⟨o,q,a,b,c,rfl,h⟩) h
 .exact Id ((C0 c).symm.trans h)
noncomputable def Qa(e:E)(F:BI->Es->Al):Al:=if c:e.ctorIdx=15 then E.bi.elim (motive_1:=λ_=>Al) e c F else Ae
theorem tT(h:Qa e F=Aa):∃ b as,e=E.bi b as/\F b as=Aa:=by
 by_cases c:e.ctorIdx=15
 .exact E.bi.elim (motive_1:=λe=>Qa e F=Aa->∃ b as,e=E.bi b as/\F b as=Aa) e c (λb as h=>⟨b,as,rfl,h⟩) h
 .exact Id ((C0 c).symm.trans h)
noncomputable def QF(e:E)(F:Al->Al):Al:=if c:e.ctorIdx=1 then E.bl.elim (motive_1:=λ_=>Al) e c F else Ae
theorem ci(h:QF e F=Aa):∃ b,e=E.bl b/\F b=Aa:=by
 by_cases c:e.ctorIdx=1
 .exact E.bl.elim (motive_1:=λe=>QF e F=Aa->∃ b,e=E.bl b/\F b=Aa) e c (λb h=>⟨b,rfl,h⟩) h
 .exact Id ((C0 c).symm.trans h)
noncomputable def P5(e:E):Al:=decide (e.ctorIdx=0)
theorem tL(h:P5 e=Aa):e=.O:=E.O.elim (motive_1:=λe=>e=.O) e (By h) rfl
noncomputable def Ef:Aq->Al
 |.Starred _ _=>Ae
 |_=>Aa
noncomputable def S4:Aq->Al
 |.Slice _ _ _ _=>Ae
 |_=>Aa
noncomputable def NZ:Aq->Al
 |.Set _ _ _=>Ae
 |_=>Aa
noncomputable def MA:Aq->Al
 |.ListComp _ _ _ _=>Ae
 |.SetComp _ _ _ _=>Ae
 |.DictComp _ _ _ _ _=>Ae
 |_=>Aa
noncomputable def UN(tu:Al):Aq->Al
 |.Tuple ..=>tu
 |.Name ..=>!tu
 |_=>Ae
noncomputable def jO:Aq->Al
 |.Tuple _ _ _=>Aa
 |_=>Ae
noncomputable def Zf:Aq->Al
 |.Tuple _ _ _=>Ae
 |_=>Aa
noncomputable def OP:Aq->Al
 |.UnaryOp _ _ _=>Ae
 |.BoolOp _ _ _=>Ae
 |.IfExp _ _ _ _=>Ae
 |.Compare _ _ _ _=>Ae
 |_=>Aa
noncomputable def Uj:Ki->As An
 |.int=>Ab "int"
 |.bool=>Ab "bool"
 |.str=>Ab "str"
 |.list=>Ab "list"
 |.tuple=>Ab "tuple"
 |_=>Af
noncomputable def Uk:BI->As An
 |.len=>Ab "len"
 |.abs=>Af
 |.max=>Af
 |.min=>Af
 |.int=>Af
 |.list=>Ab "list"
 |.tuple=>Ab "tuple"
 |.all=>Ab "all"
 |.any=>Ab "any"
 |.sum=>Ab "sum"
 |.sorted=>Ab "sorted"
 |.tmin=>Af
 |.tmax=>Af
 |_=>Af
noncomputable def Uh(o scope:CP):CP:={scope with names:=scope.names.map λ(n,k)=>if (k==.free&&o.kind==.function&&o.names.lookup n==Ab .cell) then (n,.cell) else (n,k)}
noncomputable def M0:Ac Ag->Ac An->Ac An->Ac An
 |t::ts,x::xs,N=>M0 ts xs ((N.map λy=>if y==x then N.getD t x else y).set t x)
 |_,_,N=>N
noncomputable def NU:Ac An->Al
 |[]=>Aa
 |x::xs=>!xs.contains x&&NU xs
noncomputable def Og(T:Tc)(scope:CP)(ts:Ac Ag)(N':Ac An):Al:=
  scope.kind==.function&&scope.names.all (λy=>scope.names.lookup y.1==Ab y.2) &&
  scope.names.all (λy=>y.2 != .free||T.sc.names.lookup y.1==Ab .cell||T.sc.names.lookup y.1==Ab .free) &&
  N'.length==T.N.length&&NU N' &&
  (AK N'.length).all λi=>ts.contains i||(match N'[i]? with
    |some x=>(scope.names.lookup x != Ab .local&&scope.names.lookup x != Ab .cell)&&(scope.names.lookup x != Ab .free||T.N[i]? == Ab x)
    | none=>Aa)
noncomputable def GC:Ac Aq->As (Ac An)
 |[]=>Ab []
 |.Name x _::r=>(GC r).map (x :: ·)
 |_=>Af
noncomputable def ϖ(ys:Ac Aq):Ac An:=(GC ys).getD []
noncomputable def Ė(T:Tc):Ac Ag->Ac An->Al
 |[],[]=>Aa
 |t::ts,x::xs=>T.N[t]? == Ab x&&T.sc.names.lookup x==Ab .local&&Ė T ts xs
 |_,_=>Ae
noncomputable def tgO(T:Tc)(scope:CP)(t:Ag)(x:An):Al:=T.N[t]? == Ab x&&(T.sc.names.lookup x==Ab .local||(T.sc.names.lookup x==Ab .cell&&scope.names.lookup x==Ab .cell))
noncomputable def Ž(T:Tc):Ac Ag->Ac An->Al
 |[],[]=>Aa
 |t::ts,x::xs=>T.N[t]? == Ab x&&M7 T x&&Ž T ts xs
 |_,_=>Ae
noncomputable def Tc.blk(T:Tc)(scope:CP)(ts:Ac Ag)(xs:Ac An):Tc:={T with sc:=Uh T.sc scope,N:=M0 ts xs T.N}
noncomputable def QG:E->Al
 |.L _=>Aa
 |.comp _ _ _ _=>Aa
 |.compT _ _ _ _=>Aa
 |.B .Add _ _=>Aa
 |.bi .list _=>Aa
 |.sl _ _ _=>Aa
 |_=>Ae
theorem zY(Z:Z2)(h:QG e=Aa):Dy Z e=Aa:=by
 unfold QG at h;split at h<;>first|rfl|cases h
noncomputable def UU:Aq->As (Aq×Aq×Bf)
  | .Compare x ops ys p=>(match ops with
    | [.Lt]=>(match ys with
      |[y]=>Ab (x,y,p)
      | _=>Af)
    | _=>Af)
  |_=>Af
noncomputable def UE(_:Es):As (E×E):=Af
noncomputable def UI(_:Tc)(_:Tc->Aq->E->Al)(_:Aq)(_:Ac D0)(_:Ac Aq)(_:BI)(_:Es):Al:=Ae
noncomputable def US(T:Tc)(e:Aq)(b:BI)(as:Es):Al:=Ae
noncomputable def T6:Aq->As (An×Bf)
 |.Name x p=>Ab (x,p)
 |_=>Af
theorem VQ(q:T6 e=Ab t):e=.Name t.1 t.2:=by
 cases e with
 |Name x p=>cases q;rfl
 |_=>cases q
noncomputable def T7:Aq->As (Aq×Ac Aq×Ac FY×Bf)
 |.Call f as ks p=>Ab (f,as,ks,p)
 |_=>Af
theorem VR(q:T7 e=Ab t):e=.Call t.1 t.2.1 t.2.2.1 t.2.2.2:=by
 cases e with
 |Call f as ks p=>cases q;rfl
 |_=>cases q
noncomputable def one{α:Type}:Ac α->As α
 |[a]=>Ab a
 |_=>Af
theorem vq{l:Ac α}{a:α}(q:one l=Ab a):l=[a]:=by
  match l,q with
  |[b],q=>cases q;rfl
noncomputable def MY(e:Aq):As (An×An×Ac Aq):=(T7 e).bind λc=>(T6 c.1).bind λg=>(one c.2.1).bind λa=>(T7 a).bind λd=>(T6 d.1).bind λh=>if (c.2.2.1.isEmpty&&d.2.2.1.isEmpty)=Aa then Ab (g.1,h.1,d.2.1) else Af
theorem XF{h:An}(q:MY e=Ab (g,h,bs)):∃ p p' pos pos',e=.Call (.Name g p) [.Call (.Name h p') bs [] pos'] [] pos:=by
 obtain⟨⟨f,as,ks,pos⟩,e1,q⟩:=Ec.mp q;obtain⟨⟨g',p⟩,e2,q⟩:=Ec.mp q;obtain⟨a,e3,q⟩:=Ec.mp q;obtain⟨⟨f',bs',ks',pos'⟩,e4,q⟩:=Ec.mp q;obtain⟨⟨h',p'⟩,e5,q⟩:=Ec.mp q;by_cases hk:(ks.isEmpty&&ks'.isEmpty)=Aa
 .rw[AC hk]at q;cases q;rw[Ap,IC,IC]at hk;obtain⟨rfl,rfl⟩:=hk;have x1:=VR e1;have x2:=VQ e2;have x3:=vq e3;have x4:=VR e4;have x5:=VQ e5;dsimp only at x1 x2 x3 x4 x5;subst x1 x2 x3 x4 x5;exact⟨_,_,_,_,rfl⟩
 .rw[AH hk]at q;cases q
noncomputable def Ql(e:Aq):As (An×An×Aq×Aq×Aq):=match MY e with
  | some (g,h,bs)=>(match bs with
    |[x,y,z]=>Ab (g,h,x,y,z)
    | _=>Af)
  |none=>Af
theorem j6{h:An}{x:Aq}(q:Ql e=Ab (g,h,x,y,z)):∃ p p' pos pos',e=.Call (.Name g p) [.Call (.Name h p') [x,y,z] [] pos'] [] pos:=by
  unfold Ql at q;cases c:MY e with
  |none=>rw[c]at q;cases q
  |some t=>
    obtain⟨g',h',bs⟩:=t;rw[c]at q
    match bs,q,c with
    |[a,b,d],q,c=>cases q;exact XF c
noncomputable def Vb(e:Aq):As (An×An×Aq×Aq):=match MY e with
  | some (g,h,bs)=>(match bs with
    |[x,y]=>Ab (g,h,x,y)
    | _=>Af)
  |none=>Af
noncomputable def UG(_:Es):As (E×E):=Af
noncomputable def KZ(e:Aq):As (An×An×Aq):=match MY e with
  | some (g,h,bs)=>(match bs with
    |[x]=>Ab (g,h,x)
    | _=>Af)
  |none=>Af
theorem XN{h:An}{x:Aq}(q:KZ e=Ab (g,h,x)):∃ p p' pos pos',e=.Call (.Name g p) [.Call (.Name h p') [x] [] pos'] [] pos:=by
  unfold KZ at q;cases c:MY e with
  |none=>rw[c]at q;cases q
  |some t=>
    obtain⟨g',h',bs⟩:=t;rw[c]at q
    match bs,q,c with
    |[a],q,c=>cases q;exact XF c
noncomputable def N5:Es->As E
  | .cons a r=>(match r with
    |.nil=>Ab a
    | _=>Af)
  |.nil=>Af
theorem vU(q:N5 as=Ab a):as=.cons a .nil:=by
 unfold N5 at q;split at q
 .split at q
  .cases q;rfl
  .cases q
 .cases q
noncomputable def Oh:Es->As E
  | .cons a r=>(match r with
    |.nil=>Ab a
    | _=>Af)
  |.nil=>Af
theorem je(q:Oh as=Ab a):as=.cons a .nil:=by
 unfold Oh at q;split at q
 .split at q
  .cases q;rfl
  .cases q
 .cases q
noncomputable def U_1:Aq->As (Aq×Ad)
  | .Subscript v s _=>(match s with
    | .Slice lo hi st _=>(match lo with
      | some (.Constant (.int k) _ _)=>(match hi with
        | none=>(match st with
          |some (.Constant (.int j) _ _)=>if j=2 then Ab (v,k) else Af
          | _=>Af)
        | some _=>Af)
      | _=>Af)
    | _=>Af)
  |_=>Af
noncomputable def UF(_:Es):As (E×Ad):=Af
mutual
noncomputable def BM:Ag->Tc->Aq->E->Al
  |0,_,_,_=>Ae
  |n+1,T,e,c=>match c with
    |.O=>MT e λc=>decide (c=.none)
    |.bl b=>MT e λc=>decide (c=.bool b)
    |.int i=>MT e λc=>decide (c=.int i)
    |.str x=>MT e λc=>decide (c=.str x)
    |.v i=>Jn e λx=>Ī T x i
    |.glob g=>Ae
    |.B op a b=>Uv e λx op' y=>decide (op'=op)&&BM n T x a&&BM n T y b
    |.un op a=>M5 e λo x=>decide (o=.USub)&&(decide (op=.USub)&&BM n T x a)
    |.no a=>M5 e λo x=>decide (o=.Not)&&BM n T x a
    |.and es=>MK e λo xs _=>decide (o=.And)&&(ld n T xs es && !xs.isEmpty)
    |.or es=>MK e λo xs _=>decide (o=.Or)&&(ld n T xs es && !xs.isEmpty)
    |.cmp op a b=>MJ e λx os ys=>GS os λop'=>GS ys λy=>decide (op'=op) && !behindInMarks op y&&BM n T x a&&BM n T y b
    |.cmp2 Δ Ϥ a b c=>MJ e λx os ys=>Js os λo1 o2=>Js ys λy z=>decide (o1=Δ)&&decide (o2=Ϥ) && !lastMarks [Δ,Ϥ] [y,z]&&BM n T x a&&BM n T y b&&BM n T z c
    |.ite c a b=>Ae
    |.call f as=>TY e λg x xs=>(T.fns.any λp=>p.1==g&&p.2.1==f&&p.2.2==xs.length+1)&&decide (xs.length<900)&&glB T g&&Od g&&ld n T (x::xs) as
    |.bi b as=>(TY e λg x xs=>Uk b==Ab g&&Û T g&&ld n T (x::xs) as)||US T e b as||(match UG as with|some (a,c)=>(match Vb e with|some (g,h,x,y)=>decide (b=.list)&&g==("list" : An)&&h==("range" : An)&&Û T g&&Û T h&&Ef x&&Ef y&&BM n T x a&&BM n T y c|none=>Ae)|none=>Ae)||(match UF as with|some (a,k)=>(match U_1 e with|some (x,j)=>decide (b=.stp)&&decide (j=k)&&decide (0<=k)&&BM n T x a|none=>Ae)|none=>Ae)||(match N5 as with|some a=>(match KZ e with|some (g,h,x)=>decide (b=.lset)&&g==("len" : An)&&h==("set" : An)&&Û T g&&Û T h&&Ef x&&BM n T x a|none=>Ae)|none=>Ae)||(match UE as with|some (a,c)=>(match UU e with|some (x,y,_)=>decide (b=.tlt) && !behindInMarks .Lt y&&BM n T x a&&BM n T y c|none=>Ae)|none=>Ae)||(match Oh as with|some a=>(match KZ e with|some (g,h,x)=>decide (b=.rvs)&&g==("list" : An)&&h==("reversed" : An)&&Û T g&&Û T h&&Ef x&&BM n T x a|none=>Ae)|none=>Ae)
    |.isi a ks=>GS ks λk=>LJ e λg l=>Js l λx t=>Jn t λt=>g==("isinstance" : An)&&Û T g&&Uj k==Ab t&&Û T t&&Ef x&&BM n T x a
    |.x a i=>NY e λx y=>S4 y&&BM n T x a&&BM n T y i
    |.sl a lo hi=>NY e λx s=>Uq s λl h st=>st.isNone&&(BM n T x a&&ũ n T l lo&&ũ n T h hi)
    |.H es=>MS e λxs=>ld n T xs es&&decide (xs.length<=1000)
    |.L es=>Ut e λxs=>ld n T xs es&&decide (xs.length<=1000)
    |.comp elt t it c=>QD e λx tg iter ifs scope=>Jn tg λy=>ϑ n T Ae iter it&&NZ iter&&Og T scope [t] (M0 [t] [y] T.N)&&tgO (T.blk scope [t] [y]) scope t y&&Ū n (T.blk scope [t] [y]) ifs c&&BM n (T.blk scope [t] [y]) x elt
    |.compT elt ts it c=>QD e λx tg iter ifs scope=>MS tg λys=>(GC ys).isSome&&ϑ n T Aa iter it&&NZ iter&&Og T scope ts (M0 ts (ϖ ys) T.N)&&Ė (T.blk scope ts (ϖ ys)) ts (ϖ ys)&&Ū n (T.blk scope ts (ϖ ys)) ifs c&&BM n (T.blk scope ts (ϖ ys)) x elt
    |.tupI it=>(match it with | .zip3 a b c=>(match Ql e with|some (g,h,x,y,z)=>g==("tuple" : An)&&h==("zip" : An)&&Û T g&&Û T h&&Ef x&&Ef y&&Ef z&&BM n T x a&&BM n T y b&&BM n T z c|none=>Ae)|_=>Ae)
    |.dnew=>Ae
    |.fld _ _=>Ae
noncomputable def Kd:Ag->Tc->Aq->E->Al
 |0,_,_,_=>Ae
 |n+1,T,e,c=>(M5 e λo x=>decide (o=.Not)&&(Qq c λa=>Kd n T x a)) ||
  (MK e λo xs _=>(decide (o=.And)&&(Qd c λes=>ä n T xs es && !xs.isEmpty))||(decide (o=.Or)&&(Qp c λes=>ä n T xs es && !xs.isEmpty))) ||
  (MJ e λx os ys=>(P8 c λop a b=>GS os λop'=>GS ys λy=>decide (op'=op) && !behindInMarks op y&&BM n T x a&&BM n T y b) ||
   (P9 c λΔ Ϥ a b c=>Js os λo1 o2=>Js ys λy z=>decide (o1=Δ)&&decide (o2=Ϥ) && !lastMarks [Δ,Ϥ] [y,z]&&BM n T x a&&BM n T y b&&BM n T z c) ||
   (Qa c λb as=>UI T (BM n) x os ys b as)) ||
  OP e&&BM n T e c
noncomputable def ä:Ag->Tc->Ac Aq->Es->Al
  |0,_,_,_=>Ae
  |n+1,T,xs,es=>match xs,es with
    |[],.nil=>Aa
    |x::xs,.cons e es=>Kd n T x e&&ä n T xs es
    |_,_=>Ae
noncomputable def ld:Ag->Tc->Ac Aq->Es->Al
  |0,_,_,_=>Ae
  |n+1,T,xs,es=>match xs,es with
    |[],.nil=>Aa
    |x::xs,.cons e es=>Ef x&&BM n T x e&&ld n T xs es
    |_,_=>Ae
noncomputable def ũ:Ag->Tc->As Aq->E->Al
  |0,_,_,_=>Ae
  |n+1,T,x,e=>match x with
    |none=>P5 e
    |some x=>!(P5 e)&&BM n T x e
noncomputable def Ū:Ag->Tc->Ac Aq->E->Al
  |0,_,_,_=>Ae
  |n+1,T,xs,e=>match xs with
    |[]=>QF e λb=>b
    |x::r=>r.isEmpty&&Kd n T x e
noncomputable def ϑ:Ag->Tc->Al->Aq->I->Al
  |0,_,_,_,_=>Ae
  |n+1,T,tu,e,i=>match i with
    |.e a=>BM n T e a
    |.rng a=>LJ e λg l=>GS l λx=>g==("range" : An)&&Û T g&&Ef x&&BM n T x a
    |.enm a=>LJ e λg l=>GS l λx=>tu&&g==("enumerate" : An)&&Û T g&&Ef x&&BM n T x a
    |.zip a b=>LJ e λg l=>Js l λx y=>tu&&g==("zip" : An)&&Û T g&&Ef x&&Ef y&&BM n T x a&&BM n T y b
    |.rng2 a b=>LJ e λg l=>Js l λx y=>g==("range" : An)&&Û T g&&Ef x&&Ef y&&BM n T x a&&BM n T y b
    |.zip3 a b c=>Ae
end
noncomputable def Zo(_:Ag)(_:Tc)(_:Ag)(_:Ac BQ)(_:Ss):Al:=Ae
noncomputable def mF:E->Al
  | .bi b as=>(match b,as with
    |.len,.nil=>Aa
    | _,_=>Ae)
  |_=>Ae
noncomputable def mE:S->Al
 |.expr e=>mF e
 |_=>Ae
noncomputable def Qw:Ss->Al
 |.cons s _=>mE s
 |.nil=>Ae
mutual
noncomputable def Qv:Ag->Tc->BQ->S->Al
  |0,_,_,_=>Ae
  |n+1,T,st,s=>match s with
    |.pass=>Ae
    |.brk=>Ae
    |.cont=>Ae
    |.asg i _ e=>Zd st λx v=>T.N[i]? == Ab x&&M7 T x&&BM n T v e
    |.asgT ts e=>Qc st λt v=>MS t λys=>(GC ys).isSome&&Ž T ts (ϖ ys)&&(Zf v||EM 4 ys.length)&&BM n T v e
    |.expr e=>P7 st λv=>MA v&&BM n T v e
    |.ret e=>Ur st λo=>match o with|some v=>BM n T v e|none=>Ae
    |.retN=>Ae
    |.ife c a b=>QE st λt xs ys=>Kd n T t c&&mN n T xs a&&mN n T ys b
    |.fors t it body=>P6 st λtg iter xs ys=>ys.isEmpty&&(Jn tg λx=>Ž T [t] [x]&&NZ iter&&ϑ n T Ae iter it&&mN n T xs body)
    |.forT ts it body=>P6 st λtg iter xs zs=>zs.isEmpty&&(MS tg λys=>(GC ys).isSome&&Ž T ts (ϖ ys)&&NZ iter&&ϑ n T Aa iter it&&mN n T xs body)
    |.whl c body=>Ae
    |.rais c as=>!(T.rzs.any λp=>p.2==c)
    |.tryx _ _ _ _=>Ae
    |.try2 _ _ _ _ _ _ _=>Ae
    |.app i e=>Us st λx m l=>GS l λv=>m==("append" : An)&&Ī T x i&&Ef v&&BM n T v e
    |.ext i e=>Us st λx m l=>GS l λv=>m==("extend" : An)&&Ī T x i&&Ef v&&QG e&&BM n T v e
    |.rev i=>Ae
    |.clr i=>Ae
    |.put i k e=>Qc st λt v=>NY t λo y=>Jn o λx=>Ī T x i&&S4 y&&BM n T y k&&BM n T v e
    |.swp _ _ _=>Ae
    |.cpop _ _ _ _ _=>Ae
    |.apop _ _ _=>Ae
    |.ins i k e=>Ae
    |.dput _ _ _=>Ae
    |.dsd _ _ _=>Ae
    |.rel _=>Ae
noncomputable def mN:Ag->Tc->Ac BQ->Ss->Al
  |0,_,_,_=>Ae
  | n+1,T,sts,ss=>(match ss with
    |.nil=>sts.isEmpty
    |.cons (.rel i) ss=>mN n T sts ss
    | .cons s ss=>(match sts with
      |st::r=>Qv n T st s&&mN n T r ss
      | []=>Ae))||Qw ss
end
noncomputable def IZ(fuel:Ag)(hot:Al)(fns:Ac (An×Ag×Ag))(bl:Ac An)(rzs exs gls:Ac (An×Ag))(ps N:Ac An)(st:BQ)(df:Df):Al:=
  let sc:=Hl st
  sc.kind==.function && !sc.isCoroutine && !sc.isGenerator&&NU N&&N.take ps.length==ps&&ps.all (λx=>sc.names.lookup x==Ab .local||sc.names.lookup x==Ab .cell)&&sc.names.all (λy=>y.2 != .free)&&N.length==df.n &&
  (match hot with
  |true=>Zo fuel ⟨sc,N,fns,bl,rzs,exs,gls⟩ 0 (IU st) df.body
  | false=>mN fuel ⟨sc,N,fns,bl,rzs,exs,gls⟩ (IU st) df.body)
structure XT (up:Ag->Ac Ag) (xn:Ag->Ac D->R Ex) (CL:ClA) (rzs exs:Ac (An×Ag)) (K:Fg) (mg:An->As Aj):Prop where
 xc:∀ c C,CL c=Ab C->XcOk K C
 rz:∀ p∈rzs,∃ C,CL p.2=Ab C/\mg p.1=Ab (.ref C)
 ex:∀ p∈exs,∃ C,mg p.1=Ab (.ref C)/\Zyx K CL up p.2 C/\∀ c D,CL c=Ab D->eT K (.ref D) (.ref C)=Ab ((up c).contains p.2)
 made:∀ c C ds,CL c=Ab C->xn c ds=.bad\/(xn c ds=.ok ⟨c,[]⟩/\UL K C Af=Aa)\/BV
 nf:∀ c C,CL c=Ab C->∀ f:An,(f==("triple" : An)||f==("points" : An))=Aa->lP K C=Aa/\Gq K (.ref C) f=Ab Af
 xb:∀ c,(∀ p∈rzs,p.2≠c)->∀ ds,xn c ds=.bad
def QP(K:Fg)(mg:An->As Aj)(CL:ClA)(x:An)(d:D):Prop:=∃ u v,mg x=Ab u/\Co v u/\∀ H A,U8 K CL H A v d
structure VX (Z:Z2) (CL:ClA) (k:Ag) (W:XW) (T:Tc) (X:Cx):Prop where
 sc:X.env.scope=T.sc
 kd:T.sc.kind=.function
 N:X.N=T.N
 nd:T.N.Nodup
 calm:X.calm=Aa
 room:gV k X.A
 bl:∀ x,x∈T.bl->X.mg x=Af
 fn:∀ p∈T.fns,∃ f fd ps,X.mg p.1=Ab (.ref f)/\DY X.K (.ref f)=Aa/\Jp X.K fd ps []/\ps.length=p.2.2%1000/\(p.2.2<1000->û X.prog X.w X.K X.mg X.base (CXR X.prog X.w) k f fd ps (spD X.K CL (p.2.2%1000) (Z.fr p.2.1) (Z.F p.2.1)))/\(1000<=p.2.2->Ι X.prog X.w X.K X.mg X.base k f fd ps (spH X.K CL (p.2.2%1000) (Z.fr p.2.1) (Z.F p.2.1)))
 own:Jf (model X.prog X.w) X.A X.env X.xe
 px:∀ A,MH (CXR X.prog X.w) X (EKW X.K CL A W)
 rz:QN X CL W
 xt:XT Z.up Z.xn CL T.rzs T.exs X.K X.mg
 gl:∀ p∈T.gls,QP X.K X.mg CL p.1 (Z.G p.2)
theorem xo:∀ A,MH (CXR X.prog X.w) X (EKW X.K CL A W0):=λA pI Y H s ev s' I h=>by
 obtain⟨e,T,cls,dx,H',_,_,_,_,_,_,_,_,_,_,x,_,w⟩:=h;exact w.elim
theorem oA:QN X CL W0:=λ_ _ _ _ _ _ _ _ _ _ _ _ _ _ z=>z.elim
def Rf{α:Type}(g f:Rho->R α):Prop:=∀ U,g U=.bad\/g U=f U
section
variable{a:Aq}
theorem SB.ref{g:Rho->R Al}(h:SB X CL W a f)(r:Rf g f):SB X CL W a g:=λA=>PT.weak (h A) λY H Q ⟨hA,U,q,p⟩=>⟨hA,U,q,by
 rcases r U with e|e
 .rw[e]at p;exact p.elim
 .rw[e]at p;exact p⟩
theorem SW.ref{g:Rho->R Al}(h:SW X CL W a f)(r:Rf g f):SW X CL W a g:=λA=>PW.weak (h A) λY H Q ⟨hA,U,q,p⟩=>⟨hA,U,q,by
 rcases r U with e|e
 .rw[e]at p;exact p.elim
 .rw[e]at p;exact p⟩
theorem SS.ref{st:BQ}{g:Rho->O}(h:SS X CL W st f)(r:∀ U,g U=.bad\/g U=f U):SS X CL W st g:=λFz B=>PS.weak (h Fz B) λD Y H ⟨U,x,p⟩=>⟨U,x,by
 rcases r U with e|e
 .rw[e]at p;exact p.elim
 .rw[e]at p;exact p⟩
end
theorem O4:∀{l:Ac An},NU l=Aa->l.Nodup
 |[],_=>Hv
 |x::xs,h=>by
  unfold NU at h;simp only[Ap,Cz,ZV,E8]at h;exact BO.mpr ⟨h.1,O4 h.2⟩
theorem wS(h:UK T x=Aa):Vis T.sc x:=by
 unfold UK at h;split at h
 .exact .inl (by assumption)
 .exact .inr (.inl (by assumption))
 .exact .inr (.inr (by assumption))
 .cases h
theorem Tf(h:M7 T x=Aa):ĺ T.sc x:=by
 unfold M7 at h;split at h
 .exact .inl (by assumption)
 .exact .inr (by assumption)
 .cases h
theorem S9(h:Od x=Aa):(x==("__debug__" : An))=Ae/\(x==("__classdict__" : An))=Ae/\x≠"__name__" := by
 unfold Od at h;simp only[Ap,Cz]at h;exact⟨h.1.1,h.1.2,λe=>by subst e;exact absurd h.2 (by simp)⟩
theorem ME(v:VX Z CL k W T X)(h:Ī T x i=Aa):PE X (.Name x pos) (K0 i):=by
 unfold Ī at h;simp only[Ap,Cb]at h;obtain⟨h2,h3,_⟩:=S9 h.2;exact ww (by rw[v.N];exact h.1.1) (by rw[v.sc];exact wS h.1.2) h2 h3
theorem HC(v:VX Z CL k W T X)(h:Û T x=Aa):Gl X x/\X.mg x=Af/\x≠"__name__"/\(x==("__debug__" : An))=Ae:=by
 unfold Û glB at h;simp only[Ap,Cb,ZV,AW]at h;obtain⟨h2,h3,h4⟩:=S9 h.2;exact⟨by show X.env.scope.names.lookup x=_;rw[v.sc];exact h.1.2,v.bl x h.1.1,h4,h2⟩
theorem DN{x:Aq}(h:Ef x=Aa):AN (x::xs) env=(Ae,eval x env)::AN xs env:=by
 cases x<;>first|rfl|cases h
theorem tE(h:S4 y=Aa):Tv y:=by
 intro o i;cases y<;>first|rfl|cases h
theorem Pw(h:NZ e=Aa):∀ x,DF e env x=pure x:=by
 intro x;cases e<;>first|rfl|cases h
theorem XB(h:MA e=Aa):EL e t l env=pure Ae:=by
 cases e<;>first|rfl|cases h
theorem wE(h:OP e=Aa):∀ whole,JN e env whole=(do let v <-whole;Lf e.pos;holding [v] (truthy v)):=by
 intro whole;cases e<;>first|rfl|cases h
theorem qF(v:VX Z CL k W T X)(scope:CP):relabel scope X.env=Uh T.sc scope:=by
 unfold relabel Uh;have:∀ n,X.env.kindOf n=T.sc.names.lookup n:=λn=>by show X.env.scope.names.lookup n=_;rw[v.sc]
 simp only[this,v.sc]
theorem TV(v:VX Z CL k W T X)(h:Og T scope ts N'=Aa):k5 X scope N' ts/\N'.Nodup/\scope.kind=.function:=by
 unfold Og at h;simp only[Ap,Cb,DT,DH,L6,ne_eq]at h;obtain⟨⟨⟨⟨⟨h1,h2⟩,h4⟩,h5⟩,h6⟩,h7⟩:=h;have at7:∀ i x,N'[i]?=Ab x->i∈ts\/((scope.names.lookup x≠Ab .local/\scope.names.lookup x≠Ab .cell)/\(scope.names.lookup x≠Ab .free\/T.N[i]?=Ab x)):=λi x e=>by
  have hi:=(Br.mp e).1;have:=h7 i (A9.mpr hi);rcases this with z|z
  .exact .inl (by simpa using z)
  .rw[e]at z;simp only[Ap,L6,ne_eq,DH,Cb]at z;exact .inr z
 refine⟨⟨h1,h2,λy hy hl=>by rw[h2 y hy,hl],λy hy hf=>?_,by rw[v.N];exact h5,λi x e hf hn=>?_,λi x e hl=>?_⟩,O4 h6,h1⟩
 .rw[v.sc];rcases h4 y hy with (z|z)|z
  .exact absurd hf z
  .exact .inl z
  .exact .inr z
 .rw[v.N];rcases at7 i x e with z|⟨_,z⟩
  .exact absurd z hn
  .exact z.resolve_left λq=>q hf
 .rcases at7 i x e with z|⟨z,_⟩
  .exact z
  .exact hl.elim (λq=>absurd q z.1) (λq=>absurd q z.2)
theorem VX.blk{xs:Ac An}(v:VX Z CL k W T X)(h:Og T scope ts (M0 ts xs T.N)=Aa):VX Z CL k W0 (T.blk scope ts xs) (í X scope cl C (M0 ts xs T.N) s H fp):=by
 obtain⟨_,h2,h3⟩:=TV v h;exact⟨qF v scope,h3,rfl,h2,v.calm,v.room,v.bl,v.fn,PassesOwn.never,xo,oA,v.xt,v.gl⟩
theorem wY(v:VX Z CL k W T X)(hfn:scope.names.lookup x=Ab .cell->X.fn x=Aa)(h:tgO T scope t x=Aa):PG X (.Name x pos) (Gm t):=by
 unfold tgO at h;simp only[Ap,DH,Cb]at h;rcases h with ⟨h1,h2|h2⟩
 .exact NG (by rw[v.N];exact v.nd) (by rw[v.N];exact h1) (by rw[v.sc];exact .inl h2) (.inr (by rw[v.sc];exact h2))
 .exact NG (by rw[v.N];exact v.nd) (by rw[v.N];exact h1) (by rw[v.sc];exact .inr h2.1) (.inl (hfn h2.2))
theorem Rw(h:GC (y::r)=Ab zs):∃ x p ws,y=.Name x p/\GC r=Ab ws/\zs=x::ws:=by
 cases y with
 |Name x p=>
  have h':(GC r).map (x :: ·)=Ab zs:=h;cases e:GC r with
  |none=>rw[e]at h';cases h'
  |some ws=>rw[e]at h';cases h';exact⟨x,p,ws,rfl,rfl,rfl⟩
 |_=>cases h
theorem R5(x:An)(p:Bf)(r:Ac Aq)(env:Dc):DS (.Name x p::r) env=(Ae,assign (.Name x p) env)::DS r env:=rfl
theorem Vf:∀(ys:Ac Aq)(zs:Ac An),GC ys=Ab zs->(DS ys env).length=ys.length/\(DS ys env).findIdx? (·.1)=Af/\(DS ys env).map (·.2)=ys.map λy=>assign y env:=by
 intro ys
 induction ys with
 |nil=>intro _ _;exact⟨rfl,rfl,rfl⟩
 |cons y r ih=>
  intro zs h;obtain⟨x,p,ws,rfl,e,rfl⟩:=Rw h;obtain⟨h1,h2,h3⟩:=ih ws e;rw[R5];refine⟨?_,?_,?_⟩
  .rw[BS,BS,h1]
  .rw[List.findIdx?_cons,h2];simp
  .rw[BA,BA,h3]
theorem wD(v:VX Z CL k W T X):∀(ys:Ac Aq)(ts:Ac Ag)(zs:Ac An),GC ys=Ab zs->Ė T ts zs=Aa->Ġ X ys (ts.foldr (λt u=>Jv (Gm t) u) Jz)/\ts.length=ys.length:=by
 intro ys
 induction ys with
 |nil=>
  intro ts zs e h;cases e;cases ts with
  |nil=>exact⟨W1,rfl⟩
  |cons t ts=>cases h
 |cons y r ih=>
  intro ts zs e h;obtain⟨x,p,ws,rfl,e2,rfl⟩:=Rw e;cases ts with
  |nil=>cases h
  |cons t ts=>
   have h':(T.N[t]? == Ab x&&T.sc.names.lookup x==Ab .local&&Ė T ts ws)=Aa:=h;simp only[Ap,Cb]at h';obtain⟨h1,h2⟩:=ih ts ws e2 h'.2;exact⟨Wi (NG (by rw[v.N];exact v.nd) (by rw[v.N];exact h'.1.1) (by rw[v.sc];exact .inl h'.1.2) (.inr (by rw[v.sc];exact h'.1.2))) h1 (by rw[R5];rfl),congrArg (· + 1) h2⟩
theorem wB(v:VX Z CL k W T X)(hn:(GC ys).isSome=Aa)(h:Ė T ts (ϖ ys)=Aa):PG X (.Tuple ys kk pos) (Na X.K ts.length (ts.foldr (λt u=>Jv (Gm t) u) Jz)):=by
 cases e:GC ys with
 |none=>rw[e]at hn;cases hn
 |some zs=>
  have e2:ϖ ys=zs:=by unfold ϖ;rw[e];rfl
  rw[e2]at h;obtain⟨h1,h2⟩:=wD v ys ts zs e h;obtain⟨h3,h4,_⟩:=Vf (env:=X.env) ys zs e;exact Yy v.calm h1 (by rw[h3,h2]) h4
noncomputable def Es.len:Es->Ag
 |.nil=>0
 |.cons _ es=>es.len+1
theorem Tl(Z:Z2)(U:Rho):∀(es:Es)(ds:Ac D),Ϲ Z U es=.ok ds->ds.length=es.len
 |.nil,ds,h=>by cases h;rfl
 |.cons e es,ds,h=>by
  obtain⟨x,h1,h2⟩:=Lr (WR Z U e es ▸ h);obtain⟨xs,h3,h4⟩:=Lr h2;cases h4;exact congrArg (· + 1) (Tl Z U es xs h3)
theorem Xv(Z:Z2)(U:Rho):∀(es:Es)(ds:Ac D),Ϭ Z U es=.ok ds->ds.length=es.len
 |.nil,ds,h=>by cases h;rfl
 |.cons e es,ds,h=>by
  obtain⟨x,h1,h2⟩:=Lr (WQ Z U e es ▸ h);obtain⟨xs,h3,h4⟩:=Lr h2;cases h4;exact congrArg (· + 1) (Xv Z U es xs h3)
theorem Yi(Z:Z2)(U:Rho)(e:E)(h:Ó U e=Aa):top U e (evE Z U e)=evE Z U e:=by
 cases e with
 |v i=>
  show FT U i=GE U i;have h':ż U i=Aa:=h;unfold ż at h';unfold FT GE;cases q:U[i]? with
  |none=>rfl
  |some x=>
   cases x with
   |none=>rfl
   |some y=>
    obtain⟨d,o⟩:=y;cases o with
    |true=>rw[q]at h';cases h'
    |false=>rfl
 |_=>rfl
theorem YS(Z:Z2)(U:Rho):∀(es:Es),K1 U es=Aa->Ϭ Z U es=Ϲ Z U es
 |.nil,_=>rfl
 |.cons e es,h=>by
  simp only[qO,Ap]at h;rw[WR,WQ,Yi Z U e h.1,YS Z U es h.2]
theorem TJ(Z:Z2)(c:E):Rf (λU=>evE Z U c) (λU=>top U c (evE Z U c)):=λU=>by
 by_cases h:Ó U c=Aa
 .exact .inr (Yi Z U c h).symm
 .cases c with
  |v i=>
   refine .inl ?_;show GE U i=.bad;have h':¬ ż U i=Aa:=h;unfold ż at h';unfold GE;cases q:U[i]? with
   |none=>rfl
   |some x=>
    cases x with
    |none=>rfl
    |some y=>
     obtain⟨d,o⟩:=y;cases o with
     |true=>rfl
     |false=>rw[q]at h';exact absurd rfl h'
  |_=>exact absurd rfl h
def Pcs(X:Cx)(CL:ClA)(W:XW)(e:Aq)(f:Rho->R D):Prop:=∃ tg iter elt ifs scope pos N' ts fi fc fe as g,e=.ListComp elt [⟨tg,iter,ifs,0⟩] scope pos/\k5 X scope N' ts/\SI X CL W tg iter fi/\GG X.K CL ts as g /\
 (∀ cl C s H fp,PG (í X scope cl C N' s H fp) tg g)/\(∀ cl C s H fp,Ļ (í X scope cl C N' s H fp) CL ifs fc)/\(∀ cl C s H fp,SE (í X scope cl C N' s H fp) CL W0 elt fe)/\(∀ x,DF iter X.env x=pure x) /\
 ∀ U,f U=(fi U).bind λxs=>(ϣ (Bz (λx=>(as x U).bind fc) (λx=>(as x U).bind fe) xs)).bind λys=>.ok (.L ys)
theorem Pcs.sc(hc:X.calm=Aa)(h:Pcs X CL W e f):SC X CL W Aa e f:=by
 obtain⟨tg,iter,elt,ifs,scope,pos,N',ts,fi,fc,fe,as,g,rfl,B,hi,χ,hg,ht,he,hs,ef⟩:=h;exact SC.congr (yZ hc B hi χ hg ht he hs) ef
structure ώ (Z:Z2) (CL:ClA) (W:XW) (X:Cx) (e:Aq) (c:E):Prop where
 se:SE X CL W e (λU=>evE Z U c)
 st:ST X CL W e (λU=>top U c (evE Z U c))
 nw:Dy Z c=Aa->SC X CL W Aa e (λU=>evE Z U c)
 cp:MA e=Ae->Pcs X CL W e (λU=>evE Z U c)
theorem Fk(h:SE X CL W e (λU=>evE Z U c))(ht:∀ U r,top U c r=r)(hn:Dy Z c=Ae)(hc:MA e=Aa):ώ Z CL W X e c:=
 ⟨h,by simp only[ht];exact h.st,λz=>absurd z (by rw[hn];decide),λz=>absurd z (by rw[hc];decide)⟩
theorem Pp(h:SC X CL W Aa e (λU=>evE Z U c))(ht:∀ U r,top U c r=r)(hc:MA e=Aa):ώ Z CL W X e c:=
 ⟨h.se,by simp only[ht];exact h.se.st,λ_=>h,λz=>absurd z (by rw[hc];decide)⟩
theorem Ze(hc:X.calm=Aa)(h:Pcs X CL W e (λU=>evE Z U c))(ht:∀ U r,top U c r=r):ώ Z CL W X e c:=
 ⟨(h.sc hc).se,by simp only[ht];exact(h.sc hc).se.st,λ_=>h.sc hc,λ_=>h⟩
theorem kW(h:Uj k=Ab x):∃ T,ξ k=Ab T/\Dt x=Ab (.type T):=by
 cases k<;>simp only[Uj]at h<;>cases h
 .exact⟨_,rfl,PyProof.Rows.boot_int⟩
 .exact⟨_,rfl,PyProof.Rows.boot_bool⟩
 .exact⟨_,rfl,PyProof.Rows.boot_str⟩
 .exact⟨_,rfl,GH⟩
 .exact⟨_,rfl,Gv⟩
structure ϩ (Z:Z2) (CL:ClA) (k:Ag) (n:Ag):Prop where
 e:∀(W:XW)(T:Tc)(X:Cx)(x:Aq)(c:E),VX Z CL k W T X->BM n T x c=Aa->ώ Z CL W X x c
 b:∀(W:XW)(T:Tc)(X:Cx)(x:Aq)(c:E),VX Z CL k W T X->Kd n T x c=Aa->SB X CL W x (λU=>(top U c (evE Z U c)).bind Dh)
 bs:∀(W:XW)(T:Tc)(X:Cx)(xs:Ac Aq)(es:Es)(pos:Bf),VX Z CL k W T X->ä n T xs es=Aa->xs≠[]->SW X CL W (.BoolOp .And xs pos) (λU=>(evN Z U es).bind Dh)/\SW X CL W (.BoolOp .Or xs pos) (λU=>(evO Z U es).bind Dh)
 es:∀(W:XW)(T:Tc)(X:Cx)(xs:Ac Aq)(es:Es),VX Z CL k W T X->ld n T xs es=Aa->SA X CL W xs (λU=>Ϲ Z U es)/\τ X CL W xs (λU=>Ϭ Z U es)/\xs.length=es.len/\(∀ pos,xs≠[]->SE X CL W (.BoolOp .And xs pos) (λU=>evN Z U es)/\SE X CL W (.BoolOp .Or xs pos) (λU=>evO Z U es))/\(∀ pos,(C8 pos (AN xs X.env)).any (·.1)=Ae)
 o:∀(W:XW)(T:Tc)(X:Cx)(x:As Aq)(c:E),VX Z CL k W T X->ũ n T x c=Aa->SO X CL W x (λU=>(top U c (evE Z U c)).bind (slE c))
 t:∀(T:Tc)(X:Cx)(xs:Ac Aq)(c:E),VX Z CL k W0 T X->Ū n T xs c=Aa->Ļ X CL xs (λU=>(top U c (evE Z U c)).bind Dh)
 i:∀(W:XW)(T:Tc)(X:Cx)(tu:Al)(tg x:Aq)(i:I),VX Z CL k W T X->UN tu tg=Aa->ϑ n T tu x i=Aa->SI X CL W tg x (λU=>Ë Z U i)
section
variable{n:Ag}
theorem tD:ϩ Z CL k 0:=⟨λ_ _ _ _ _ _ h=>Id h,λ_ _ _ _ _ _ h=>Id h,λ_ _ _ _ _ _ _ h=>Id h,λ_ _ _ _ _ _ h=>Id h,λ_ _ _ _ _ _ h=>Id h,λ_ _ _ _ _ h=>Id h,λ_ _ _ _ _ _ _ _ _ h=>Id h⟩
theorem Vj{x:Aq}(h:Ef x=Aa)(hx:(C8 pos (AN xs env)).any (·.1)=Ae):(C8 pos (AN (x::xs) env)).any (·.1)=Ae:=by
 rw[DN h];show (Ae||(C8 pos (AN xs env)).any (·.1))=Ae;rw[hx];rfl
theorem qe(S:ϩ Z CL k n)(W:XW)(T:Tc)(X:Cx)(xs:Ac Aq)(es:Es)(v:VX Z CL k W T X)(h:ld (n+1) T xs es=Aa):SA X CL W xs (λU=>Ϲ Z U es)/\τ X CL W xs (λU=>Ϭ Z U es)/\xs.length=es.len/\(∀ pos,xs≠[]->SE X CL W (.BoolOp .And xs pos) (λU=>evN Z U es)/\SE X CL W (.BoolOp .Or xs pos) (λU=>evO Z U es))/\(∀ pos,(C8 pos (AN xs X.env)).any (·.1)=Ae):=by
 cases xs with
 |nil=>
  cases es with
  |nil=>exact⟨uc,zC,rfl,λ_ z=>absurd rfl z,λ_=>rfl⟩
  |cons=>exact Id h
 |cons x xs=>
  cases es with
  |nil=>exact Id h
  |cons e es=>
   replace h:(Ef x&&BM n T x e&&ld n T xs es)=Aa:=h;simp only[Ap]at h;obtain⟨⟨h0,h1⟩,h2⟩:=h;have he:=S.e W T X x e v h1;obtain⟨a1,a2,a3,a4,a5⟩:=S.es W T X xs es v h2;refine⟨zD he.se a1 (DN h0),sB he.st a2 (DN h0),congrArg (· + 1) a3,λpos _=>?_,λpos=>Vj h0 (a5 pos)⟩
   cases xs with
   |nil=>
    cases es with
    |nil=>exact⟨Yo he.se,Yo he.se⟩
    |cons=>cases a3
   |cons y ys=>
    cases es with
    |nil=>cases a3
    |cons e' Ê=>
     obtain⟨b1,b2⟩:=a4 pos (by simp)
     exact⟨m8 he.se b1,iH he.se b2⟩
theorem ZzR(S:ϩ Z CL k n)(W:XW)(T:Tc)(X:Cx)(x:As Aq)(c:E)(v:VX Z CL k W T X)(h:ũ (n+1) T x c=Aa):SO X CL W x (λU=>(top U c (evE Z U c)).bind (slE c)):=by
 cases x with
 |none=>
  obtain rfl:=tL h;exact yR
 |some x=>
  replace h:(!(P5 c)&&BM n T x c)=Aa:=h;rw[Ap]at h;have q:=yQ (S.e W T X x c v h.2).st;have e:slE c=λd=>(FJ d).bind λi=>.ok (Ab i):=by
   funext d
   cases c<;>first|rfl|exact absurd (show Ae=Aa from h.1) AX
  rw[e];exact q
theorem ZzP(S:ϩ Z CL k n)(T:Tc)(X:Cx)(xs:Ac Aq)(c:E)(v:VX Z CL k W0 T X)(h:Ū (n+1) T xs c=Aa):Ļ X CL xs (λU=>(top U c (evE Z U c)).bind Dh):=by
 cases xs with
 |nil=>
  replace h:=ci h;obtain⟨b,rfl,h⟩:=h;subst h;exact wI
 |cons x xs=>
  replace h:(xs.isEmpty&&Kd n T x c)=Aa:=h;rw[Ap]at h;obtain rfl:=MB h.1;exact wH (S.b W0 T X x c v h.2)
theorem ZzS(S:ϩ Z CL k n)(W:XW)(T:Tc)(X:Cx)(tu:Al)(tg x:Aq)(i:I)(v:VX Z CL k W T X)(ht':UN tu tg=Aa)(h:ϑ (n+1) T tu x i=Aa):SI X CL W tg x (λU=>Ë Z U i):=by
 have ht:tu=Aa->jO tg=Aa:=λz=>by
  subst z;cases tg<;>first|rfl|cases ht'
 cases i with
 |e a=>
  exact nZ (S.e W T X x a v h).se
 |rng a=>
  replace h:=Mq h;obtain⟨g,pp,l,qq,rfl,h⟩:=h;replace h:=HY h;obtain⟨y,rfl,h⟩:=h;simp only[Ap,Cb]at h;obtain⟨⟨⟨rfl,h1⟩,h2⟩,h3⟩:=h;obtain⟨g1,g2,_,_⟩:=HC v h1;exact nu (S.e W T X _ a v h3).st g1 g2 (DN h2)
 |rng2 a b=>
  replace h:=Mq h;obtain⟨g,pp,l,qq,rfl,h⟩:=h;replace h:=Lv h;obtain⟨y,z,rfl,h⟩:=h;simp only[Ap,Cb]at h;obtain⟨⟨⟨⟨⟨rfl,h1⟩,h2⟩,h3⟩,h4⟩,h5⟩:=h;obtain⟨g1,g2,_,_⟩:=HC v h1;exact yV (S.e W T X _ a v h4).st (S.e W T X _ b v h5).st g1 g2 (by rw[DN h2,DN h3];rfl) (by rw[DN h3];rfl)
 |zip a b=>
  replace h:=Mq h;obtain⟨g,pp,l,qq,rfl,h⟩:=h;replace h:=Lv h;obtain⟨y,z,rfl,h⟩:=h;simp only[Ap,Cb]at h;obtain⟨⟨⟨⟨⟨⟨h0,rfl⟩,h1⟩,h2⟩,h3⟩,h4⟩,h5⟩:=h;obtain⟨g1,g2,_,_⟩:=HC v h1;have hg:=ht h0;cases tg with
  |Tuple es m tpos=>exact nj (S.e W T X _ a v h4).se (S.e W T X _ b v h5).se g1 g2 (by rw[DN h2,DN h3];rfl) (by rw[DN h3];rfl)
  |_=>cases hg
 |zip3 a b c=>exact absurd (show Ae=Aa from h) AX
 |enm a=>
  replace h:=Mq h;obtain⟨g,pp,l,qq,rfl,h⟩:=h;replace h:=HY h;obtain⟨y,rfl,h⟩:=h;simp only[Ap,Cb]at h;obtain⟨⟨⟨⟨h0,rfl⟩,h1⟩,h2⟩,h3⟩:=h;obtain⟨g1,g2,_,_⟩:=HC v h1;have hg:=ht h0;cases tg with
  |Tuple es m tpos=>exact yW (S.e W T X _ a v h3).se g1 g2 (DN h2)
  |_=>cases hg
theorem Mt[HP c]:(if c then R.ok (D.bl b) else .bad)=.bad\/∃ b',(if c then R.ok (D.bl b) else .bad)=.ok (.bl b'):=by
 by_cases h:c
 .rw[AC h];exact .inr ⟨_,rfl⟩
 .rw[AH h];exact .inl rfl
theorem vQ(op:D0)(d d':D):Ci op d d'=.bad\/∃ b,Ci op d d'=.ok (.bl b):=by
 cases op with
 |Eq=>exact Mt
 |NotEq=>exact Mt
 |In=>
  cases d' with
  |L ys=>exact Mt
  |H ys=>exact Mt
  |dic kvs=>
   show (match M8 d with|some k=>R.ok (D.bl (kvs.any λp=>p.1==k))|none=>.bad)=.bad\/∃ b,(match M8 d with|some k=>R.ok (D.bl (kvs.any λp=>p.1==k))|none=>.bad)=.ok (.bl b)
   cases M8 d with
   |some k=>exact .inr ⟨_,rfl⟩
   |none=>exact .inl rfl
  |_=>exact .inl rfl
 |NotIn=>
  cases d' with
  |L ys=>exact Mt
  |H ys=>exact Mt
  |_=>exact .inl rfl
 |Is=>
  cases d' with
  |O=>cases d<;>first|exact .inr ⟨_,rfl⟩|exact .inl rfl
  |_=>cases d<;>first|exact .inl rfl|exact .inr ⟨_,rfl⟩
 |IsNot=>
  cases d' with
  |O=>cases d<;>first|exact .inr ⟨_,rfl⟩|exact .inl rfl
  |_=>cases d<;>first|exact .inl rfl|exact .inr ⟨_,rfl⟩
 |_=>
  cases d with
  |int i=>cases d'<;>first|exact .inr ⟨_,rfl⟩|exact .inl rfl
  |_=>exact .inl rfl
theorem XE(op:D0)(d d':D):(Ci op d d').bind Dh=.bad\/(Ci op d d').bind Dh=(Ci op d d').bind Ez:=by
 rcases vQ op d d' with h|⟨b,h⟩
 .rw[h];exact .inl rfl
 .rw[h];exact .inr rfl
theorem Zyf(e e':E)(es:Es):Rf (λU=>(evN Z U (.cons e (.cons e' es))).bind Dh) (λU=>((top U e (evE Z U e)).bind Dh).bind λc=>if c=Aa then (evN Z U (.cons e' es)).bind Dh else .ok Ae):=λU=>by
 have e0:evN Z U (.cons e (.cons e' es))=(evE Z U e).bind λx=>(Ez x).bind λc=>if c=Aa then evN Z U (.cons e' es) else .ok (.bl Ae):=rfl
 dsimp only;rw[e0];rcases TJ Z e U with z|z<;>dsimp only at z
 .rw[z];exact .inl rfl
 .rw[<-z];cases evE Z U e with
  |bad=>exact .inl rfl
  |exn x=>exact .inr rfl
  |ok d=>
   cases d with
   |bl b=>cases b<;>exact .inr rfl
   |_=>exact .inl rfl
theorem zy(e e':E)(es:Es):Rf (λU=>(evO Z U (.cons e (.cons e' es))).bind Dh) (λU=>((top U e (evE Z U e)).bind Dh).bind λc=>if c=Aa then .ok Aa else (evO Z U (.cons e' es)).bind Dh):=λU=>by
 have e0:evO Z U (.cons e (.cons e' es))=(evE Z U e).bind λx=>(Ez x).bind λc=>if c=Aa then .ok (.bl Aa) else evO Z U (.cons e' es):=rfl
 dsimp only;rw[e0];rcases TJ Z e U with z|z<;>dsimp only at z
 .rw[z];exact .inl rfl
 .rw[<-z];cases evE Z U e with
  |bad=>exact .inl rfl
  |exn x=>exact .inr rfl
  |ok d=>
   cases d with
   |bl b=>cases b<;>exact .inr rfl
   |_=>exact .inl rfl
theorem Rf.tru(e:E):Rf (λU=>(evE Z U e).bind Dh) (λU=>(top U e (evE Z U e)).bind Dh):=λU=>by
 rcases TJ Z e U with z|z<;>dsimp only at z ⊢
 .rw[z];exact .inl rfl
 .rw[<-z];exact .inr rfl
theorem qf(S:ϩ Z CL k n)(W:XW)(T:Tc)(X:Cx)(xs:Ac Aq)(es:Es)(pos:Bf)(v:VX Z CL k W T X)(h:ä (n+1) T xs es=Aa)(Ϯ:xs≠[]):SW X CL W (.BoolOp .And xs pos) (λU=>(evN Z U es).bind Dh)/\SW X CL W (.BoolOp .Or xs pos) (λU=>(evO Z U es).bind Dh):=by
 cases xs with
 |nil=>exact absurd rfl Ϯ
 |cons x xs=>
  cases es with
  |nil=>exact Id h
  |cons e es=>
   replace h:(Kd n T x e&&ä n T xs es)=Aa:=h;simp only[Ap]at h;obtain⟨h1,h2⟩:=h;have he:=S.b W T X x e v h1;cases xs with
   |nil=>
    cases es with
    |nil=>exact⟨SW.ref (wG he) (Rf.tru e),SW.ref (pv he) (Rf.tru e)⟩
    |cons=>
     cases n with
     |zero=>exact absurd (show Ae=Aa from h2) AX
     |succ n=>exact absurd (show Ae=Aa from h2) AX
   |cons y ys=>
    cases es with
    |nil=>
     cases n with
     |zero=>exact absurd (show Ae=Aa from h2) AX
     |succ n=>exact absurd (show Ae=Aa from h2) AX
    |cons e' Ê=>
     obtain⟨b1,b2⟩:=S.bs W T X (y::ys) (.cons e' Ê) pos v h2 (by simp)
     exact⟨SW.ref (qa he b1) (Zyf e e' Ê),SW.ref (ZzO he b2) (zy e e' Ê)⟩
theorem wX(S:ϩ Z CL k n){x:Aq}(v:VX Z CL k W T X)(h:UI T (BM n) x ops ys b as=Aa):SB X CL W (.Compare x ops ys pos) (λU=>(top U (.bi b as) (evE Z U (.bi b as))).bind Dh):=by
 exact absurd (show Ae=Aa from h) AX
theorem ZzU(S:ϩ Z CL k n)(W:XW)(T:Tc)(X:Cx)(x:Aq)(c:E)(v:VX Z CL k W T X)(h:Kd (n+1) T x c=Aa):SB X CL W x (λU=>(top U c (evE Z U c)).bind Dh):=by
 have plain:∀ e,OP e=Aa->BM n T e c=Aa->SB X CL W e (λU=>(top U c (evE Z U c)).bind Dh):=λe h1 h2=>m9 (S.e W T X e c v h2).st (wE h1)
 replace h:((M5 x λo x=>decide (o=.Not)&&(Qq c λa=>Kd n T x a))||(MK x λo xs _=>(decide (o=.And)&&(Qd c λes=>ä n T xs es && !xs.isEmpty))||(decide (o=.Or)&&(Qp c λes=>ä n T xs es && !xs.isEmpty)))||(MJ x λx os ys=>(P8 c λop a b=>GS os λop'=>GS ys λy=>decide (op'=op) && !behindInMarks op y&&BM n T x a&&BM n T y b)||(P9 c λΔ Ϥ a b c=>Js os λo1 o2=>Js ys λy z=>decide (o1=Δ)&&decide (o2=Ϥ) && !lastMarks [Δ,Ϥ] [y,z]&&BM n T x a&&BM n T y b&&BM n T z c)||(Qa c λb as=>UI T (BM n) x os ys b as))||OP x&&BM n T x c)=Aa:=h
 replace h:=(į h).imp_left λz=>(į z).imp_left į
 rcases h with ((h|h)|h)|h
 .replace h:=SZ h;obtain⟨o,y,p,rfl,h⟩:=h;replace h:=Gn h;obtain⟨h0,h⟩:=h;obtain rfl:=By h0;replace h:=bv h;obtain⟨a,rfl,h⟩:=h
  .skip
   refine SB.ref (mf (S.b W T X _ a v h)) λU=>?_
   show ((top U a (evE Z U a)).bind λx=>(Ez x).bind λb=>.ok (.bl (!b))).bind Dh=.bad\/((top U a (evE Z U a)).bind λx=>(Ez x).bind λb=>.ok (.bl (!b))).bind Dh=_
   cases top U a (evE Z U a) with
   |bad=>exact .inl rfl
   |exn x=>exact .inr rfl
   |ok d=>cases d<;>first|exact .inr rfl|exact .inl rfl
 .replace h:=Si h;obtain⟨o,ys,p,rfl,h⟩:=h;replace h:=į h;rcases h with h|h
  .replace h:=Gn h;obtain⟨h0,h⟩:=h;obtain rfl:=By h0;replace h:=tY h;obtain⟨es,rfl,h⟩:=h;simp only[Ap,Cz,ED]at h;exact(S.bs W T X _ _ _ v h.1 h.2).1.sb
  .replace h:=Gn h;obtain⟨h0,h⟩:=h;obtain rfl:=By h0;replace h:=bu h;obtain⟨es,rfl,h⟩:=h;simp only[Ap,Cz,ED]at h;exact(S.bs W T X _ _ _ v h.1 h.2).2.sb
 .replace h:=Sh h;obtain⟨w,os,ys,p,rfl,h⟩:=h;replace h:=(į h).imp_left į;rcases h with (h|h)|h
  .replace h:=tR h;obtain⟨op,a,b,rfl,h⟩:=h;replace h:=HY h;obtain⟨op',rfl,h⟩:=h;replace h:=HY h;obtain⟨y,rfl,h⟩:=h
   .simp only[Ap,Cz,AW]at h;obtain⟨⟨⟨rfl,h1⟩,h2⟩,h3⟩:=h;refine SB.ref (ub (Mx v.room.units _) (S.e W T X _ a v h2).st (S.e W T X _ b v h3).st h1) λU=>?_
    show ((top U a (evE Z U a)).bind λx=>(top U b (evE Z U b)).bind λy=>Ci op' x y).bind Dh=.bad\/((top U a (evE Z U a)).bind λx=>(top U b (evE Z U b)).bind λy=>Ci op' x y).bind Dh=_
    cases top U a (evE Z U a) with
    |bad=>exact .inl rfl
    |exn x=>exact .inr rfl
    |ok d=>
     cases top U b (evE Z U b) with
     |bad=>exact .inl rfl
     |exn x=>exact .inr rfl
     |ok d'=>
      dsimp only[R.bind];exact XE _ d d'
  .replace h:=tS h;obtain⟨Δ,Ϥ,a,b,c,rfl,h⟩:=h;replace h:=Lv h;obtain⟨o1,o2,rfl,h⟩:=h;replace h:=Lv h;obtain⟨y,z,rfl,h⟩:=h
   .simp only[Ap,Cz,AW]at h;obtain⟨⟨⟨⟨⟨rfl,rfl⟩,h1⟩,h2⟩,h3⟩,h4⟩:=h;refine SB.ref (sA v.room.units (S.e W T X _ a v h2).st (S.e W T X _ b v h3).st (S.e W T X _ c v h4).st h1) λU=>?_
    show ((top U a (evE Z U a)).bind λx=>(top U b (evE Z U b)).bind λy=>(Ci o1 x y).bind λz=>(Ez z).bind λk=>if k=Aa then (top U c (evE Z U c)).bind λu=>Ci o2 y u else .ok (.bl Ae)).bind Dh=.bad\/((top U a (evE Z U a)).bind λx=>(top U b (evE Z U b)).bind λy=>(Ci o1 x y).bind λz=>(Ez z).bind λk=>if k=Aa then (top U c (evE Z U c)).bind λu=>Ci o2 y u else .ok (.bl Ae)).bind Dh=_
    cases top U a (evE Z U a) with
    |bad=>exact .inl rfl
    |exn x=>exact .inr rfl
    |ok d=>
     cases top U b (evE Z U b) with
     |bad=>exact .inl rfl
     |exn x=>exact .inr rfl
     |ok d'=>
      dsimp only[R.bind];cases Ci o1 d d' with
      |bad=>exact .inl rfl
      |exn x=>exact .inr rfl
      |ok d3=>
       cases d3 with
       |bl k=>
        cases k with
        |false=>exact .inr rfl
        |true=>
         dsimp only[R.bind,Ez];rw[AC rfl,AC rfl];cases top U c (evE Z U c) with
         |bad=>exact .inl rfl
         |exn x=>exact .inr rfl
         |ok d4=>exact XE _ d' d4
       |_=>exact .inl rfl
  .replace h:=tT h;obtain⟨b,as,rfl,h⟩:=h;exact wX S v h
 .exact plain _ (Gn h).1 (Gn h).2
end
section
variable{Z:Z2}{CL:ClA}{W:XW}{k n:Ag}{T:Tc}{X:Cx}
theorem kZ{x:Aq}(v:VX Z CL k W T X)(hb:Uk b=Ab g)(hg:Û T g=Aa)(hs:τ X CL W (x::xs) (λU=>Ϭ Z U as))(h0:Ef x=Aa)(è:∀ pos,(C8 pos (AN xs X.env)).any (·.1)=Ae):ώ Z CL W X (.Call (.Name g p) (x::xs) [] pos) (.bi b as):=by
 obtain⟨g1,g2,g3,g4⟩:=HC v hg;cases b<;>simp only[Uk]at hb<;>cases hb
 .exact Fk (Px zr g1 g2 PySem.boot_len hs g3 g4 (DN h0) è) (λ_ _=>rfl) rfl rfl
 .exact Pp (n6 j7 g1 g2 GH hs g3 g4 (DN h0) è) (λ_ _=>rfl) rfl
 .exact Fk (m7 vR g1 g2 Gv hs g3 g4 (DN h0) è) (λ_ _=>rfl) rfl rfl
 .exact Fk (Px (zw v.calm) g1 g2 PyProof.Rows.boot_all hs g3 g4 (DN h0) è) (λ_ _=>rfl) rfl rfl
 .exact Fk (Px (zt v.calm) g1 g2 PyProof.Rows.boot_any hs g3 g4 (DN h0) è) (λ_ _=>rfl) rfl rfl
 .exact Fk (Px (ya v.calm) g1 g2 PyProof.Rows.boot_sum hs g3 g4 (DN h0) è) (λ_ _=>rfl) rfl rfl
 .exact Pp (n8 rM g1 g2 PyProof.Rows.boot_sorted hs g3 g4 (DN h0) è) (λ_ _=>rfl) rfl
theorem RM{x:Aq}(h:ld n T (x::xs) es=Aa):Ef x=Aa/\∃ e Ê,es=.cons e Ê/\∃ m,n=m+1/\ld m T xs Ê=Aa:=by
 cases n with
 |zero=>exact Id h
 |succ m=>
  cases es with
  |nil=>exact Id h
  |cons e es=>
   replace h:(Ef x&&BM m T x e&&ld m T xs es)=Aa:=h;simp only[Ap]at h;exact⟨h.1.1,e,es,rfl,m,rfl,h.2⟩
theorem VC:∀(m:Ag)(xs:Ac Aq)(es:Es),ld m T xs es=Aa->∀ pos,(C8 pos (AN xs X.env)).any (·.1)=Ae:=by
 intro m
 induction m with
 |zero=>intro xs es h;exact Id h
 |succ m ih=>
  intro xs es h pos;cases xs with
  |nil=>rfl
  |cons x xs=>
   obtain⟨h0,e,Ê,rfl,m',e1,h1⟩:=RM h;cases e1;exact Vj h0 (ih xs Ê h1 pos)
theorem ue(S:ϩ Z CL k n){x:Aq}{b:BI}(v:VX Z CL k W T X)(h:(match Oh as with|some a=>(match KZ x with|some (g,h,y)=>decide (b=.rvs)&&g==("list" : An)&&h==("reversed" : An)&&Û T g&&Û T h&&Ef y&&BM n T y a|none=>Ae)|none=>Ae)=Aa):ώ Z CL W X x (.bi b as):=by
 cases q1:Oh as with
 |none=>rw[q1]at h;cases h
 |some a=>
  cases q2:KZ x with
  |none=>rw[q1,q2]at h;cases h
  |some t2=>
   obtain⟨g,f,y⟩:=t2;rw[q1,q2]at h;simp only[Ap,Cb,AW]at h;obtain⟨⟨⟨⟨⟨⟨rfl,rfl⟩,rfl⟩,h1⟩,h2⟩,h3⟩,h4⟩:=h;obtain⟨p,p',pos,pos',rfl⟩:=XN q2;rw[je q1];obtain⟨g1,g2,_,_⟩:=HC v h1;obtain⟨g3,g4,_,_⟩:=HC v h2;refine Fk (SE.congr (ku (S.e W T X _ a v h4).st v.calm g1 g2 g3 g4 (by rw[DN h3];rfl)) λU=>?_) (λ_ _=>rfl) rfl rfl
   simp only[YR,Ϭ,R.bind_assoc,R.bind_ok]
theorem pq(S:ϩ Z CL k n){x:Aq}{b:BI}(v:VX Z CL k W T X)(h:(match UE as with|some (a,c)=>(match UU x with|some (y,z,_)=>decide (b=.tlt) && !behindInMarks .Lt z&&BM n T y a&&BM n T z c|none=>Ae)|none=>Ae)=Aa):ώ Z CL W X x (.bi b as):=by
 simp[UE]at h
theorem yr{x:Aq}(v:VX Z CL k W T X)(h:US T x b as=Aa):ώ Z CL W X x (.bi b as):=by
 exact absurd h AX
theorem qc(S:ϩ Z CL k n){x:Aq}{b:BI}(v:VX Z CL k W T X)(h:(match UF as with|some (a,k)=>(match U_1 x with|some (y,j)=>decide (b=.stp)&&decide (j=k)&&decide (0<=k)&&BM n T y a|none=>Ae)|none=>Ae)=Aa):ώ Z CL W X x (.bi b as):=by
 simp[UF]at h
theorem wl(S:ϩ Z CL k n){x:Aq}{b:BI}(v:VX Z CL k W T X)(h:(match UG as with|some (a,c)=>(match Vb x with|some (g,h,y,z)=>decide (b=.list)&&g==("list" : An)&&h==("range" : An)&&Û T g&&Û T h&&Ef y&&Ef z&&BM n T y a&&BM n T z c|none=>Ae)|none=>Ae)=Aa):ώ Z CL W X x (.bi b as):=by
 simp[UG]at h
theorem ae(S:ϩ Z CL k n){x:Aq}{b:BI}(v:VX Z CL k W T X)(h:(match N5 as with|some a=>(match KZ x with|some (g,h,y)=>decide (b=.lset)&&g==("len" : An)&&h==("set" : An)&&Û T g&&Û T h&&Ef y&&BM n T y a|none=>Ae)|none=>Ae)=Aa):ώ Z CL W X x (.bi b as):=by
 cases q1:N5 as with
 |none=>rw[q1]at h;cases h
 |some a=>
  cases q2:KZ x with
  |none=>rw[q1,q2]at h;cases h
  |some t2=>
   obtain⟨g,f,y⟩:=t2;rw[q1,q2]at h;simp only[Ap,Cb,AW]at h;obtain⟨⟨⟨⟨⟨⟨rfl,rfl⟩,rfl⟩,h1⟩,h2⟩,h3⟩,h4⟩:=h;obtain⟨p,p',pos,pos',rfl⟩:=XN q2;have e:=vU q1;subst e;obtain⟨g1,g2,_,_⟩:=HC v h1;obtain⟨g3,g4,_,_⟩:=HC v h2;refine Fk (SE.congr (yX (S.e W T X _ a v h4).st v.room.units v.calm g1 g2 g3 g4 (by rw[DN h3];rfl)) λU=>?_) (λ_ _=>rfl) rfl rfl
   simp only[YR,Ϭ,R.bind_assoc,R.bind_ok]
theorem ZzT(S:ϩ Z CL k n)(W:XW)(T:Tc)(X:Cx)(x:Aq)(c:E)(v:VX Z CL k W T X)(h:BM (n+1) T x c=Aa):ώ Z CL W X x c:=by
 cases c with
 |O=>
  replace h:=O0 h;obtain⟨c,u,p,rfl,h⟩:=h;obtain rfl:=By h;exact Fk oi (λ_ _=>rfl) rfl rfl
 |bl b=>
  replace h:=O0 h;obtain⟨c,u,p,rfl,h⟩:=h;obtain rfl:=By h;exact Fk iI (λ_ _=>rfl) rfl rfl
 |int i=>
  replace h:=O0 h;obtain⟨c,u,p,rfl,h⟩:=h;obtain rfl:=By h;exact Fk lg (λ_ _=>rfl) rfl rfl
 |str i=>
  replace h:=O0 h;obtain⟨c,u,p,rfl,h⟩:=h;obtain rfl:=By h;exact Fk og (λ_ _=>rfl) rfl rfl
 |v i=>
  replace h:=J4 h;obtain⟨y,p,rfl,h⟩:=h;exact⟨o8 (ME v h),mh (ME v h),λz=>(nomatch z),λz=>(nomatch z)⟩
 |glob g=>exact absurd (show Ae=Aa from h) AX
 |B op a b=>
  replace h:=tU h;obtain⟨y,op',z,p,rfl,h⟩:=h;simp only[Ap,AW]at h;obtain⟨⟨rfl,h1⟩,h2⟩:=h;have ha:=(S.e W T X _ a v h1).st;have hb:=(S.e W T X _ b v h2).st;refine⟨Yp (W4 _) ha hb,(Yp (W4 _) ha hb).st,λz=>?_,λz=>nomatch z⟩
  cases op'<;>first|exact n9 ha hb|cases z
 |un op a=>
  replace h:=SZ h;obtain⟨o,y,p,rfl,h⟩:=h;replace h:=Gn h;obtain⟨h0,h⟩:=h;obtain rfl:=By h0;simp only[Ap,AW]at h;obtain⟨rfl,h1⟩:=h;exact Fk (om (S.e W T X _ a v h1).st) (λ_ _=>rfl) rfl rfl
 |no a=>
  replace h:=SZ h;obtain⟨o,y,p,rfl,h⟩:=h;replace h:=Gn h;obtain⟨h0,h⟩:=h;obtain rfl:=By h0;exact Fk (oh (S.e W T X _ a v h).st) (λ_ _=>rfl) rfl rfl
 |and es=>
  replace h:=Si h;obtain⟨o,ys,p,rfl,h⟩:=h;replace h:=Gn h;obtain⟨h0,h⟩:=h;obtain rfl:=By h0;simp only[Ap,Cz,ED]at h;exact Fk ((S.es W T X _ es v h.1).2.2.2.1 _ h.2).1 (λ_ _=>rfl) rfl rfl
 |or es=>
  replace h:=Si h;obtain⟨o,ys,p,rfl,h⟩:=h;replace h:=Gn h;obtain⟨h0,h⟩:=h;obtain rfl:=By h0;simp only[Ap,Cz,ED]at h;exact Fk ((S.es W T X _ es v h.1).2.2.2.1 _ h.2).2 (λ_ _=>rfl) rfl rfl
 |cmp op a b=>
  replace h:=Sh h;obtain⟨y,os,ys,p,rfl,h⟩:=h;replace h:=HY h;obtain⟨op',rfl,h⟩:=h;replace h:=HY h;obtain⟨z,rfl,h⟩:=h;simp only[Ap,Cz,AW]at h;obtain⟨⟨⟨rfl,h1⟩,h2⟩,h3⟩:=h;exact Fk (m6 (Mx v.room.units _) (S.e W T X _ a v h2).st (S.e W T X _ b v h3).st h1) (λ_ _=>rfl) rfl rfl
 |cmp2 Δ Ϥ a b c=>
  replace h:=Sh h;obtain⟨y,os,ys,p,rfl,h⟩:=h;replace h:=Lv h;obtain⟨o1,o2,rfl,h⟩:=h;replace h:=Lv h;obtain⟨z,w,rfl,h⟩:=h;simp only[Ap,Cz,AW]at h;obtain⟨⟨⟨⟨⟨rfl,rfl⟩,h1⟩,h2⟩,h3⟩,h4⟩:=h;exact Fk (rZ v.room.units (S.e W T X _ a v h2).st (S.e W T X _ b v h3).st (S.e W T X _ c v h4).st h1) (λ_ _=>rfl) rfl rfl
 |ite c a b=>exact absurd (show Ae=Aa from h) AX
 |call f as=>
  replace h:=V6 h;obtain⟨g,pp,y,ys,qq,rfl,h⟩:=h;simp only[Ap,EO,Cb,AW]at h;obtain⟨⟨⟨⟨⟨p,hp,⟨rfl,rfl⟩,hl⟩,h900⟩,h1⟩,h2⟩,h3⟩:=h;obtain⟨fa,fd,ps,m1,m2,m3,m4,m5,_⟩:=v.fn p hp;have ô:p.2.2<1000:=by omega
  rw[Nat.mod_eq_of_lt ô]at m4 m5;have m5:=m5 ô;obtain⟨n2,n3,n4⟩:=S9 h2;obtain⟨a1,a2,a3,a4,a5⟩:=S.es W T X _ as v h3;obtain⟨s0,e,Ê,rfl,m,rfl,s1⟩:=RM h3;have q:SC X CL W (Z.fr p.2.1) (.Call (.Name p.1 pp) (y::ys) [] qq) (λU=>evE Z U (.call p.2.1 (.cons e Ê))):=zA (sh:=λU=>K1 U (.cons e Ê)) m5 v.room (by unfold glB at h1;show X.env.scope.names.lookup p.1=_;rw[v.sc];exact eq_of_beq h1) m1 m2 m3 v.px a1 a2 (λU z=>YS Z U _ z) (λU ds z=>by rw[Xv Z U _ _ z,<-a3,hl];rfl) n2 (DN s0) (VC m ys Ê s1)
  exact⟨q.se,q.se.st,λz=>by
   have z':Z.fr p.2.1=Aa:=z;rw[z']at q;exact q,λz=>nomatch z⟩
 |bi b as=>
  unfold BM at h;dsimp only at h;simp only[DH]at h;rcases h with (((((h|h)|h)|h)|h)|h)|h
  .replace h:=V6 h;obtain⟨g,pp,y,ys,qq,rfl,h⟩:=h;simp only[Ap,Cb]at h;obtain⟨⟨h1,h2⟩,h3⟩:=h;obtain⟨s0,e,Ê,rfl,m,rfl,s1⟩:=RM h3;exact kZ v h1 h2 (S.es W T X _ _ v h3).2.1 s0 (VC m _ Ê s1)
  .exact yr v h
  .exact wl S v h
  .exact qc S v h
  .exact ae S v h
  .exact pq S v h
  .exact ue S v h
 |isi a ks=>
  replace h:=HY h;obtain⟨k',rfl,h⟩:=h;replace h:=Mq h;obtain⟨g,pp,l,qq,rfl,h⟩:=h;replace h:=Lv h;obtain⟨y,t,rfl,h⟩:=h;replace h:=J4 h;obtain⟨t,pt,rfl,h⟩:=h;simp only[Ap,Cb]at h;obtain⟨⟨⟨⟨⟨rfl,h1⟩,h2⟩,h3⟩,h4⟩,h5⟩:=h;obtain⟨g1,g2,_,_⟩:=HC v h1;obtain⟨b1,b2,b3,b4⟩:=HC v h3;obtain⟨ty,t1,t2⟩:=kW h2;exact Fk (kw t1 g1 g2 b1 b2 t2 b3 b4 (S.e W T X _ a v h5).st (DN h4)) (λ_ _=>rfl) rfl rfl
 |x a i=>
  replace h:=Sg h;obtain⟨y,z,p,rfl,h⟩:=h;simp only[Ap]at h;obtain⟨⟨h1,h2⟩,h3⟩:=h;exact Fk (lh (tE h1) (S.e W T X _ a v h2).st (S.e W T X _ i v h3).st) (λ_ _=>rfl) rfl rfl
 |sl a lo hi=>
  replace h:=Sg h;obtain⟨y,s,p,rfl,h⟩:=h;replace h:=vB h;obtain⟨l,u,st,p',rfl,h⟩:=h;replace h:=Gn h;obtain⟨h0,h⟩:=h;obtain rfl:=Option.isNone_iff_eq_none.mp h0;simp only[Ap]at h;obtain⟨⟨h1,h2⟩,h3⟩:=h;refine Pp (SC.congr (ZzY (S.e W T X _ a v h1).st (S.o W T X _ lo v h2) (S.o W T X _ hi v h3)) λU=>?_) (λ_ _=>rfl) rfl
  show ((top U a (evE Z U a)).bind λx=>(top U lo (evE Z U lo)).bind λl=>(slE lo l).bind λl'=>(top U hi (evE Z U hi)).bind λh=>(slE hi h).bind λh'=>Ý x l' h')=_
  simp only[R.bind_assoc]
 |H es=>
  replace h:=OZ h;obtain⟨ys,cc,p,rfl,h⟩:=h;simp only[Ap,AW]at h;have q:=S.es W T X _ es v h.1;exact Fk (o9 q.1 λU ds z=>by rw[Tl Z U _ _ z,<-q.2.2.1];omega) (λ_ _=>rfl) rfl rfl
 |L es=>
  replace h:=tP h;obtain⟨ys,p,rfl,h⟩:=h;simp only[Ap,AW]at h;have q:=S.es W T X _ es v h.1;exact Pp (n5 q.1 λU ds z=>by rw[Tl Z U _ _ z,<-q.2.2.1];omega) (λ_ _=>rfl) rfl
 |comp elt t it c=>
  replace h:=XJ (e:=x) (F:=_) (by unfold BM at h;exact h)
  obtain⟨y,tg,it',ifs,scope,p,rfl,h⟩:=h;replace h:=J4 h;obtain⟨w,pw,rfl,h⟩:=h;simp only[Ap]at h;obtain⟨⟨⟨⟨⟨h1,h2⟩,h3⟩,h4⟩,h5⟩,h6⟩:=h;refine Ze v.calm ⟨_,_,_,_,_,_,_,_,_,_,_,_,_,rfl,(TV v h3).1,S.i W T X Ae _ _ it v rfl h1,zU t,λcl C s H fp=>wY (v.blk h3) (λz=>Cb.mpr z) h4,λcl C s H fp=>S.t _ _ _ c (v.blk h3) h5,λcl C s H fp=>(S.e W0 _ _ _ elt (v.blk h3) h6).se,Pw h2,λU=>rfl⟩ (λ_ _=>rfl)
 |compT elt ts it c=>
  replace h:=XJ (e:=x) (F:=_) (by unfold BM at h;exact h)
  obtain⟨y,tg,it',ifs,scope,p,rfl,h⟩:=h;replace h:=OZ h;obtain⟨ys,cc,pw,rfl,h⟩:=h;simp only[Ap]at h;obtain⟨⟨⟨⟨⟨⟨h0,h1⟩,h2⟩,h3⟩,h4⟩,h5⟩,h6⟩:=h;refine Ze v.calm ⟨_,_,_,_,_,_,_,_,_,_,_,_,_,rfl,(TV v h3).1,S.i W T X Aa _ _ it v rfl h1,zj ts,λcl C s H fp=>wB (v.blk h3) h0 h4,λcl C s H fp=>S.t _ _ _ c (v.blk h3) h5,λcl C s H fp=>(S.e W0 _ _ _ elt (v.blk h3) h6).se,Pw h2,λU=>rfl⟩ (λ_ _=>rfl)
 |tupI it=>
  cases it with
  |zip3 a b c=>
   unfold BM at h;dsimp only at h;cases q:Ql x with
   |none=>rw[q]at h;cases h
   |some t=>
    obtain⟨g,f,y1,y2,y3⟩:=t;rw[q]at h;simp only[Ap,Cb]at h;obtain⟨⟨⟨⟨⟨⟨⟨⟨⟨rfl,rfl⟩,h1⟩,h2⟩,h3⟩,h4⟩,h5⟩,h6⟩,h7⟩,h8⟩:=h;obtain⟨p,p',pos,pos',rfl⟩:=j6 q;obtain⟨g1,g2,_,_⟩:=HC v h1;obtain⟨g3,g4,_,_⟩:=HC v h2;exact Fk (lj (S.e W T X _ a v h6).se (S.e W T X _ b v h7).se (S.e W T X _ c v h8).se v.calm g1 g2 g3 g4 (by rw[DN h3,DN h4,DN h5];rfl) (by rw[DN h4,DN h5];rfl) (by rw[DN h5];rfl)) (λ_ _=>rfl) rfl rfl
  |_=>exact Id h
 |dnew=>exact Id h
 |fld o f=>exact Id h
theorem ţ:∀ n,ϩ Z CL k n
 |0=>tD
 |n+1=>⟨ZzT (ţ n),ZzU (ţ n),qf (ţ n),qe (ţ n),ZzR (ţ n),ZzP (ţ n),ZzS (ţ n)⟩
end
section
variable{n:Ag}
theorem wZ(v:VX Z CL k W T X)(hf:∀ x,X.fn x=Aa)(h:Ž T [t] [x]=Aa):PG X (.Name x pos) (Gm t):=by
 unfold Ž at h;simp only[Ap,Cb]at h;exact NG (by rw[v.N];exact v.nd) (by rw[v.N];exact h.1.1) (by rw[v.sc];exact Tf h.1.2) (.inl (hf x))
theorem wA(v:VX Z CL k W T X)(hf:∀ x,X.fn x=Aa):∀(ys:Ac Aq)(ts:Ac Ag)(zs:Ac An),GC ys=Ab zs->Ž T ts zs=Aa->Ġ X ys (ts.foldr (λt u=>Jv (Gm t) u) Jz)/\ts.length=ys.length:=by
 intro ys
 induction ys with
 |nil=>
  intro ts zs e h;cases e;cases ts with
  |nil=>exact⟨W1,rfl⟩
  |cons t ts=>cases h
 |cons y r ih=>
  intro ts zs e h;obtain⟨x,p,ws,rfl,e2,rfl⟩:=Rw e;cases ts with
  |nil=>cases h
  |cons t ts=>
   have h':(T.N[t]? == Ab x&&M7 T x&&Ž T ts ws)=Aa:=h;simp only[Ap,Cb]at h';obtain⟨h1,h2⟩:=ih ts ws e2 h'.2;exact⟨Wi (NG (by rw[v.N];exact v.nd) (by rw[v.N];exact h'.1.1) (by rw[v.sc];exact Tf h'.1.2) (.inl (hf x))) h1 (by rw[R5];rfl),congrArg (· + 1) h2⟩
theorem Xm(v:VX Z CL k W T X)(hf:∀ x,X.fn x=Aa)(hn:(GC ys).isSome=Aa)(h:Ž T ts (ϖ ys)=Aa):PG X (.Tuple ys kk pos) (Na X.K ts.length (ts.foldr (λt u=>Jv (Gm t) u) Jz)):=by
 cases e:GC ys with
 |none=>rw[e]at hn;cases hn
 |some zs=>
  have e2:ϖ ys=zs:=by unfold ϖ;rw[e];rfl
  rw[e2]at h;obtain⟨h1,h2⟩:=wA v hf ys ts zs e h;obtain⟨h3,h4,_⟩:=Vf (env:=X.env) ys zs e;exact Yy v.calm h1 (by rw[h3,h2]) h4
theorem oz(h:(Zf e||EM 4 ys.length)=Aa):GN [.Tuple ys kk pos] e env=pure Af:=by
 cases e with
 |Tuple vs a b=>
  have h4:=Et (show EM 4 ys.length=Aa from h)
  have e2:(ys.length==2)=Ae:=by rw[DJ];omega
  have e3:(ys.length==3)=Ae:=by rw[DJ];omega
  unfold GN;dsimp only;rw[e2,e3];rfl
 |_=>rfl
theorem VE(ts:Ac Ag):∀ d U x,FH ts d U≠.exn x:=λd U x h=>by
 unfold FH at h;cases d with
 |H xs=>
  dsimp only at h;cases e:F4 ts xs U with
  |some r=>rw[e]at h;cases h
  |none=>rw[e]at h;cases h
 |_=>cases h
theorem tF(ts:Ac Ag):∀ d U x,LK ts d U≠.exn x:=λd U x h=>VE ts d U x h
theorem sY:∃ b,EL (.ListComp elt gs scope pos) (Ab (.Name x pos')) l env=pure b/\(b=Aa->env.scope.names.lookup x=Ab .local):=by
 refine⟨_,rfl,λh=>?_⟩
 simp only[Ap,Cb]at h;exact h.1.1.2
theorem TB(v:VX Z CL k W T X)(hf:∀ x,X.fn x=Aa)(hi:T.N[i]?=Ab x)(hl:M7 T x=Aa)(o:ώ Z CL W X v0 e)(Ů:fr=Aa->Dy Z e=Aa):Ģ X CL W fr i (.Assign [.Name x p] v0 pos) (λU=>evE Z U e):=by
 have hN:X.N.Nodup:=by rw[v.N];exact v.nd
 have hi':X.N[i]?=Ab x:=by rw[v.N];exact hi
 have hx:ĺ X.env.scope x:=by rw[v.sc];exact Tf hl
 have sc:SC X CL W fr v0 (λU=>evE Z U e):=by
  cases fr with
  |false=>exact o.se.sc
  |true=>exact o.nw (Ů rfl)
 cases hc:MA v0 with
 |true=>exact SC.sas hN hi' hx sc (XB hc) (.inl (hf x))
 |false=>
  obtain⟨tg,iter,elt,ifs,scope,pos2,N',ts,fi,fc,fe,as,g,rfl,B,h2,χ,hg,ht,he,hs,ef⟩:=o.cp hc;obtain⟨b,hb,Ϟ⟩:=sY (elt:=elt) (gs:=[⟨tg,iter,ifs,0⟩]) (scope:=scope) (pos:=pos2) (pos':=p) (x:=x) (l:=pos.line) (env:=X.env);cases b with
  |false=>exact SC.sas hN hi' hx sc hb (.inl (hf x))
  |true=>
   have q:=sD (pos2:=pos) v.calm B h2 χ hg ht he hs hN hi' (Ϟ rfl) hb;have q':Ģ X CL W Aa i (.Assign [.Name x p] (.ListComp elt [⟨tg,iter,ifs,0⟩] scope pos2) pos) (λU=>evE Z U e):=by
    have:(λU=>evE Z U e)=_:=funext ef
    rw[this];exact q
   cases fr with
   |true=>exact q'
   | false=>exact λA=>PS.weak (q' A) λD Y H ⟨hA,U,gd,z⟩=>⟨hA,U,gd,by
     dsimp only at z ⊢;cases e0:evE Z U e with
     |ok d=>
      rw[e0]at z;exact λv' H' s' r'=>z v' H' s' ⟨r'.1,λ_=>r'.2 rfl⟩
     |exn y=>rw[e0]at z;exact z
     | bad=>rw[e0]at z;exact z⟩
theorem W9(h:∀ x p,t≠.Name x p):HW [t] e l env=pure Ae:=by
 show EL e (Ab t) l env=pure Ae;cases e<;>first|rfl|(cases t<;>first|rfl|exact absurd rfl (h _ _))
theorem Wg(U:Rho)(e:E)(h:∀ i,e≠.v i):Ú Z U (.ret e)=O.of U (evE Z U e) λd=>.ret d (Dy Z e):=by
 have k:∀ b:Al,b=Ae->top U e (evE Z U e)=evE Z U e->(O.of U (top U e (evE Z U e)) λd=>.ret d (Dy Z e||b))=O.of U (evE Z U e) λd=>.ret d (Dy Z e):=λb hb ht=>by
  rw[hb,ht];simp only[FU]
 rw[i8];cases e with
 |v i=>exact absurd rfl (h i)
 |_=>exact k _ rfl rfl
structure ť (X:Cx):Prop where
 fn:∀ x,X.fn x=Aa
 ex:X.ex=[]
 st:X.stack=X.env::X.outer
 fm:X.env.frame=Ab X.env.locals
structure Ľ (Z:Z2) (CL:ClA) (k:Ag) (n:Ag):Prop where
 s:∀(W:XW)(T:Tc)(X:Cx)(x:BQ)(c:S),VX Z CL k W T X->ť X->Qv n T x c=Aa->SS X CL W x (λU=>Ú Z U c)
 ss:∀(W:XW)(T:Tc)(X:Cx)(x:Ac BQ)(c:Ss),VX Z CL k W T X->ť X->mN n T x c=Aa->ž X CL W x (λU=>Y4 Z U c)
theorem ZzQ(Z_:Ľ Z CL k n)(W:XW)(T:Tc)(X:Cx)(st:BQ)(c:S)(v:VX Z CL k W T X)(hf:ť X)(h:Qv (n+1) T st c=Aa):SS X CL W st (λU=>Ú Z U c):=by
  have E:=ţ (Z:=Z) (CL:=CL) (k:=k) n;cases c with
  |pass=>exact absurd (show Ae=Aa from h) AX
  |brk=>exact absurd (show Ae=Aa from h) AX
  |cont=>exact absurd (show Ae=Aa from h) AX
  |asg i fresh e=>
    replace h:=tX h;obtain⟨x,px,v0,pos,rfl,h⟩:=h;simp only[Ap,Cb]at h;obtain⟨⟨h1,h2⟩,h3⟩:=h;have o:=E.e W T X _ e v h3;cases fresh with
    |false=>exact Yn (TB (fr:=Ae) v hf.fn h1 h2 o (λz=>nomatch z))
    |true=>
      cases hn:Dy Z e with
      |true=>
        refine SS.ref (yP (TB (fr:=Aa) v hf.fn h1 h2 o (λ_=>hn))) λU=>.inr ?_
        show O.of U (evE Z U e) (λd=>if Aa=Aa then (if Dy Z e=Aa then (match d with
          |.L xs=>.next (U.set i (Ab (.L xs,Aa)))
          |.dic xs=>.next (U.set i (Ab (.dic xs,Aa)))
          | _=>.bad) else .bad) else .next (U.set i (Ab (d,Ae))))=_
        rw[hn];rfl
      |false=>
        refine SS.ref (Yn (TB (fr:=Ae) v hf.fn h1 h2 o (λz=>nomatch z))) λU=>?_
        have e0:Ú Z U (.asg i Aa e)=O.of U (evE Z U e) (λd=>if Aa=Aa then (if Dy Z e=Aa then (match d with
          |.L xs=>.next (U.set i (Ab (.L xs,Aa)))
          |.dic xs=>.next (U.set i (Ab (.dic xs,Aa)))
          | _=>.bad) else .bad) else .next (U.set i (Ab (d,Ae)))):=rfl
        rw[e0,hn];cases evE Z U e with
        |ok d=>exact .inl rfl
        |exn y=>exact .inr rfl
        |bad=>exact .inl rfl
  |asgT ts e=>
    replace h:=Sj h;obtain⟨t,v0,pos,rfl,h⟩:=h;replace h:=OZ h;obtain⟨ys,cc,pw,rfl,h⟩:=h;simp only[Ap]at h;obtain⟨⟨⟨h1,h2⟩,h3⟩,h5⟩:=h;exact yO (jU ts) (Xm v hf.fn h1 h2) (E.e W T X _ e v h5).se (W9 (λ_ _ z=>by cases z)) (oz h3) rfl (tF ts)
  |expr e=>
    replace h:=Wm h;obtain⟨v0,pos,rfl,h⟩:=h;simp only[Ap]at h;exact yN (E.e W T X _ e v h.2).se (XB h.1)
  |ret e=>
    replace h:=vC h;obtain⟨o,pos,rfl,h⟩:=h;cases o with
    |none=>exact Id h
    |some v0=>
    replace h:BM n T v0 e=Aa:=h;have o:=E.e W T X _ e v h;cases hv:Dy Z e with
    |true=>
      refine SS.ref (yM (o.nw hv)) λU=>.inr ?_
      rw[Wg U e (λi z=>by subst z;cases hv),hv]
    |false=>
      cases e with
      |v i=>
        cases n with
        |zero=>exact Id h
        |succ n=>
          replace h:=J4 h;obtain⟨y,py,rfl,h⟩:=h;exact yK (ME v h)
      |_=>
        refine SS.ref (yL o.se) λU=>.inr ?_
        rw[Wg U _ (by intro i z;cases z),hv]
  |retN=>exact absurd (show Ae=Aa from h) AX
  |ife c a b=>
    replace h:=ce h;obtain⟨t,xs,ys,pos,rfl,h⟩:=h;simp only[Ap]at h;exact ZzV (E.b W T X _ c v h.1.1) (Z_.ss W T X _ a v hf h.1.2) (Z_.ss W T X _ b v hf h.2)
  |fors t it body=>
    replace h:=Wl h;obtain⟨tg,it',xs,ys,pos,rfl,h⟩:=h;replace h:=Gn h;obtain⟨hn,h⟩:=h;obtain rfl:=MB hn;replace h:=J4 h;obtain⟨y,py,rfl,h⟩:=h;simp only[Ap]at h;obtain⟨⟨⟨h1,h2⟩,h3⟩,h4⟩:=h;exact Ym v.own v.calm (zS t) (wZ v hf.fn h1) (E.i W T X Ae _ _ it v rfl h3) (Z_.ss W T X _ body v hf h4) (Pw h2) (λ_ _ _ z=>nomatch z)
  |forT ts it body=>
    replace h:=Wl h;obtain⟨tg,it',xs,zs,pos,rfl,h⟩:=h;replace h:=Gn h;obtain⟨hn,h⟩:=h;obtain rfl:=MB hn;replace h:=OZ h;obtain⟨ys,cc,py,rfl,h⟩:=h;simp only[Ap]at h;obtain⟨⟨⟨⟨h0,h1⟩,h2⟩,h3⟩,h4⟩:=h;exact Ym v.own v.calm (YN ts) (Xm v hf.fn h0 h1) (E.i W T X Aa _ _ it v rfl h3) (Z_.ss W T X _ body v hf h4) (Pw h2) (VE ts)
  |whl c body=>exact absurd (show Ae=Aa from h) AX
  |rais c as=>
    replace h:(!(T.rzs.any λp=>p.2==c))=Aa:=h
    cases hc:T.rzs.any (λp=>p.2==c) with
    |false=>
      have hb:∀ ds,Z.xn c ds=.bad:=v.xt.xb c λp hp z=>by
        have:T.rzs.any (λp=>p.2==c)=Aa:=EO.mpr ⟨p,hp,Cb.mpr z⟩
        rw[hc]at this;cases this
      intro Fz B pI s Y H D I ⟨U,x,p⟩;have p':Dg X.K CL Fz B W (O.of U (ϣ (Ϲ Z U as)) λxs=>O.of U (Z.xn c xs) λx=>.exn x U) D:=p
      cases e1:Ϲ Z U as with
      |bad=>rw[e1]at p';exact p'.elim
      |exn y=>rw[e1]at p';exact p'.elim
      |ok ds=>
        rw[e1]at p';have p2:Dg X.K CL Fz B W (O.of U (Z.xn c ds) λx=>.exn x U) D:=p'
        rw[hb ds]at p2;exact p2.elim
    |true=>rw[hc]at h;cases h
  |app i e=>
    replace h:=Wk h;obtain⟨x,px,m,ap,l,cp,pos,rfl,h2,h⟩:=h;replace h:=HY h;obtain⟨v0,rfl,h⟩:=h;simp only[Ap,Cb]at h;obtain⟨⟨⟨rfl,h1⟩,h3⟩,h4⟩:=h;exact mw (ME v h1) (E.e W T X _ e v h4).se rfl (by rw[DN h3];rfl) (by rw[h2];exact GX _) (DN h3) rfl
  |ext i e=>
    replace h:=Wk h;obtain⟨x,px,m,ap,l,cp,pos,rfl,h2,h⟩:=h;replace h:=HY h;obtain⟨v0,rfl,h⟩:=h;simp only[Ap,Cb]at h;obtain⟨⟨⟨⟨rfl,h1⟩,h3⟩,h5⟩,h4⟩:=h;exact ms (ME v h1) ((E.e W T X _ e v h4).nw (zY Z h5)) rfl (by rw[DN h3];rfl) (by rw[h2];exact GX _) (DN h3) rfl
  |rev i=>exact absurd (show Ae=Aa from h) AX
  |clr i=>exact absurd (show Ae=Aa from h) AX
  |put i k e=>
    replace h:=Sj h;obtain⟨t,v0,pos,rfl,h⟩:=h;replace h:=Sg h;obtain⟨o,y,sp,rfl,h⟩:=h;replace h:=J4 h;obtain⟨x,p,rfl,h⟩:=h;simp only[Ap]at h;obtain⟨⟨⟨h1,h2⟩,h4⟩,h5⟩:=h;exact mo (ME v h1) (E.e W T X _ k v h4).st (E.e W T X _ e v h5).se (λw=>by cases y<;>first|rfl|cases h2) (W9 (λ_ _ z=>by cases z)) rfl rfl
  |tryx body c x hh=>exact absurd (show Ae=Aa from h) AX
  |try2 body c x hd c' hd' els=>exact absurd (show Ae=Aa from h) AX
  |swp i k l=>exact absurd (show Ae=Aa from h) AX
  |cpop t y k it e=>exact absurd (show Ae=Aa from h) AX
  |apop j i e=>exact absurd (show Ae=Aa from h) AX
  |ins i k e=>exact absurd (show Ae=Aa from h) AX
  |dput=>exact Id h
  |dsd=>exact Id h
  |rel=>exact Id h
theorem vT(h:Qw c=Aa)(U:Rho):Y4 Z U c=.bad:=by
 cases c with
 |nil=>cases h
 |cons s ss=>
  cases s with
  |expr e=>
   cases e with
   |bi b as=>
    cases as with
    |nil=>
     cases b with
     |len=>rfl
     |_=>exact Id h
    |cons=>cases b<;>exact Id h
   |_=>exact Id h
  |_=>exact Id h
theorem qd(Z_:Ľ Z CL k n)(W:XW)(T:Tc)(X:Cx)(xs:Ac BQ)(c:Ss)(v:VX Z CL k W T X)(hf:ť X)(h:mN (n+1) T xs c=Aa):ž X CL W xs (λU=>Y4 Z U c):=by
 by_cases hb:Qw c=Aa
 .exact λFz B pI s Y H D I ⟨U,x,p⟩=>by
   dsimp only at p;rw[vT hb]at p;exact p.elim
 have hb:Qw c=Ae:=by simpa using hb
 cases c with
 |nil=>
  simp only[mN,hb,FU,IC]at h;subst h;exact yJ
 |cons s ss=>
  by_cases hr:∃ i,s=.rel i
  .obtain⟨i,rfl⟩:=hr;simp only[mN,hb,FU]at h;exact wJ i (Z_.ss W T X xs ss v hf h)
  .cases xs with
   |nil=>cases s<;>first|(simp[mN,hb]at h;done)|exact absurd ⟨_,rfl⟩ hr
   |cons st r=>
    have h':Qv n T st s=Aa/\mN n T r ss=Aa:=by
     cases s<;>first|(simp only[mN,hb,FU,Ap]at h;exact h)|exact absurd ⟨_,rfl⟩ hr
    exact tB (Z_.s W T X st s v hf h'.1) (Z_.ss W T X r ss v hf h'.2)
theorem UJ:∀ n,Ľ Z CL k n
 |0=>⟨λ_ _ _ _ _ _ _ h=>Id h,λ_ _ _ _ _ _ _ h=>Id h⟩
 |n+1=>⟨ZzQ (UJ n),qd (UJ n)⟩
end
theorem Ny{n:Ag}{i:Ag}(h:(Bc n ds)[i]?=Ab (Ab (d,o))):o=Ae/\ds[i]?=Ab d:=by
 unfold Bc at h;by_cases hi:i<ds.length
 .rw[F7 (by simpa using hi),D7]at h
  cases e:ds[i]? with
  |none=>rw[e]at h;cases h
  |some x=>rw[e]at h;cases h;exact⟨rfl,rfl⟩
 .rw[Z_2 (by simpa using Nat.le_of_not_lt hi),Z_5]at h
  split at h<;>cases h
theorem qM{i:Ag}(h:vs[i]?=Ab v):(L2.start N vs)[i]?=Ab (Ab v):=by
 unfold L2.start;have hi:=(Br.mp h).1;rw[F7 (by simpa using hi),D7,h]
 rfl
theorem sX{n:Ag}(hn:N.length=n)(hA:we H A)(r:Z7 K CL H A vs ds):Sx K CL (λb o=>H b=Ab o) A (Bc n ds) (L2.start N vs) H:=by
 have own:∀ a,C9 A (Bc n ds) (L2.start N vs) a->A a:=λa h=>by
  rcases h with h|⟨j,d,h,_⟩
  .exact h
  .exact absurd (Ny h).1 (by decide)
 have IO:(Bc n ds).length=(L2.start N vs).length:=by
  unfold Bc L2.start;simp only[BE,AG,Z_8,r.length,hn]
 refine⟨⟨λi d h=>?_,λi d h=>absurd (Ny h).1 (by decide),IO⟩,λa h=>hA a (own a h),λj d a h _=>absurd (Ny h).1 (by decide),λi j d e a h _ _ _=>absurd (Ny h).1 (by decide),λb o h=>h,IO⟩
 obtain⟨v,h1,h2⟩:=r.get (Ny h).2;exact⟨v,qM h1,U8.sub own _ h2⟩
structure Ŧ (K:Fg) (x qual:An) (st:BQ) (f:Am) (fd:CY):Prop where
 ex:∃(oc:Aj)(od:As Am)(dV kV doc pm:Aj)(an:As Am)(cdv ct:Aj)(osl:AO (As Aj)),
  fd=Ej x qual (LB st) (IU st) (Hl st) dV kV doc pm an cdv ct/\K.lookup f=Ab ⟨oc,od,.func fd,osl⟩/\Gp K cdv qual=Aa
 kp:DY K (.ref f)=Aa
theorem Zx{st:BQ}(F:ķ K x qual st f fd):Ŧ K x qual st f fd:=by
 obtain⟨oc,od,kV,doc,pm,an,cdv,ct,osl,e,lk,ϒ⟩:=F.ex;exact⟨⟨oc,od,.none,kV,doc,pm,an,cdv,ct,osl,e,lk,ϒ⟩,F.kp⟩
def MZ(K:Fg)(mg:An->As Aj)(fns:Ac (An×Ag×Ag))(bl:Ac An)(rzs exs gls:Ac (An×Ag))(Pg:Prg)(fuel:Ag)(p:An×Ag×Ag):Prop:=∃ f fd ps qual st N,mg p.1=Ab (.ref f)/\Ŧ K p.1 qual st f fd/\Jp K fd ps []/\ps.length=p.2.2%1000/\IZ fuel (EM 1000 p.2.2) fns bl rzs exs gls ps N st (Pg.defs p.2.1)=Aa
structure Tab (K:Fg) (mg:An->As Aj) (CL:ClA) (fns:Ac (An×Ag×Ag)) (bl:Ac An) (rzs exs gls:Ac (An×Ag)) (Pg:Prg) (fuel:Ag):Prop where
 xt:XT Pg.up Pg.xn CL rzs exs K mg
 bln:∀ x,x∈bl->mg x=Af
 gl:∀ p∈gls,QP K mg CL p.1 (Pg.G p.2)
 fn:∀ p∈fns,MZ K mg fns bl rzs exs gls Pg fuel p
theorem zm(Pg:Prg)(n i:Ag):(Y5 Pg n).fr i=(Pg.defs i).fr:=by cases n<;>rfl
theorem zl(Pg:Prg)(n:Ag):(Y5 Pg n).up=Pg.up:=by cases n<;>rfl
theorem jE(Pg:Prg)(n:Ag):(Y5 Pg n).G=Pg.G:=by cases n<;>rfl
theorem zk(Pg:Prg)(n:Ag):(Y5 Pg n).xn=Pg.xn:=by cases n<;>rfl
section
variable{K:Fg}{mg:An->As Aj}{fns:Ac (An×Ag×Ag)}{bl:Ac An}{rzs exs gls:Ac (An×Ag)}{Pg:Prg}{fuel:Ag}
def Lvl(P:A6)(w:AM)(K:Fg)(mg:An->As Aj)(base:AS)(CL:ClA)(Pg:Prg)(n:Ag)(p:An×Ag×Ag):Prop:=∃ f fd ps,mg p.1=Ab (.ref f)/\DY K (.ref f)=Aa/\Jp K fd ps []/\ps.length=p.2.2%1000/\(p.2.2<1000->û P w K mg base (CXR P w) n f fd ps (spD K CL (p.2.2%1000) ((Y5 Pg n).fr p.2.1) ((Y5 Pg n).F p.2.1)))/\(1000<=p.2.2->Ι P w K mg base n f fd ps (spH K CL (p.2.2%1000) ((Y5 Pg n).fr p.2.1) ((Y5 Pg n).F p.2.1)))
theorem YY(t:Tab K mg CL fns bl rzs exs gls Pg fuel){n:Ag}(hlv:∀ q∈fns,Lvl P w K mg base CL Pg n q){st:BQ}{id:Ag}(h2:Ŧ K x qual st f fd)(h4:ps.length=m)(h5:IZ fuel Ae fns bl rzs exs gls ps N st (Pg.defs id)=Aa):û P w K mg base (CXR P w) (n+1) f fd ps (spD K CL m ((Y5 Pg (n+1)).fr id) ((Y5 Pg (n+1)).F id)):=by
  unfold IZ at h5;simp only[Ap,Cb,Cz,DT,DH,L6,ne_eq]at h5;obtain⟨⟨⟨⟨⟨⟨⟨⟨c1,c2⟩,c3⟩,c4⟩,c5⟩,c6⟩,c7⟩,c8⟩,c9⟩:=h5;obtain⟨oc,od,dV,kV,doc,pm,an,cdv,ct,osl,rfl,lk,ϒ⟩:=h2.ex;refine Zp (N:=N) lk ϒ ⟨c1,c2,c3,O4 c4,c5,c6,c7⟩ (λvs H Q E ⟨ds,A,z,_⟩=>z.trans h4.symm) λA outer s H vs Q E hr ⟨ds,B,hl,hA,Ą,LE⟩=>?_
  have xt:XT (Y5 Pg n).up (Y5 Pg n).xn CL rzs exs K mg:=by rw[zl,zk];exact t.xt
  have gl:∀ p∈gls,QP K mg CL p.1 ((Y5 Pg n).G p.2):=by rw[jE];exact t.gl
  have key:∀ W:XW,(∀ x cls dx H',W x H'->Jx K CL H' cls dx x->E cls dx H')->Dg K CL (λb o=>H b=Ab o) B W (Y4 (Y5 Pg n) (Bc (Pg.defs id).n ds) (Pg.defs id).body) {nx:=λ_ H'=>Q .O H',rt:=Q} ->
      ∃ t,È (HG (CXR P w) P w K mg base N qual (Hl st) f cdv A outer s H E) (IU st) t/\t {nx:=λ_ H'=>Q .O H',rt:=Q} (start N vs) H:=λW hW hp=>by
    have v:VX (Y5 Pg n) CL n W ⟨Hl st,N,fns,bl,rzs,exs,gls⟩ (HG (CXR P w) P w K mg base N qual (Hl st) f cdv A outer s H E):=⟨rfl,c1,rfl,O4 c4,rfl,hr,t.bln,hlv,ď,jZ hW,rzR hW,xt,gl⟩;exact⟨_,(UJ fuel).ss W _ _ _ (Pg.defs id).body v ⟨λ_=>rfl,rfl,rfl,rfl⟩ c9 (λb o=>H b=Ab o) B,_,sX c8 hA Ą,hp⟩
  have no:∀ x cls dx H',W0 x H'->Jx K CL H' cls dx x->E cls dx H':=λ_ _ _ _ z=>z.elim
  have e:(Y5 Pg (n+1)).F id ds=K6 Pg.xs ((Y4 (Y5 Pg n) (Bc (Pg.defs id).n ds) (Pg.defs id).body).ans (Pg.defs id).fr):=rfl;rw[e,zm]at LE;have ϫ:∀ r:R D,(∀ x,r≠.exn x)->K6 Pg.xs r=r:=λr hr=>by
    cases Pg.xs<;>cases r<;>first|rfl|exact absurd rfl (hr _)
  cases eo:Y4 (Y5 Pg n) (Bc (Pg.defs id).n ds) (Pg.defs id).body with
  |next U'=>
    refine key W0 no ?_;rw[eo]at LE ⊢;cases ef:(Pg.defs id).fr with
    |true=>rw[ef]at LE;rw[ϫ _ (by intro x z;cases z)]at LE;exact LE.elim
    |false=>
      rw[ef]at LE;rw[ϫ _ (by intro x z;cases z)]at LE
      exact λY' H' x'=>LE .O H' (λb o z=>x'.same b o z) ⟨rfl,λz=>nomatch z⟩
  |ret d b=>
    refine key W0 no ?_;rw[eo]at LE ⊢;intro v H' sm rp fr;have Ö:(match K6 Pg.xs (if ((Pg.defs id).fr&&(!b&&Ŵ d))=Aa then R.bad else R.ok d) with
      |.ok d=>∀ v H',A1 H H'->Fn K CL (Pg.defs id).fr H B H' v d->Q v H'
      |.exn x=>∀ cls dx H',A1 H H'->Jx K CL H' cls dx x->E cls dx H'
      | .bad=>BV):=LE
    cases ec:((Pg.defs id).fr&&(!b&&Ŵ d)) with
    |true=>rw[ec,AC rfl,ϫ _ (by intro x z;cases z)]at Ö;exact Ö.elim
    |false=>
      rw[ec,AH (by decide),ϫ _ (by intro x z;cases z)]at Ö
      refine Ö v H' sm ⟨rp,λefr es hd=>?_⟩
      subst hd;have eb:b=Aa:=by
        cases b with
        |true=>rfl
        |false=>rw[efr]at ec;cases ec
      obtain⟨a,xs,h1,h2,h3,h4⟩:=fr eb es rfl;refine⟨a,xs,h1,?_,h3,h4⟩;cases ha:H a with
      |none=>rfl
      |some o=>exact absurd ha (h2 o)
  |brk U'=>rw[eo]at LE;have Ö:(match K6 Pg.xs (R.bad:R D) with | .ok _=>_ | .exn _=>_ | .bad=>BV):=LE;rw[ϫ _ (by intro x z;cases z)]at Ö;exact Ö.elim
  |cont U'=>rw[eo]at LE;have Ö:(match K6 Pg.xs (R.bad:R D) with | .ok _=>_ | .exn _=>_ | .bad=>BV):=LE;rw[ϫ _ (by intro x z;cases z)]at Ö;exact Ö.elim
  |bad=>rw[eo]at LE;have Ö:(match K6 Pg.xs (R.bad:R D) with | .ok _=>_ | .exn _=>_ | .bad=>BV):=LE;rw[ϫ _ (by intro x z;cases z)]at Ö;exact Ö.elim
  |exn x U'=>
    rw[eo]at LE;have Ö:(match K6 Pg.xs (R.exn x:R D) with
      |.ok d=>∀ v H',A1 H H'->Fn K CL (Pg.defs id).fr H B H' v d->Q v H'
      |.exn x=>∀ cls dx H',A1 H H'->Jx K CL H' cls dx x->E cls dx H'
      | .bad=>BV):=LE
    cases ex:Pg.xs with
    |false=>rw[ex]at Ö;exact Ö.elim
    |true=>
      rw[ex]at Ö;have hp3:∀ cls dx H',A1 H H'->Jx K CL H' cls dx x->E cls dx H':=Ö;refine key (λy H'=>y=x/\A1 H H') (λy cls dx H' ⟨e1,sm⟩ xr=>?_) ?_
      · subst e1;exact hp3 cls dx H' sm xr
      · rw[eo];exact λH' sm=>⟨rfl,sm⟩
theorem zh(t:Tab K mg CL fns bl rzs exs gls Pg fuel){n:Ag}(hlv:∀ q∈fns,Lvl P w K mg base CL Pg n q){st:BQ}{id:Ag}(h2:Ŧ K x qual st f fd)(h4:ps.length=m)(h5:IZ fuel Aa fns bl rzs exs gls ps N st (Pg.defs id)=Aa):Ι P w K mg base (n+1) f fd ps (spH K CL m ((Y5 Pg (n+1)).fr id) ((Y5 Pg (n+1)).F id)):=by
 exfalso
 unfold IZ at h5;simp[Zo]at h5
theorem TK(t:Tab K mg CL fns bl rzs exs gls Pg fuel):∀ n,∀ p∈fns,Lvl P w K mg base CL Pg n p
 |0,p,hp=>by
  obtain⟨f,fd,ps,qual,st,N,h1,h2,h3,h4,h5⟩:=t.fn p hp;exact⟨f,fd,ps,h1,h2.kp,h3,h4,λ_=>⟨λvs H Q E ⟨ds,A,_,_,_,z⟩=>z.elim,λA outer s H args us vs Q E _ _ _ _ ⟨ds,A,_,_,_,z⟩=>z.elim⟩,λ_=>⟨λvs H Q E ⟨ds,A,_,_,_,z⟩=>z.elim,λA ev outer s H args us vs Q E _ _ _ _ ⟨ds,A,_,_,_,z⟩=>z.elim⟩⟩
 |n+1,p,hp=>by
  obtain⟨f,fd,ps,qual,st,N,h1,h2,h3,h4,h5⟩:=t.fn p hp;refine⟨f,fd,ps,h1,h2.kp,h3,h4,λô=>?_,λhge=>?_⟩
  .have eb:EM 1000 p.2.2=Ae:=by
    cases e:EM 1000 p.2.2 with
    |false=>rfl
    |true=>exact absurd (Et e) (by omega)
   rw[eb]at h5;exact YY t (λq hq=>TK t n q hq) h2 h4 h5
  .rw[G1 hge]at h5;exact zh t (λq hq=>TK t n q hq) h2 h4 h5
theorem yk(h:CXR P w [] H s (λ_ _ _=>BV) e s'):BV:=by
 obtain⟨_,_,_,_,_,_,_,_,_,_,_,_,_,_,_,z⟩:=h;exact z
theorem wR(h:∀ c ds,xn c ds=.bad):XT up xn (λ_=>Af) [] [] K mg:=⟨λ_ _ z=>(nomatch z),λ_ z=>(nomatch z),λ_ z=>(nomatch z),λc _ ds z=>.inl (h c ds),λ_ _ z=>(nomatch z),λc _ ds=>h c ds⟩
def PY(K:Fg):Sp:=λvs H Q _=>∃(a:Am)(ns:Ac Ad),vs=[.ref a]/\ns.length<=63/\fI K H a (ns.map V.int)/\∀ v H',v=V.bl Aa->Q v H'
theorem Ő(G:û P w K mg base CX k f fd ps (spD K CL 1 Ae F))(h:∀ ns:Ac Ad,F [.L (ns.map .int)]=.ok (.bl Aa)):û P w K mg base CX k f fd ps (PY K):=G.imp λvs H Q E ⟨a,ns,e,hl,hS,q⟩=>by
 subst e;have rs:∀ l:Ac Ad,Z7 K CL H A0 (l.map V.int) (l.map D.int):=λl=>by
  induction l with
  |nil=>trivial
  |cons x l ih=>exact⟨rfl,ih⟩
 refine⟨[.L (ns.map .int)],A0,rfl,λ_ z=>z.elim,⟨⟨a,_,rfl,.inl (λz=>z),hS,rs ns⟩,trivial⟩,?_⟩
 rw[h ns];exact λv H' _ r=>q v H' r.1
theorem aNl{Q:α->Prop}:∀ x∈([]:Ac α),Q x:=λ_ h=>nomatch h
theorem Y0{Q:α->Prop}{a:α}{l:Ac α}(h1:Q a)(h2:∀ x∈l,Q x):∀ x∈a::l,Q x:=List.forall_mem_cons.2 ⟨h1,h2⟩
def U5(K:Fg)(f:Am)(n:An)(st:BQ):Prop:=∃ fd,ķ K n n st f fd/\Cn K Bt n=Ab (Ab (.ref f))
theorem fni{st:BQ}{kV:Aj}(a:Cn K Bt n=Ab (Ab (.ref f)))(l:K.lookup f=Ab ⟨oc,od,.func (Ej n n (LB st) (IU st) (Hl st) .none kV doc pm an cdv ct),osl⟩)(c:Gp K cdv n=Aa)(k:DY K (.ref f)=Aa):U5 K f n st:=⟨_,zn l c k,a⟩
def Bd(n:An)(st:BQ)(ps:Ac An)(us:Ac Aj):Prop:=∀(kV doc pm:Aj)(an:As Am)(cdv ct:Aj),No (Ej n n (LB st) (IU st) (Hl st) .none kV doc pm an cdv ct) ⟨us,[]⟩=pure (ps.zip us)
theorem PB{st:BQ}(m id:Ag)(X:K.In h)(G:h.Ns Bt mg)(A:U5 K f n st)(hl:ps.length=m%1000)(hc:IZ fuel (EM 1000 m) fns bl rzs exs gls ps N st (Pg.defs id)=Aa)(hb:∀ us:Ac Aj,us.length=ps.length->Bd n st ps us):MZ K mg fns bl rzs exs gls Pg fuel (n,id,m):=by
 obtain⟨fd,F,a⟩:=A;exact⟨_,_,_,_,_,_,Kl X G a,Zx F,F.binds λkV doc pm an cdv ct us hu=>hb us hu kV doc pm an cdv ct,hl,hc⟩
theorem Qt{l:Ac α}(h:l.length=0):l=[]:=List.eq_nil_of_length_eq_zero h
theorem JE{l:Ac α}{n:Ag}(h:l.length=n+1):∃ a r,l=a::r/\r.length=n:=by
 cases l with
 |nil=>cases h
 |cons a r=>exact⟨a,r,rfl,IF h⟩
theorem K2{f:Am}{st:BQ}{N:Ac An}(m id:Ag)(X:K.In h)(G:h.Ns Bt mg)(A:U5 K f n st)(hc:IZ fuel (EM 1000 m) fns bl rzs exs gls [x0] N st (Pg.defs id)=Aa)(hl:1=m%1000:=by rfl)(hb :∀ u0,Bd n st [x0] [u0]:=by exact λ_ _ _ _ _ _ _=>rfl):MZ K mg fns bl rzs exs gls Pg fuel (n,id,m):=
 PB (ps:=[x0]) m id X G A hl hc λus hu=>by obtain⟨u0,v0,rfl,h0⟩:=JE hu;obtain rfl:=Qt h0;exact hb u0
theorem DP{f:Am}{st:BQ}{N:Ac An}(m id:Ag)(X:K.In h)(G:h.Ns Bt mg)(A:U5 K f n st)(hc:IZ fuel (EM 1000 m) fns bl rzs exs gls [x0,x1] N st (Pg.defs id)=Aa)(hl:2=m%1000:=by rfl)(hb :∀ u0 u1,Bd n st [x0,x1] [u0,u1]:=by exact λ_ _ _ _ _ _ _ _=>rfl):MZ K mg fns bl rzs exs gls Pg fuel (n,id,m):=
 PB (ps:=[x0,x1]) m id X G A hl hc λus hu=>by obtain⟨u0,v0,rfl,h0⟩:=JE hu;obtain⟨u1,v1,rfl,h1⟩:=JE h0;obtain rfl:=Qt h1;exact hb u0 u1
theorem Eb{f:Am}{st:BQ}{N:Ac An}{x2:An}(m id:Ag)(X:K.In h)(G:h.Ns Bt mg)(A:U5 K f n st)(hc:IZ fuel (EM 1000 m) fns bl rzs exs gls [x0,x1,x2] N st (Pg.defs id)=Aa)(hl:3=m%1000:=by rfl)(hb :∀ u0 u1 u2,Bd n st [x0,x1,x2] [u0,u1,u2]:=by exact λ_ _ _ _ _ _ _ _ _=>rfl):MZ K mg fns bl rzs exs gls Pg fuel (n,id,m):=
 PB (ps:=[x0,x1,x2]) m id X G A hl hc λus hu=>by obtain⟨u0,v0,rfl,h0⟩:=JE hu;obtain⟨u1,v1,rfl,h1⟩:=JE h0;obtain⟨u2,v2,rfl,h2⟩:=JE h1;obtain rfl:=Qt h2;exact hb u0 u1 u2
theorem Oc{f:Am}{st:BQ}{N:Ac An}{x2 x3:An}(m id:Ag)(X:K.In h)(G:h.Ns Bt mg)(A:U5 K f n st)(hc:IZ fuel (EM 1000 m) fns bl rzs exs gls [x0,x1,x2,x3] N st (Pg.defs id)=Aa)(hl:4=m%1000:=by rfl)(hb :∀ u0 u1 u2 u3,Bd n st [x0,x1,x2,x3] [u0,u1,u2,u3]:=by exact λ_ _ _ _ _ _ _ _ _ _=>rfl):MZ K mg fns bl rzs exs gls Pg fuel (n,id,m):=
 PB (ps:=[x0,x1,x2,x3]) m id X G A hl hc λus hu=>by obtain⟨u0,v0,rfl,h0⟩:=JE hu;obtain⟨u1,v1,rfl,h1⟩:=JE h0;obtain⟨u2,v2,rfl,h2⟩:=JE h1;obtain⟨u3,v3,rfl,h3⟩:=JE h2;obtain rfl:=Qt h3;exact hb u0 u1 u2 u3
end
end Ov
namespace OvC
open PySem Ov
variable{p k N:Ad}{ns:Ac Ad}{Z:Z2}{T X A:D}{s3 s5 s4:Sl}{i:Ag}{L:Ac D}{α:Type}{w:An}
noncomputable def Sb:Df:=⟨4,Ae,{.ret (.call 1 {.v 0,.B .Add (.B .Sub (.B .Mult (.x (.v 1) (.int 0)) (.B .Sub (.B .Mult (.x (.v 2) (.int 1)) (.x (.v 3) (.int 2))) (.B .Mult (.x (.v 2) (.int 2)) (.x (.v 3) (.int 1))))) (.B .Mult (.x (.v 1) (.int 1)) (.B .Sub (.B .Mult (.x (.v 2) (.int 0)) (.x (.v 3) (.int 2))) (.B .Mult (.x (.v 2) (.int 2)) (.x (.v 3) (.int 0)))))) (.B .Mult (.x (.v 1) (.int 2)) (.B .Sub (.B .Mult (.x (.v 2) (.int 0)) (.x (.v 3) (.int 1))) (.B .Mult (.x (.v 2) (.int 1)) (.x (.v 3) (.int 0)))))})}⟩
noncomputable abbrev tr(a b c:Ad):D:=.H [.int a,.int b,.int c]
noncomputable def U0(a0 a1 a2 b0 b1 b2 c0 c1 c2:Ad):Ad:=a0*(b1*c2-b2*c1)-a1*(b0*c2-b2*c0)+a2*(b0*c1-b1*c0)
def Sm(x:Ad):Prop:=0<=x/\x<11
def Vz(I:Rho->Prop)(g:Ad->Al):∀(L:Ac Ad),(∀ t∈L,∀ U,I U->(g t=Aa/\body (.int t) U=.ret (.int t) Ae)\/(g t=Ae/\∃ U',body (.int t) U=.next U'/\I U'))->∀ U,I U->(∃ t∈L,g t=Aa/\CD body (L.map D.int) U=.ret (.int t) Ae)\/((∀ t∈L,g t=Ae)/\∃ U',CD body (L.map D.int) U=.next U'/\I U')
 |[],_,U,i=>.inr ⟨(λ_ h=>nomatch h),U,rfl,i⟩
 |m::L,h,U,i=>by
  rcases h m (Ax ..) U i with ⟨e1,e2⟩|⟨e1,U',e2,i'⟩
  .refine .inl ⟨m,Ax ..,e1,?_⟩;show (body (.int m) U).turn _=_;rw[e2];rfl
  .rcases Vz I g L (λm' h'=>h m' (Av _ h')) U' i' with ⟨t,ht,a,b⟩|⟨a,r,b,c⟩
   .refine .inl ⟨t,Av _ ht,a,?_⟩;show (body (.int m) U).turn _=_;rw[e2];exact b
   .refine .inr ⟨λt ht=>?_,r,?_,c⟩
    .rcases Aw.mp ht with rfl|ht
     .exact e1
     .exact a t ht
    .show (body (.int m) U).turn _=_;rw[e2];exact b
noncomputable def L9:Ss:={.ife (.cmp .Eq (.call 1 {.v 0,.B .Mult (.v 1) (.v 2)}) (.int 1)) {.ret (.v 2)} .nil}
noncomputable def Oo:Df:=⟨3,Ae,{.fors 2 (.rng2 (.int 1) (.v 0)) L9,.rais 2 {.str (Ao "a number with the rest 0 is not turned over")}}⟩
noncomputable def Ho(p:Ad):Ac Ad:=(AK (p-1).toNat).map fun(k:Ag)=>1+(k:Ad)
def Ms:t∈Ho p↔1<=t/\t<p:=by
 unfold Ho;rw[A7];constructor
 .rintro⟨k,hk,rfl⟩;have:=A9.mp hk;omega
 .rintro⟨h1,h2⟩;exact⟨(t-1).toNat,A9.mpr (by omega),by omega⟩
def WA(h:P4 p):De 1 p=.ok ((Ho p).map D.int):=by
 rcases h with rfl|rfl|rfl|rfl<;>rfl
theorem zO:∀ p:Fin 12,(p.val=3\/p.val=5\/p.val=7\/p.val=11)->∀ r:Fin 12,r.val<p.val->r.val≠0->∃ t:Fin 12,1<=t.val/\t.val<p.val/\r.val*t.val%p.val=1:=by decide+kernel
def Hm{p:Ad}(h:P4 p)(hn:n%p≠0):∃ t,1<=t/\t<p/\n*t%p=1:=by
 have p0:0<p/\p<12:=by rcases h with rfl|rfl|rfl|rfl<;>decide
 obtain⟨q,rfl⟩:∃ q:Ag,p=q:=⟨p.toNat,by omega⟩
 have h0:=A3 n (b:=(q:Ad)) (by omega)
 have h1:=AV n p0.1;obtain⟨r,hr⟩:∃ r:Ag,n%(q:Ad)=r:=⟨(n%(q:Ad)).toNat,by omega⟩
 obtain⟨t,t1,t2,t3⟩:=zO ⟨q,by omega⟩ (by rcases h with e|e|e|e<;>simp<;>omega) ⟨r,by omega⟩ (by show r<q;omega) (by show r≠0;omega)
 refine⟨(t.val:Ad),by omega,by show (t.val:Ad)<q;exact Int.ofNat_lt.mpr t2,?_⟩
 have e:((r*t.val%q:Ag):Ad)=1:=by rw[show r*t.val%q=1 from t3];rfl
 rw[<-e,Int.natCast_emod,Int.natCast_mul,<-hr];exact(Be n _ _).trans (by rw[Be (n%(q:Ad)) (t.val:Ad) (q:Ad),AY n (BD _)])
def Em(p n t:Ad):Prop:=1<=t/\t<p/\n*t%p=1
def Wc{p:Ad}(h1:Em p n t)(h2:Em p n u):t=u:=by
 have hp:1<p:=by have:=h1.1;have:=h1.2.1;omega
 have e:t%p=u%p:=by
  have a:t%p=t*(n*u)%p:=by rw[Be,h2.2.2,DK,AY _ (BD p)]
  have b:u%p=(n*t)*u%p:=by rw[Be (n*t) u p,h1.2.2,CW,AY _ (BD p)]
  rw[a,b]
  congr 1
  rw[<-GK,Cd t n]
 rwa [AI (by have:=h1.1;omega) h1.2.1,AI (by have:=h2.1;omega) h2.2.1]at e
def B4(hp:P4 p)(hc:c%p≠0)(hx:x%p≠0):c*x%p≠0:=λz=>by
 obtain⟨t,_,_,e⟩:=Hm hp hc;refine hx ?_;have e1:x%p=(c*t)*x%p:=by rw[Be (c*t) x p,e,CW,AY _ (BD p)]
 rw[e1,show c*t*x=t*(c*x) by rw[Cd c t,GK],Be,z,CT,Bp]
noncomputable def A4(p:Ad):Ac Ad->As Ad
 |[]=>Af
 |x::xs=>if x%p=0 then A4 p xs else Ab (x%p)
def J5{p:Ad}:∀{xs:Ac Ad},A4 p xs=Af↔∀ x∈xs,x%p=0
 |[]=>by simp[A4]
 |x::xs=>by
  unfold A4;by_cases h:x%p=0
  .rw[AC h,J5 (xs:=xs)];simp[h]
  .rw[AH h];simp[h]
def Jl{p:Ad}(hp:0<p):∀{xs:Ac Ad},A4 p xs=Ab l->l%p≠0/\0<l/\l<p
 |[],h=>by cases h
 |x::xs,h=>by
  unfold A4 at h;by_cases hx:x%p=0
  .rw[AC hx]at h;exact Jl hp h
  .rw[AH hx]at h;cases h;have h0:=A3 x (b:=p) (by omega)
   have h1:=AV x hp;exact⟨by rw[AY _ (BD p)];exact hx,by omega,h1⟩
def KN{p:Ad}(hp:P4 p)(hc:c%p≠0)(hf:∀ x,f x%p=c*x%p):∀ xs:Ac Ad,A4 p (xs.map f)=(A4 p xs).map λl=>c*l%p
 |[]=>rfl
 |x::xs=>by
  rw[BA];unfold A4;rw[hf x];by_cases hx:x%p=0
  .rw[AC hx,AC (by rw[Be,hx,CT,Bp]),KN hp hc hf xs]
  .rw[AH hx,AH (B4 hp hc hx),Ff]
   congr 1
   rw[Be c (x%p),AY _ (BD p),<-Be]
noncomputable def ds(xs:Ac Ad):Ac D:=xs.map D.int
noncomputable def DC(b:Al)(xs:Ac Ad):D:=if b=Aa then .H (ds xs) else .L (ds xs)
def RD(b xs):Ct (DC b xs)=.ok (ds xs):=by unfold DC;cases b<;>rfl
def Ly:∀(xs:Ac Ad),(∀ x∈xs,g (.int x)=.ok Aa/\f (.int x)=.ok (.int (φ x)))->Bz g f (ds xs)=.ok (ds (xs.map φ))
 |[],_=>rfl
 |x::xs,h=>by
  obtain⟨h1,h2⟩:=h x (Ax ..);show (g (.int x)).bind _=_;rw[h1,R.bind_ok,AC rfl,h2,R.bind_ok];show (Bz g f (ds xs)).bind _=_;rw[Ly xs λy hy=>h y (Av _ hy)]
  rfl
noncomputable def B6:E:=(.bl Aa)
noncomputable def Q5:E:=(.call 1 {.v 0,.v 5})
noncomputable def Q4:E:=(.call 1 {.v 0,.B .Mult (.v 4) (.v 6)})
noncomputable def IN:Ss:={.ife (.cmp .NotEq (.v 3) (.int 0)) {.asg 4 Ae (.call 9 {.v 0,.v 3}),.ret (.bi .tuple {.comp Q4 6 (.e (.v 2)) B6})} .nil}
noncomputable def OR:Df:=⟨7,Ae,{.asg 2 Ae (.comp Q5 5 (.e (.v 1)) B6),.fors 3 (.e (.v 2)) IN,.rais 3 {.str (Ao "all the numbers have the rest 0")}}⟩
noncomputable def Þ(p t:Ad)(xs:Ac Ad):Ac Ad:=xs.map λx=>t*(x%p)%p
def OB:∀(xs:Ac Ad),(∀ x∈xs,g (.int x)=.ok (q x)/\f (.int x)=.ok (.int x))->Bz g f (ds xs)=.ok (ds (xs.filter q))
 |[],_=>rfl
 |x::xs,h=>by
  obtain⟨h1,h2⟩:=h x (Ax ..);have ih:=OB xs λy hy=>h y (Av _ hy)
  show (g (.int x)).bind _=_;rw[h1,R.bind_ok];cases hq:q x with
  |true=>
   rw[AC rfl,h2,R.bind_ok,EQ,hq,AC rfl];show (Bz g f (ds xs)).bind _=_;rw[ih];rfl
  |false=>
   rw[AH (by decide),EQ,hq,AH (by decide)]
   exact ih
def Vs{p:Ad}(hp:0<p):∀(xs:Ac Ad),((xs.map λx=>x%p).filter λr=>decide (0<r)).head?=A4 p xs
 |[]=>rfl
 |x::xs=>by
  have h0:=A3 x (b:=p) (by omega)
  unfold A4;rw[BA,EQ];by_cases h:x%p=0
  .rw[AC h,AH (by simp[h]),Vs hp xs]
  .rw[AH h,AC (by simp;omega)]
   rfl
def pT{p:Ad}(it:Em p l t):((Ho p).filter λk=>decide (k*l%p=1)).head?=Ab t:=by
 have hm:t∈(Ho p).filter λk=>decide (k*l%p=1):=BJ.mpr ⟨Ms.mpr ⟨it.1,it.2.1⟩,by simp[Cd t l,it.2.2]⟩
 cases e:(Ho p).filter λk=>decide (k*l%p=1) with
 |nil=>rw[e]at hm;cases hm
 |cons u us=>
  have hu:u∈(Ho p).filter λk=>decide (k*l%p=1):=by rw[e];exact Ax ..
  obtain⟨h1,h2⟩:=BJ.mp hu;obtain⟨a,b⟩:=Ms.mp h1;have h3:u*l%p=1:=by simpa using h2
  rw[Wc it ⟨a,b,by rw[Cd];exact h3⟩]
  rfl
def RY(h:xs.head?=Ab l):Dl (ds xs) 0=.ok (.int l):=by
 cases xs with
 |nil=>cases h
 |cons x xs=>cases h;exact Su (by omega) rfl
def YU:∀ xs:Ac Ad,My (ds xs) (ds xs)=Aa
 |[]=>rfl
 |x::xs=>by
  show (U4 (.int x) (.int x)&&My (ds xs) (ds xs))=Aa;rw[YU xs];simp
def WY:∀ xs:Ac Ad,Gj (xs.map λ_=>D.bl Aa)=.ok Aa
 |[]=>rfl
 |x::xs=>by
  rw[BA,RE,WY xs];rfl
def XC:∀(xs:Ac Ad),(∀ x∈xs,g (.int x)=.ok Aa/\f (.int x)=.ok (.bl Aa))->Bz g f (ds xs)=.ok (xs.map λ_=>D.bl Aa)
 |[],_=>rfl
 |x::xs,h=>by
  obtain⟨h1,h2⟩:=h x (Ax ..);show (g (.int x)).bind _=_;rw[h1,R.bind_ok,AC rfl,h2,R.bind_ok];show (Bz g f (ds xs)).bind _=_;rw[XC xs λy hy=>h y (Av _ hy)]
  rfl
noncomputable abbrev own(xs:Ac Ad):Sl:=Ab (.L (ds xs),Aa)
def uB{p:Ad}(hp:P4 p)(hc:c%p≠0)(hl:l%p≠0)(it:Em p l t)(hf:∀ x,f x%p=c*x%p)(xs:Ac Ad):∃ u,Em p (c*l%p) u/\Þ p u (xs.map f)=Þ p t xs:=by
 have h1:(c*l%p)%p≠0:=by rw[AY _ (BD p)];exact B4 hp hc hl
 obtain⟨u,u1,u2,u3⟩:=Hm hp h1;refine⟨u,⟨u1,u2,u3⟩,?_⟩;unfold Þ;rw[Do];refine CM λx _=>?_
 show u*(f x%p)%p=t*(x%p)%p;have u4:c*l*u%p=1:=by rw[<-u3,Be (c*l%p) u p,AY _ (BD p),<-Be]
 have e1:u*(f x%p)%p=u*(c*x)%p:=by rw[hf,Be u (c*x%p) p,AY _ (BD p),<-Be]
 have e2:t*(x%p)%p=t*x%p:=by rw[Be t (x%p) p,AY _ (BD p),<-Be]
 have e3:u*(c*x)%p=(l*t)*(u*(c*x))%p:=by rw[Be (l*t) _ p,it.2.2,CW,AY _ (BD p)]
 have e4:t*x%p=(c*l*u)*(t*x)%p:=by rw[Be (c*l*u) _ p,u4,CW,AY _ (BD p)]
 rw[e1,e2,e3,e4]
 congr 1
 grind
def Cg(p x y:Ad):Prop:=x%p=y%p
def Cg.rfl:Cg p a a:=Eq.refl _
def Cg.of(h:a=b):Cg p a b:=by unfold Cg;rw[h]
def Cg.trans(h:Cg p a b)(g:Cg p b c):Cg p a c:=JR h g
def Cg.symm(h:Cg p a b):Cg p b a:=Oj h
def Cg.add(h:Cg p a b)(g:Cg p c d):Cg p (a+c) (b+d):=by unfold Cg at *;rw[IA,h,g,<-IA]
def Cg.sub(h:Cg p a b)(g:Cg p c d):Cg p (a-c) (b-d):=by unfold Cg at *;rw[ZP,h,g,<-ZP]
def Cg.mul(h:Cg p a b)(g:Cg p c d):Cg p (a*c) (b*d):=by unfold Cg at *;rw[Be,h,g,<-Be]
def Cg.md(h:a=b%p):Cg p a b:=by unfold Cg;rw[h,AY _ (BD p)]
def J7{p z0:Ad}(h0:Cg p a0 x0)(h1:Cg p a1 x1)(h2:Cg p a2 x2)(h3:Cg p b0 y0)(h4:Cg p b1 y1)(h5:Cg p b2 y2)(h6:Cg p c0 z0)(h7:Cg p c1 z1)(h8:Cg p c2 z2):Cg p (a0*(b1*c2-b2*c1)-a1*(b0*c2-b2*c0)+a2*(b0*c1-b1*c0)) (x0*(y1*z2-y2*z1)-x1*(y0*z2-y2*z0)+x2*(y0*z1-y1*z0)):=
 ((h0.mul ((h4.mul h8).sub (h5.mul h7))).sub (h1.mul ((h3.mul h8).sub (h5.mul h6)))).add (h2.mul ((h3.mul h7).sub (h4.mul h6)))
def P4.m1(h:P4 p):(-1:Ad)%p≠0:=by rcases h with rfl|rfl|rfl|rfl<;>decide
def P4.o1(h:P4 p):(1:Ad)%p≠0:=by rcases h with rfl|rfl|rfl|rfl<;>decide
abbrev R3:=Ad×Ad×Ad
variable{a r x:R3}
noncomputable def El(a:R3):D:=.L [.int a.1,.int a.2.1,.int a.2.2]
noncomputable def Ak(a b c:R3):Ad:=U0 a.1 a.2.1 a.2.2 b.1 b.2.1 b.2.2 c.1 c.2.1 c.2.2
def Z4(p:Ad)(a:R3):Prop:=(0<=a.1/\a.1<p)/\(0<=a.2.1/\a.2.1<p)/\(0<=a.2.2/\a.2.2<p)
structure U7 (p:Ad) (a b c:R3):Prop where
 p4:P4 p
 ia:Z4 p a
 ib:Z4 p b
 ic:Z4 p c
 nz:Ak a b c%p≠0
def U7.of{a:R3}(h:U7 p a b c)(hk:k%p≠0)(e:Cg p (Ak a' b' c') (k*Ak a b c))(hin:Z4 p a'/\Z4 p b'/\Z4 p c'):U7 p a' b' c':=⟨h.p4,hin.1,hin.2.1,hin.2.2,by rw[show Ak a' b' c'%p=_ from e];exact B4 h.p4 hk h.nz⟩
noncomputable def QH(t:Ad)(a:R3):R3:=(a.1*t,a.2.1*t,a.2.2*t)
noncomputable def HI(t:Ad)(a b:R3):R3:=(a.1+t*b.1,a.2.1+t*b.2.1,a.2.2+t*b.2.2)
noncomputable def ö(p:Ad)(a:R3):R3:=(a.1%p,a.2.1%p,a.2.2%p)
noncomputable def scR(p t:Ad)(a:R3):R3:=ö p (QH t a)
noncomputable def Ũ(p t:Ad)(a b:R3):R3:=ö p (HI t a b)
def N2(h:0<p)(a:R3):Z4 p (ö p a):=⟨⟨A3 _ (by omega),AV _ h⟩,⟨A3 _ (by omega),AV _ h⟩,⟨A3 _ (by omega),AV _ h⟩⟩
def iJ(h:0<p)(t:Ad)(a:R3):Z4 p (scR p t a):=N2 h _
def MU(h:0<p)(t:Ad)(a b:R3):Z4 p (Ũ p t a b):=N2 h _
def nC(p t:Ad)(a b c:R3):Cg p (Ak (scR p t a) b c) (t*Ak a b c):=by
 refine Cg.trans (b:=Ak (QH t a) b c) ?_ (Cg.of (by unfold Ak U0 QH;grind))
 unfold Ak U0;exact J7 (Cg.md (by rfl)) (Cg.md (by rfl)) (Cg.md (by rfl)) Cg.rfl Cg.rfl Cg.rfl Cg.rfl Cg.rfl Cg.rfl
def kU(p t:Ad)(a b c:R3):Cg p (Ak (Ũ p t a b) b c) (1*Ak a b c):=by
 refine Cg.trans (b:=Ak (HI t a b) b c) ?_ (Cg.of (by unfold Ak U0 HI;grind))
 unfold Ak U0;exact J7 (Cg.md (by rfl)) (Cg.md (by rfl)) (Cg.md (by rfl)) Cg.rfl Cg.rfl Cg.rfl Cg.rfl Cg.rfl Cg.rfl
def kT(p t:Ad)(a b c:R3):Cg p (Ak (Ũ p t a c) b c) (1*Ak a b c):=by
 refine Cg.trans (b:=Ak (HI t a c) b c) ?_ (Cg.of (by unfold Ak U0 HI;grind))
 unfold Ak U0;exact J7 (Cg.md (by rfl)) (Cg.md (by rfl)) (Cg.md (by rfl)) Cg.rfl Cg.rfl Cg.rfl Cg.rfl Cg.rfl Cg.rfl
def kS(p t:Ad)(a b c:R3):Cg p (Ak a (Ũ p t b a) c) (1*Ak a b c):=by
 refine Cg.trans (b:=Ak a (HI t b a) c) ?_ (Cg.of (by unfold Ak U0 HI;grind))
 unfold Ak U0;exact J7 Cg.rfl Cg.rfl Cg.rfl (Cg.md (by rfl)) (Cg.md (by rfl)) (Cg.md (by rfl)) Cg.rfl Cg.rfl Cg.rfl
def kR(p t:Ad)(a b c:R3):Cg p (Ak a (Ũ p t b c) c) (1*Ak a b c):=by
 refine Cg.trans (b:=Ak a (HI t b c) c) ?_ (Cg.of (by unfold Ak U0 HI;grind))
 unfold Ak U0;exact J7 Cg.rfl Cg.rfl Cg.rfl (Cg.md (by rfl)) (Cg.md (by rfl)) (Cg.md (by rfl)) Cg.rfl Cg.rfl Cg.rfl
def kQ(p t:Ad)(a b c:R3):Cg p (Ak a b (Ũ p t c a)) (1*Ak a b c):=by
 refine Cg.trans (b:=Ak a b (HI t c a)) ?_ (Cg.of (by unfold Ak U0 HI;grind))
 unfold Ak U0;exact J7 Cg.rfl Cg.rfl Cg.rfl Cg.rfl Cg.rfl Cg.rfl (Cg.md (by rfl)) (Cg.md (by rfl)) (Cg.md (by rfl))
def kP(p t:Ad)(a b c:R3):Cg p (Ak a b (Ũ p t c b)) (1*Ak a b c):=by
 refine Cg.trans (b:=Ak a b (HI t c b)) ?_ (Cg.of (by unfold Ak U0 HI;grind))
 unfold Ak U0;exact J7 Cg.rfl Cg.rfl Cg.rfl Cg.rfl Cg.rfl Cg.rfl (Cg.md (by rfl)) (Cg.md (by rfl)) (Cg.md (by rfl))
def zV(h0:0<=k)(h1:k<ns.length):Dl (ns.map D.int) k=.ok (.int (ns.getD k.toNat 0)):=Su h0 (by
 have:k.toNat<ns.length:=by omega
 simp[this])
noncomputable abbrev ď(a b c:R3):Sl:=Ab (.L [El a,El b,El c],Aa)
noncomputable def FR(a b c:R3):D:=.L [El a,El b,El c]
noncomputable def QV:E:=(.B .Mod (.v 5) (.v 0))
noncomputable def QS:E:=(.cmp .Gt (.v 6) (.int 0))
noncomputable def Ma:E:=(.v 6)
noncomputable def QR:E:=(.cmp .Eq (.B .Mod (.B .Mult (.v 7) (.v 3)) (.v 0)) (.int 1))
noncomputable def QU:E:=(.v 7)
noncomputable def QT:E:=(.B .Mod (.B .Mult (.v 8) (.v 4)) (.v 0))
noncomputable def Q7:Df:=⟨9,Ae,{.asg 2 Ae (.comp QV 5 (.e (.v 1)) B6),.asg 3 Ae (.x (.comp Ma 6 (.e (.v 2)) QS) (.int 0)),.asg 4 Ae (.x (.comp QU 7 (.rng2 (.int 1) (.v 0)) QR) (.int 0)),.ret (.bi .tuple {.comp QT 8 (.e (.v 2)) B6})}⟩
def xY(Z:Z2)(hp:P4 p)(e:A4 p xs=Ab l)(it:Em p l t):Q7.run Z [.int p,DC b xs]=.ok (.H (ds (Þ p t xs))):=by
 have p0:=hp.pos;have ph:=hp.hi;have c1:Bz (cG Z [si p,sh (DC b xs),Af,Af,Af,Af,Af,Af,Af] 5 B6) (cF Z [si p,sh (DC b xs),Af,Af,Af,Af,Af,Af,Af] 5 QV) (ds xs)=.ok (ds (xs.map λx=>x%p)):=by
  refine Ly xs λx _=>⟨rfl,?_⟩
  simp[cF,QV,p0]
 generalize hR:(xs.map λx=>x%p)=rs at c1
 have c2:Bz (cG Z [si p,sh (DC b xs),sh (.L (ds rs)),Af,Af,Af,Af,Af,Af] 6 QS) (cF Z [si p,sh (DC b xs),sh (.L (ds rs)),Af,Af,Af,Af,Af,Af] 6 Ma) (ds rs)=.ok (ds (rs.filter λr=>decide (0<r))):=by
  refine OB rs λx _=>⟨?_,?_⟩
  .simp[cG,QS]
  .simp[cF,Ma]
 have hl:=Vs p0 xs;rw[hR,e]at hl;generalize hL:(rs.filter λr=>decide (0<r))=ls at c2 hl
 have g0:=RY hl;obtain⟨_,l0,l1⟩:=Jl p0 e;have c3:Bz (cG Z [si p,sh (DC b xs),sh (.L (ds rs)),si l,Af,Af,Af,Af,Af] 7 QR) (cF Z [si p,sh (DC b xs),sh (.L (ds rs)),si l,Af,Af,Af,Af,Af] 7 QU) (ds (Ho p))=.ok (ds ((Ho p).filter λk=>decide (k*l%p=1))):=by
  refine OB (Ho p) λx hx=>⟨?_,?_⟩
  .obtain⟨x1,x2⟩:=Ms.mp hx;have m:Ey x l=Aa:=IT (by omega) (by omega)
   simp[cG,QR,m,p0];rw[Dj];simp
  .simp[cF,QU]
 have g1:=RY (pT it);have c4:Bz (cG Z [si p,sh (DC b xs),sh (.L (ds rs)),si l,si t,Af,Af,Af,Af] 8 B6) (cF Z [si p,sh (DC b xs),sh (.L (ds rs)),si l,si t,Af,Af,Af,Af] 8 QT) (ds rs)=.ok (ds (rs.map λr=>t*r%p)):=by
  refine Ly rs λx _=>⟨rfl,?_⟩
  have m:Ey x t=Aa:=Td (by have:=it.1;omega) (by have:=it.2.1;omega)
  simp[cF,QT,m,p0,Cd]
 have ru:De 1 p=.ok (ds (Ho p)):=WA hp;have fe:Þ p t xs=rs.map λr=>t*r%p:=by rw[<-hR];simp[Þ,Do,Ih]
 simp[Q7,Df.run,Bc,RD,c1,c2,g0,ru,c3,g1,c4,fe]
noncomputable def Z0(a b c:R3):Ac Ad:=[a.1,a.2.1,a.2.2,b.1,b.2.1,b.2.2,c.1,c.2.1,c.2.2]
noncomputable def Ķ(a:R3):D:=.H [.int a.1,.int a.2.1,.int a.2.2]
noncomputable def Cu(a b c:R3):D:=.H [Ķ a,Ķ b,Ķ c]
noncomputable def Z3(p t:Ad)(a:R3):R3:=(t*(a.1%p)%p,t*(a.2.1%p)%p,t*(a.2.2%p)%p)
def XV(p t:Ad)(a b c:R3):Þ p t (Z0 a b c)=Z0 (Z3 p t a) (Z3 p t b) (Z3 p t c):=rfl
def NE{a:R3}(h:Ak a b c%p≠0):∃ l,A4 p (Z0 a b c)=Ab l:=by
 cases e:A4 p (Z0 a b c) with
 |some l=>exact⟨l,rfl⟩
 |none=>
  refine absurd ?_ h;have z:=J5.mp e;have q:∀ x∈Z0 a b c,Cg p x 0:=λx hx=>by
   have:=z x hx;show x%p=0%p;rw[this];simp
  have:=J7 (p:=p) (q a.1 (by simp[Z0])) (q a.2.1 (by simp[Z0])) (q a.2.2 (by simp[Z0])) (q b.1 (by simp[Z0])) (q b.2.1 (by simp[Z0])) (q b.2.2 (by simp[Z0])) (q c.1 (by simp[Z0])) (q c.2.1 (by simp[Z0])) (q c.2.2 (by simp[Z0]))
  have e2:Ak a b c%p=(0*(0*0-0*0)-0*(0*0-0*0)+0*(0*0-0*0))%p:=this;rw[e2];simp
def nF(a b c:R3):Ý (.H (ds (Z0 a b c))) Af (Ab 3)=.ok (Ķ a)/\Ý (.H (ds (Z0 a b c))) (Ab 3) (Ab 6)=.ok (Ķ b)/\Ý (.H (ds (Z0 a b c))) (Ab 6) Af=.ok (Ķ c):=⟨rfl,rfl,rfl⟩
def vW(a b c:R3):DD .Add (El a) (El b)=.ok (.L [.int a.1,.int a.2.1,.int a.2.2,.int b.1,.int b.2.1,.int b.2.2])/\DD .Add (.L [.int a.1,.int a.2.1,.int a.2.2,.int b.1,.int b.2.1,.int b.2.2]) (El c)=.ok (.L (ds (Z0 a b c))):=⟨rfl,rfl⟩
def Bd(n:Ag)(x:Ad):Prop:=x.natAbs<2 ^ n
def Bd.mul{x:Ad}(h:Bd m x)(g:Bd n y):Bd (m+n) (x*y):=by
 unfold Bd at *;rw[Int.natAbs_mul,Nat.pow_add];exact Nat.mul_lt_mul'' h g
def Bd.sub{x:Ad}(h:Bd n x)(g:Bd n y):Bd (n+1) (x-y):=by
 unfold Bd at *;rw[aR];omega
def GB{x:Ad}(h:Bd m x)(g:Bd n y)(hm:m<=2000)(hn:n<=2000):E5 x y=Aa:=by
 unfold E5 Bd at *;rw[Ap,AW,AW];exact⟨AF h (EG (by decide) hm),AF g (EG (by decide) hn)⟩
def B3(a:R3):Prop:=Bd 300 a.1/\Bd 300 a.2.1/\Bd 300 a.2.2
noncomputable def Ai(q:Al)(a:R3):D:=DC q [a.1,a.2.1,a.2.2]
def FQ(q:Al)(a:R3):BR (Ai q a) (.int 0)=.ok (.int a.1)/\BR (Ai q a) (.int 1)=.ok (.int a.2.1)/\BR (Ai q a) (.int 2)=.ok (.int a.2.2):=by cases q<;>exact⟨rfl,rfl,rfl⟩
def GR(Z:Z2):Prop:=∀(p:Ad)(q:Al)(a b c:R3),0<p->B3 a->B3 b->B3 c->Z.F 61 [.int p,Ai q a,Ai q b,Ai q c]=.ok (.int (Ak a b c%p))
def xV(h:IV Z)(p:Ad)(q:Al)(a b c:R3)(hp:0<p)(ha:B3 a)(hb:B3 b)(hc:B3 c):Sb.run Z [.int p,Ai q a,Ai q b,Ai q c]=.ok (.int (Ak a b c%p)):=by
 obtain⟨a0,a1,a2⟩:=FQ q a;obtain⟨b0,b1,b2⟩:=FQ q b;obtain⟨c0,c1,c2⟩:=FQ q c;have k:∀ {x y},Bd 300 x->Bd 300 y->E5 x y=Aa:=λhx hy=>GB hx hy (by decide) (by decide)
 have k2:∀ {x y z u v},Bd 300 x->Bd 300 y->Bd 300 z->Bd 300 u->Bd 300 v->E5 x (y*z-u*v)=Aa:=λhx hy hz hu hv=>GB hx ((hy.mul hz).sub (hu.mul hv)) (by decide) (by decide)
 simp[Sb,Df.run,Bc,a0,a1,a2,b0,b1,b2,c0,c1,c2,k hb.2.1 hc.2.2,k hb.2.2 hc.2.1,k hb.1 hc.2.2,k hb.2.2 hc.1,k hb.1 hc.2.1,k hb.2.1 hc.1,k2 ha.1 hb.2.1 hc.2.2 hb.2.2 hc.2.1,k2 ha.2.1 hb.1 hc.2.2 hb.2.2 hc.1,k2 ha.2.2 hb.1 hc.2.1 hb.2.1 hc.1,h p _ hp];rfl
noncomputable def RO:Df:=⟨3,Ae,{.ife (.cmp .Eq (.call 61 {.v 0,.x (.v 1) (.int 0),.x (.v 1) (.int 1),.x (.v 1) (.int 2)}) (.int 0)) {.rais 4 {.str (Ao "the measure of the rows is 0")}} .nil,.asg 2 Ae (.call 17 {.v 0,.B .Add (.B .Add (.bi .list {.x (.v 1) (.int 0)}) (.bi .list {.x (.v 1) (.int 1)})) (.bi .list {.x (.v 1) (.int 2)})}),.ret (.H {.sl (.v 2) .O (.int 3),.sl (.v 2) (.int 3) (.int 6),.sl (.v 2) (.int 6) .O})}⟩
def wk(q:Al)(a:R3):Tm .list [Ai q a]=.ok (El a):=by cases q<;>rfl
def Mn{p:Ad}:∀{xs ys:Ac Ad},xs.map (λx=>x%p)=ys.map (λx=>x%p)->A4 p xs=A4 p ys
 |[],[],_=>rfl
 |x::xs,y::ys,h=>by
  rw[BA,BA,Jc]at h;unfold A4;rw[h.1,Mn h.2]
 |[],_::_,h=>by simp at h
 |_::_,[],h=>by simp at h
def Sv(h:xs.map (λx=>x%p)=ys.map (λx=>x%p)):Þ p t xs=Þ p t ys:=by
 have e:∀ zs:Ac Ad,Þ p t zs=(zs.map λx=>x%p).map λr=>t*r%p:=λzs=>by simp[Þ,Do,Ih]
 rw[e,e,h]
def uA{a:R3}(h:Z0 a b c=Z0 a' b' c'):a=a'/\b=b'/\c=c':=by
 unfold Z0 at h;simp only[Jc,LS]at h;obtain⟨h1,h2,h3,h4,h5,h6,h7,h8,h9⟩:=h;exact⟨Bq h1 (Bq h2 h3),Bq h4 (Bq h5 h6),Bq h7 (Bq h8 h9)⟩
def GD(hp:0<p)(t:Ad)(a:R3):Z4 p (Z3 p t a):=⟨⟨A3 _ (by omega),AV _ hp⟩,⟨A3 _ (by omega),AV _ hp⟩,⟨A3 _ (by omega),AV _ hp⟩⟩
def RS(Z:Z2):Prop:=∀ p n:Ad,P4 p->n%p≠0->∃ t,1<=t/\t<p/\n*t%p=1/\Z.F 9 [.int p,.int n]=.ok (.int t)
def NN(Z:Z2):Prop:=∀(p:Ad)(b:Al)(xs:Ac Ad)(l t:Ad),P4 p->A4 p xs=Ab l->Em p l t->Z.F 17 [.int p,DC b xs]=.ok (.H (ds (Þ p t xs)))
def qU(hr:IV Z)(p n:Ad)(hp:P4 p)(z:n%p≠0):∃ t,1<=t/\t<p/\n*t%p=1/\Oo.run Z [.int p,.int n]=.ok (.int t):=by
 have p0:=hp.pos;have ph:=hp.hi;have body:∀ t∈Ho p,∀ U,(∃ s,U=[si p,si n,s])->(decide (n*t%p=1)=Aa/\Bu Z 2 L9 (.int t) U=.ret (.int t) Ae)\/(decide (n*t%p=1)=Ae/\∃ U',Bu Z 2 L9 (.int t) U=.next U'/\∃ s,U'=[si p,si n,s]):=by
  rintro t ht U ⟨s,rfl⟩;obtain⟨t1,t2⟩:=Ms.mp ht;have m:Ey n t=Aa:=Td (by omega) (by omega)
  by_cases e:n*t%p=1
  .exact .inl ⟨by simp[e],by simp[Bu,L9,hr p (n*t) p0,m,e,Dy]⟩
  .exact .inr ⟨by simp[e],_,by simp[Bu,L9,hr p (n*t) p0,m,e];rfl,_,rfl⟩
 have run:∀ o,CD (Bu Z 2 L9) ((Ho p).map D.int) [si p,si n,Af]=o->Oo.run Z [.int p,.int n]=(Ic Z (.cons (.rais 2 (.cons (.str (Ao "a number with the rest 0 is not turned over")) .nil)) .nil) o).ans Ae:=by
  rintro o rfl;simp[Oo,Df.run,Bc,WA hp]
 rcases Vz (λU=>∃ s,U=[si p,si n,s]) (λt=>decide (n*t%p=1)) (Ho p) body [si p,si n,Af] ⟨_,rfl⟩ with ⟨t,ht,a,b⟩|⟨a,r,b,s,rfl⟩
 .obtain⟨t1,t2⟩:=Ms.mp ht;have a':n*t%p=1:=by simpa using a
  exact⟨t,t1,t2,a',by rw[run _ b];rfl⟩
 .obtain⟨t,t1,t2,e⟩:=Hm hp z;have:=a t (Ms.mpr ⟨t1,t2⟩);simp[e]at this
def Wo(hr:IV Z)(ht:RS Z)(hp:P4 p)(rs:Ac Ad):∀(ys:Ac Ad),(∀ y∈ys,0<=y/\y<p)->∀ s3,(A4 p ys=Af->∃ ϕ,CD (Bu Z 3 IN) (ds ys) [si p,sh (DC b xs),sh (.L (ds rs)),s3,Af,Af,Af]=.next [si p,sh (DC b xs),sh (.L (ds rs)),ϕ,Af,Af,Af])/\(∀ l t,A4 p ys=Ab l->Em p l t->CD (Bu Z 3 IN) (ds ys) [si p,sh (DC b xs),sh (.L (ds rs)),s3,Af,Af,Af]=.ret (.H (ds (rs.map λr=>t*r%p))) Ae)
 |[],_,s3=>⟨λ_=>⟨s3,rfl⟩,(λl t h=>nomatch h)⟩
 |y::ys,hy,s3=>by
  obtain⟨y0,y1⟩:=hy y (Ax ..);have ym:y%p=y:=AI y0 y1;have ih:=Wo (b:=b) (xs:=xs) hr ht hp rs ys (λz hz=>hy z (Av _ hz)) (si y)
  have step:∀ o,Bu Z 3 IN (.int y) [si p,sh (DC b xs),sh (.L (ds rs)),s3,Af,Af,Af]=o->CD (Bu Z 3 IN) (ds (y::ys)) [si p,sh (DC b xs),sh (.L (ds rs)),s3,Af,Af,Af]=o.turn (CD (Bu Z 3 IN) (ds ys)):=by
   rintro o rfl;rfl
  unfold A4;rw[ym];by_cases hz:y=0
  .have e:Bu Z 3 IN (.int y) [si p,sh (DC b xs),sh (.L (ds rs)),s3,Af,Af,Af]=.next [si p,sh (DC b xs),sh (.L (ds rs)),si y,Af,Af,Af]:=by
    simp[Bu,IN,hz]
   rw[AC hz,step _ e];exact ih
  .rw[AH hz];refine⟨(λz=>nomatch z),λl t e it=>?_⟩
   cases e;obtain⟨u,u1,u2,u3,u4⟩:=ht p y hp (by rw[ym];exact hz)
   have:t=u:=Wc it ⟨u1,u2,u3⟩;subst this;have p0:=hp.pos;have ph:=hp.hi;have cp:Bz (cG Z [si p,sh (DC b xs),sh (.L (ds rs)),si y,si t,Af,Af] 6 B6) (cF Z [si p,sh (DC b xs),sh (.L (ds rs)),si y,si t,Af,Af] 6 Q4) (ds rs)=.ok (ds (rs.map λr=>t*r%p)):=by
    refine Ly rs λr _=>⟨rfl,?_⟩
    have m:Ey t r=Aa:=IT (by omega) (by omega)
    simp[cF,Q4,m,hr p (t*r) p0]
   have e:Bu Z 3 IN (.int y) [si p,sh (DC b xs),sh (.L (ds rs)),s3,Af,Af,Af]=.ret (.H (ds (rs.map λr=>t*r%p))) Ae:=by
    simp[Bu,IN,hz,u4,cp,Dy]
   rw[step _ e];rfl
def xX(hr:IV Z)(ht:RS Z)(hp:P4 p)(e:A4 p xs=Ab l)(it:Em p l t):OR.run Z [.int p,DC b xs]=.ok (.H (ds (Þ p t xs))):=by
 have p0:=hp.pos;have cp:Bz (cG Z [si p,sh (DC b xs),Af,Af,Af,Af,Af] 5 B6) (cF Z [si p,sh (DC b xs),Af,Af,Af,Af,Af] 5 Q5) (ds xs)=.ok (ds (xs.map λx=>x%p)):=by
  refine Ly xs λx _=>⟨rfl,?_⟩
  simp[cF,Q5,hr p x p0]
 have run:∀ o,CD (Bu Z 3 IN) (ds (xs.map λx=>x%p)) [si p,sh (DC b xs),sh (.L (ds (xs.map λx=>x%p))),Af,Af,Af,Af]=o->OR.run Z [.int p,DC b xs]=(Ic Z (.cons (.rais 3 (.cons (.str (Ao "all the numbers have the rest 0")) .nil)) .nil) o).ans Ae:=by
  rintro o rfl;simp[OR,Df.run,Bc,RD,cp]
 have le:A4 p (xs.map λx=>x%p)=A4 p xs:=by
  have:=KN (c:=1) hp (by rcases hp with rfl|rfl|rfl|rfl<;>decide) (f:=λx=>x%p) (λx=>by rw[CW,AY _ (BD p)]) xs
  rw[this];cases e:A4 p xs with
  |none=>rfl
  |some l=>
   obtain⟨_,l0,l1⟩:=Jl p0 e;simp[AI (Int.le_of_lt l0) l1]
 obtain⟨a,c⟩:=Wo (b:=b) (xs:=xs) hr ht hp (xs.map λx=>x%p) (xs.map λx=>x%p) (λy hy=>by
  obtain⟨x,_,rfl⟩:=A7.mp hy;exact⟨A3 _ (by omega),AV _ p0⟩) Af
 rw[le]at a c;rw[run _ (c l t e it)];simp[Þ,Do,Ih]
noncomputable def Dk(t q:Al)(a b c:R3):D:=if t=Aa then .H [Ai q a,Ai q b,Ai q c] else .L [Ai q a,Ai q b,Ai q c]
def QB(t q:Al)(a b c:R3):BR (Dk t q a b c) (.int 0)=.ok (Ai q a)/\BR (Dk t q a b c) (.int 1)=.ok (Ai q b)/\BR (Dk t q a b c) (.int 2)=.ok (Ai q c):=by cases t<;>exact⟨rfl,rfl,rfl⟩
def Pv(q:Al)(a:R3):Ct (Ai q a)=.ok [.int a.1,.int a.2.1,.int a.2.2]:=by cases q<;>rfl
def U_2(t q:Al)(a b c:R3):Ct (Dk t q a b c)=.ok [Ai q a,Ai q b,Ai q c]:=by cases t<;>rfl
noncomputable def BL(a b c:R3):R3:=(a.1,b.1,c.1)
noncomputable def BG(a b c:R3):R3:=(a.2.1,b.2.1,c.2.1)
noncomputable def BF(a b c:R3):R3:=(a.2.2,b.2.2,c.2.2)
noncomputable def Sf:Df:=⟨1,Ae,{.ret (.tupI (.zip3 (.x (.v 0) (.int 0)) (.x (.v 0) (.int 1)) (.x (.v 0) (.int 2))))}⟩
def NT(Z:Z2):Prop:=∀(t q:Al)(a b c:R3),Z.F 104 [Dk t q a b c]=.ok (Dk Aa Aa (BL a b c) (BG a b c) (BF a b c))
def ua(Z:Z2)(t q:Al)(a b c:R3):Sf.run Z [Dk t q a b c]=.ok (Dk Aa Aa (BL a b c) (BG a b c) (BF a b c)):=by
 obtain⟨r0,r1,r2⟩:=QB t q a b c;have z:MO (Ai q a) (Ai q b) (Ai q c)=.ok [Ai Aa (BL a b c),Ai Aa (BG a b c),Ai Aa (BF a b c)]:=by
  unfold MO;rw[Pv,Pv,Pv];rfl
 simp[Sf,Df.run,Bc,r0,r1,r2,z];rfl
noncomputable def Ay(a x:R3):Ad:=a.1*x.1+a.2.1*x.2.1+a.2.2*x.2.2
noncomputable def OC:E:=(.call 1 {.v 0,.B .Add (.B .Add (.B .Mult (.x (.v 3) (.int 0)) (.x (.v 2) (.int 0))) (.B .Mult (.x (.v 3) (.int 1)) (.x (.v 2) (.int 1)))) (.B .Mult (.x (.v 3) (.int 2)) (.x (.v 2) (.int 2)))})
noncomputable def Sa:Df:=⟨4,Ae,{.ret (.bi .tuple {.comp OC 3 (.e (.v 1)) B6})}⟩
def T9(Z:Z2):Prop:=∀(p:Ad)(t q q':Al)(a b c x:R3),0<p->B3 a->B3 b->B3 c->B3 x->Z.F 91 [.int p,Dk t q a b c,Ai q' x]=.ok (Ai Aa (Ay a x%p,Ay b x%p,Ay c x%p))
def ux(h:IV Z)(p:Ad)(t q q':Al)(a b c x:R3)(hp:0<p)(ha:B3 a)(hb:B3 b)(hc:B3 c)(hx:B3 x):Sa.run Z [.int p,Dk t q a b c,Ai q' x]=.ok (Ai Aa (Ay a x%p,Ay b x%p,Ay c x%p)):=by
 obtain⟨x0,x1,x2⟩:=FQ q' x;have k:∀ {u v},Bd 300 u->Bd 300 v->E5 u v=Aa:=λhu hv=>GB hu hv (by decide) (by decide)
 have key:∀ r:R3,B3 r->cF Z [si p,sh (Dk t q a b c),sh (Ai q' x),Af] 3 OC (Ai q r)=.ok (.int (Ay r x%p)):=λr hr=>by
  obtain⟨y0,y1,y2⟩:=FQ q r;simp[cF,OC,x0,x1,x2,y0,y1,y2,k hr.1 hx.1,k hr.2.1 hx.2.1,k hr.2.2 hx.2.2,h p _ hp];rfl
 have g:∀ r,cG Z [si p,sh (Dk t q a b c),sh (Ai q' x),Af] 3 B6 r=.ok Aa:=λ_=>rfl
 have cp:Bz (cG Z [si p,sh (Dk t q a b c),sh (Ai q' x),Af] 3 B6) (cF Z [si p,sh (Dk t q a b c),sh (Ai q' x),Af] 3 OC) [Ai q a,Ai q b,Ai q c]=.ok [.int (Ay a x%p),.int (Ay b x%p),.int (Ay c x%p)]:=by
  simp[Bz,g,key a ha,key b hb,key c hc]
 simp[Sa,Df.run,Bc,U_2,cp];rfl
noncomputable def Z8(a b:R3):R3:=(a.2.1*b.2.2-a.2.2*b.2.1,a.2.2*b.1-a.1*b.2.2,a.1*b.2.1-a.2.1*b.1)
def Xx:∀ xs ys:Ac Ad,My (ds xs) (ds ys)=decide (xs=ys)
 |[],[]=>rfl
 |[],_::_=>rfl
 |_::_,[]=>rfl
 |x::xs,y::ys=>by
  show ((x==y)&&My (ds xs) (ds ys))=_;rw[Xx xs ys,Dj];simp
def Hn(a b:R3):U4 (Ai Aa a) (Ai Aa b)=decide (a=b):=by
 show My (ds [a.1,a.2.1,a.2.2]) (ds [b.1,b.2.1,b.2.2])=_;rw[Xx,Dj];simp only[Jc,LS,AW];exact⟨λ⟨h1,h2,h3⟩=>by obtain⟨a1,a2,a3⟩:=a;obtain⟨b1,b2,b3⟩:=b;simp at h1 h2 h3;rw[h1,h2,h3],λh=>by rw[h];exact⟨rfl,rfl,rfl⟩⟩
def X3(Z:Z2):Prop:=∀ a b:R3,B3 a->B3 b->a≠b->Z.F 23 [Ai Aa a,Ai Aa b]=.ok (Ai Aa (Z8 a b))
noncomputable def Ri:Df:=⟨1,Ae,{.ret (.H {.call 23 {.x (.v 0) (.int 1),.x (.v 0) (.int 2)},.call 23 {.x (.v 0) (.int 2),.x (.v 0) (.int 0)},.call 23 {.x (.v 0) (.int 0),.x (.v 0) (.int 1)}})}⟩
def X2(Z:Z2):Prop:=∀ a b c:R3,B3 a->B3 b->B3 c->a≠b->b≠c->c≠a->Z.F 98 [Dk Aa Aa a b c]=.ok (Dk Aa Aa (Z8 b c) (Z8 c a) (Z8 a b))
def yC(h:X3 Z)(a b c:R3)(ha:B3 a)(hb:B3 b)(hc:B3 c)(n1:a≠b)(n2:b≠c)(n3:c≠a):Ri.run Z [Dk Aa Aa a b c]=.ok (Dk Aa Aa (Z8 b c) (Z8 c a) (Z8 a b)):=by
 obtain⟨r0,r1,r2⟩:=QB Aa Aa a b c;simp[Ri,Df.run,Bc,r0,r1,r2,h b c hb hc n2,h c a hc ha n3,h a b ha hb n1];rfl
def PF(Z:Z2):Prop:=∀(p:Ad)(t q:Al)(a b c:R3),P4 p->B3 a->B3 b->B3 c->Ak a b c%p≠0->∀ l u,A4 p (Z0 a b c)=Ab l->Em p l u->Z.F 78 [.int p,Dk t q a b c]=.ok (Cu (Z3 p u a) (Z3 p u b) (Z3 p u c))
def uv(hm:GR Z)(hf:NN Z)(p:Ad)(t q:Al)(a b c:R3)(hp:P4 p)(ha:B3 a)(hb:B3 b)(hc:B3 c)(z:Ak a b c%p≠0)(l u:Ad)(e:A4 p (Z0 a b c)=Ab l)(it:Em p l u):RO.run Z [.int p,Dk t q a b c]=.ok (Cu (Z3 p u a) (Z3 p u b) (Z3 p u c)):=by
 obtain⟨r0,r1,r2⟩:=QB t q a b c;have m:=hm p q a b c hp.pos ha hb hc;have f:=hf p Ae (Z0 a b c) l u hp e it;rw[XV]at f;have f':Z.F 17 [.int p,.L (ds (Z0 a b c))]=.ok (.H (ds (Z0 (Z3 p u a) (Z3 p u b) (Z3 p u c)))):=f;obtain⟨x1,x2⟩:=vW a b c;obtain⟨y1,y2,y3⟩:=nF (Z3 p u a) (Z3 p u b) (Z3 p u c);simp[RO,Df.run,Bc,r0,r1,r2,m,z,wk,x1,x2,f',y1,y2,y3,slE];rfl
noncomputable def Rx:Df:=⟨2,Ae,{.ret (.call 78 {.v 0,.call 104 {.call 98 {.v 1}}})}⟩
noncomputable def bk0(a b c:R3):R3:=BL (Z8 b c) (Z8 c a) (Z8 a b)
noncomputable def bk1(a b c:R3):R3:=BG (Z8 b c) (Z8 c a) (Z8 a b)
noncomputable def bk2(a b c:R3):R3:=BF (Z8 b c) (Z8 c a) (Z8 a b)
def PL(Z:Z2):Prop:=∀(p:Ad)(a b c:R3),P4 p->Z4 p a->Z4 p b->Z4 p c->Ak a b c%p≠0->∀ l u,A4 p (Z0 (bk0 a b c) (bk1 a b c) (bk2 a b c))=Ab l->Em p l u->Z.F 106 [.int p,Cu a b c]=.ok (Cu (Z3 p u (bk0 a b c)) (Z3 p u (bk1 a b c)) (Z3 p u (bk2 a b c)))
def KY{x:Ad}(hp:P4 p)(h0:0<=x)(h1:x<p):Bd 10 x:=by
 unfold Bd;have:=hp.hi;omega
def Bd.mono{x:Ad}(h:Bd m x)(hm:m<=n):Bd n x:=AF h (EG (by decide) hm)
def Bn(n:Ag)(a:R3):Prop:=Bd n a.1/\Bd n a.2.1/\Bd n a.2.2
def Bn.b3(h:Bn n a)(hn:n<=300):B3 a:=⟨h.1.mono hn,h.2.1.mono hn,h.2.2.mono hn⟩
def Cc(hp:P4 p)(h:Z4 p a):Bn 10 a:=⟨KY hp h.1.1 h.1.2,KY hp h.2.1.1 h.2.1.2,KY hp h.2.2.1 h.2.2.2⟩
def UB{a:R3}(ha:Bn n a)(hb:Bn n b):Bn (n+n+1) (Z8 a b):=
 ⟨(ha.2.1.mul hb.2.2).sub (ha.2.2.mul hb.2.1),(ha.2.2.mul hb.1).sub (ha.1.mul hb.2.2),(ha.1.mul hb.2.1).sub (ha.2.1.mul hb.1)⟩
def UC{a:R3}(ha:Bn n a)(hb:Bn n b)(hc:Bn n c):Bn n (BL a b c)/\Bn n (BG a b c)/\Bn n (BF a b c):=⟨⟨ha.1,hb.1,hc.1⟩,⟨ha.2.1,hb.2.1,hc.2.1⟩,⟨ha.2.2,hb.2.2,hc.2.2⟩⟩
def yj{a:R3}(z:Ak a b c%p≠0):a≠b/\b≠c/\c≠a:=by
 refine⟨λe=>z ?_,λe=>z ?_,λe=>z ?_⟩
 .subst e;rw[show Ak a a c=0 by unfold Ak U0;grind,Bp]
 .subst e;rw[show Ak a b b=0 by unfold Ak U0;grind,Bp]
 .subst e;rw[show Ak c b c=0 by unfold Ak U0;grind,Bp]
def MF(a b c:R3):Ak (bk0 a b c) (bk1 a b c) (bk2 a b c)=Ak a b c*Ak a b c:=by
 unfold Ak U0 bk0 bk1 bk2 BL BG BF Z8;grind
def qj(h1:X2 Z)(h2:NT Z)(h3:PF Z)(p:Ad)(a b c:R3)(hp:P4 p)(ha:Z4 p a)(hb:Z4 p b)(hc:Z4 p c)(z:Ak a b c%p≠0)(l u:Ad)(e:A4 p (Z0 (bk0 a b c) (bk1 a b c) (bk2 a b c))=Ab l)(it:Em p l u):Rx.run Z [.int p,Cu a b c]=.ok (Cu (Z3 p u (bk0 a b c)) (Z3 p u (bk1 a b c)) (Z3 p u (bk2 a b c))):=by
 have ba:=Cc hp ha;have bb:=Cc hp hb;have bc:=Cc hp hc;obtain⟨n1,n2,n3⟩:=yj z;have e1:Z.F 98 [Cu a b c]=.ok (Dk Aa Aa (Z8 b c) (Z8 c a) (Z8 a b)):=h1 a b c (ba.b3 (by decide)) (bb.b3 (by decide)) (bc.b3 (by decide)) n1 n2 n3
 have e2:=h2 Aa Aa (Z8 b c) (Z8 c a) (Z8 a b);obtain⟨c0,c1,c2⟩:=UC (UB bb bc) (UB bc ba) (UB ba bb);have z2:Ak (bk0 a b c) (bk1 a b c) (bk2 a b c)%p≠0:=by rw[MF];exact B4 hp z z
 have e3:Z.F 78 [.int p,Dk Aa Aa (BL (Z8 b c) (Z8 c a) (Z8 a b)) (BG (Z8 b c) (Z8 c a) (Z8 a b)) (BF (Z8 b c) (Z8 c a) (Z8 a b))]=.ok (Cu (Z3 p u (bk0 a b c)) (Z3 p u (bk1 a b c)) (Z3 p u (bk2 a b c))):=h3 p Aa Aa _ _ _ hp (c0.b3 (by decide)) (c1.b3 (by decide)) (c2.b3 (by decide)) z2 l u e it
 simp[Rx,Df.run,Bc,e1,e2,e3]
noncomputable def ø(p:Ad)(x a b c:R3):R3:=(Ay (BL a b c) x%p,Ay (BG a b c) x%p,Ay (BF a b c) x%p)
noncomputable def OU:E:=(.call 91 {.v 0,.v 3,.v 4})
noncomputable def To:Df:=⟨5,Ae,{.asg 3 Ae (.call 104 {.v 2}),.ret (.call 78 {.v 0,.comp OU 4 (.e (.v 1)) B6})}⟩
def Tu(Z:Z2):Prop:=∀(p:Ad)(x y z a b c:R3),P4 p->Z4 p x->Z4 p y->Z4 p z->Z4 p a->Z4 p b->Z4 p c->Ak (ø p x a b c) (ø p y a b c) (ø p z a b c)%p≠0->∀ l u,A4 p (Z0 (ø p x a b c) (ø p y a b c) (ø p z a b c))=Ab l->Em p l u ->
 Z.F 105 [.int p,Cu x y z,Cu a b c]=.ok (Cu (Z3 p u (ø p x a b c)) (Z3 p u (ø p y a b c)) (Z3 p u (ø p z a b c)))
def Um(hp:0<p)(x a b c:R3):Z4 p (ø p x a b c):=⟨⟨A3 _ (by omega),AV _ hp⟩,⟨A3 _ (by omega),AV _ hp⟩,⟨A3 _ (by omega),AV _ hp⟩⟩
def yE(h2:NT Z)(hs:T9 Z)(h3:PF Z)(p:Ad)(x y z a b c:R3)(hp:P4 p)(hx:Z4 p x)(hy:Z4 p y)(hz:Z4 p z)(ha:Z4 p a)(hb:Z4 p b)(hc:Z4 p c)(nz:Ak (ø p x a b c) (ø p y a b c) (ø p z a b c)%p≠0)(l u:Ad)(e:A4 p (Z0 (ø p x a b c) (ø p y a b c) (ø p z a b c))=Ab l)(it:Em p l u):To.run Z [.int p,Cu x y z,Cu a b c]=.ok (Cu (Z3 p u (ø p x a b c)) (Z3 p u (ø p y a b c)) (Z3 p u (ø p z a b c))):=by
 have p0:=hp.pos;have e1:Z.F 104 [Cu a b c]=.ok (Dk Aa Aa (BL a b c) (BG a b c) (BF a b c)):=h2 Aa Aa a b c;obtain⟨c0,c1,c2⟩:=UC (Cc hp ha) (Cc hp hb) (Cc hp hc);have es:∀ r:R3,Z4 p r->Z.F 91 [.int p,Dk Aa Aa (BL a b c) (BG a b c) (BF a b c),Ai Aa r]=.ok (Ai Aa (ø p r a b c)):=λr hr=>hs p Aa Aa Aa _ _ _ r p0 (c0.b3 (by decide)) (c1.b3 (by decide)) (c2.b3 (by decide)) ((Cc hp hr).b3 (by decide))
 have key:∀ r:R3,Z4 p r->cF Z [si p,sh (Cu x y z),sh (Cu a b c),sh (Dk Aa Aa (BL a b c) (BG a b c) (BF a b c)),Af] 4 OU (Ai Aa r)=.ok (Ai Aa (ø p r a b c)):=λr hr=>by
  simp[cF,OU,es r hr]
 have g:∀ r,cG Z [si p,sh (Cu x y z),sh (Cu a b c),sh (Dk Aa Aa (BL a b c) (BG a b c) (BF a b c)),Af] 4 B6 r=.ok Aa:=λ_=>rfl
 have sq:Ct (Cu x y z)=.ok [Ai Aa x,Ai Aa y,Ai Aa z]:=rfl;have cp:Bz (cG Z [si p,sh (Cu x y z),sh (Cu a b c),sh (Dk Aa Aa (BL a b c) (BG a b c) (BF a b c)),Af] 4 B6) (cF Z [si p,sh (Cu x y z),sh (Cu a b c),sh (Dk Aa Aa (BL a b c) (BG a b c) (BF a b c)),Af] 4 OU) [Ai Aa x,Ai Aa y,Ai Aa z]=.ok [Ai Aa (ø p x a b c),Ai Aa (ø p y a b c),Ai Aa (ø p z a b c)]:=by
  simp[Bz,g,key x hx,key y hy,key z hz]
 have e3:Z.F 78 [.int p,.L [Ai Aa (ø p x a b c),Ai Aa (ø p y a b c),Ai Aa (ø p z a b c)]]=.ok (Cu (Z3 p u (ø p x a b c)) (Z3 p u (ø p y a b c)) (Z3 p u (ø p z a b c))):=
  h3 p Ae Aa _ _ _ hp ((Cc hp (Um p0 x a b c)).b3 (by decide)) ((Cc hp (Um p0 y a b c)).b3 (by decide)) ((Cc hp (Um p0 z a b c)).b3 (by decide)) nz l u e it
 simp[To,Df.run,Bc,e1,sq,cp,e3]
noncomputable def Rn:E:=(.B .Mult (.v 0) (.v 2))
noncomputable def SG:Df:=⟨3,Ae,{.ret (.comp Rn 2 (.e (.v 1)) B6)}⟩
def vY(Z:Z2):Prop:=∀(k:Ad)(a:R3),0<=k->k<100->Z.F 110 [.int k,Ai Aa a]=.ok (Ai Ae (k*a.1,k*a.2.1,k*a.2.2))
def uG(Z:Z2)(k:Ad)(a:R3)(h0:0<=k)(h1:k<100):SG.run Z [.int k,Ai Aa a]=.ok (Ai Ae (k*a.1,k*a.2.1,k*a.2.2)):=by
 have m:∀ x,Ey k x=Aa:=λx=>IT (by omega) (by omega)
 have key:∀ x:Ad,cF Z [si k,sh (Ai Aa a),Af] 2 Rn (.int x)=.ok (.int (k*x)):=λx=>by
  simp[cF,Rn,m]
 have g:∀ x,cG Z [si k,sh (Ai Aa a),Af] 2 B6 x=.ok Aa:=λ_=>rfl
 simp[SG,Df.run,Bc,Pv,Bz,g,key];rfl
noncomputable def EW(a b c d:R3):D:=.L [Ai Aa a,Ai Aa b,Ai Aa c,Ai Aa d]
noncomputable def AU(k:Ad)(a:R3):R3:=(k*a.1,k*a.2.1,k*a.2.2)
def zL(a b c d:R3):BR (EW a b c d) (.int 0)=.ok (Ai Aa a)/\BR (EW a b c d) (.int 1)=.ok (Ai Aa b)/\BR (EW a b c d) (.int 2)=.ok (Ai Aa c)/\BR (EW a b c d) (.int 3)=.ok (Ai Aa d):=⟨rfl,rfl,rfl,rfl⟩
noncomputable def Ru:Df:=⟨3,Ae,{.asg 2 Ae (.H {.call 110 {.call 61 {.v 0,.x (.v 1) (.int 3),.x (.v 1) (.int 1),.x (.v 1) (.int 2)},.x (.v 1) (.int 0)},.call 110 {.call 61 {.v 0,.x (.v 1) (.int 0),.x (.v 1) (.int 3),.x (.v 1) (.int 2)},.x (.v 1) (.int 1)},.call 110 {.call 61 {.v 0,.x (.v 1) (.int 0),.x (.v 1) (.int 1),.x (.v 1) (.int 3)},.x (.v 1) (.int 2)}}),.ret (.call 78 {.v 0,.call 104 {.v 2}})}⟩
noncomputable def fk0(p:Ad)(a b c d:R3):Ad:=Ak d b c%p
noncomputable def fk1(p:Ad)(a b c d:R3):Ad:=Ak a d c%p
noncomputable def fk2(p:Ad)(a b c d:R3):Ad:=Ak a b d%p
noncomputable def ϝ(p:Ad)(a b c d:R3):R3:=AU (fk0 p a b c d) a
noncomputable def Ξ(p:Ad)(a b c d:R3):R3:=AU (fk1 p a b c d) b
noncomputable def Τ(p:Ad)(a b c d:R3):R3:=AU (fk2 p a b c d) c
noncomputable def ß(p:Ad)(a b c d:R3):R3:=BL (ϝ p a b c d) (Ξ p a b c d) (Τ p a b c d)
noncomputable def à(p:Ad)(a b c d:R3):R3:=BG (ϝ p a b c d) (Ξ p a b c d) (Τ p a b c d)
noncomputable def á(p:Ad)(a b c d:R3):R3:=BF (ϝ p a b c d) (Ξ p a b c d) (Τ p a b c d)
def QM(Z:Z2):Prop:=∀(p:Ad)(a b c d:R3),P4 p->Z4 p a->Z4 p b->Z4 p c->Z4 p d->Ak (ß p a b c d) (à p a b c d) (á p a b c d)%p≠0->∀ l u,A4 p (Z0 (ß p a b c d) (à p a b c d) (á p a b c d))=Ab l->Em p l u ->
 Z.F 111 [.int p,EW a b c d]=.ok (Cu (Z3 p u (ß p a b c d)) (Z3 p u (à p a b c d)) (Z3 p u (á p a b c d)))
def QA(hk:Bd n k)(ha:Bn m a):Bn (n+m) (AU k a):=⟨hk.mul ha.1,hk.mul ha.2.1,hk.mul ha.2.2⟩
def oC(hm:GR Z)(hs:vY Z)(h2:NT Z)(h3:PF Z)(p:Ad)(a b c d:R3)(hp:P4 p)(ha:Z4 p a)(hb:Z4 p b)(hc:Z4 p c)(hd:Z4 p d)(z:Ak (ß p a b c d) (à p a b c d) (á p a b c d)%p≠0)(l u:Ad)(e:A4 p (Z0 (ß p a b c d) (à p a b c d) (á p a b c d))=Ab l)(it:Em p l u):Ru.run Z [.int p,EW a b c d]=.ok (Cu (Z3 p u (ß p a b c d)) (Z3 p u (à p a b c d)) (Z3 p u (á p a b c d))):=by
 have p0:=hp.pos;have ph:=hp.hi;have ba:=(Cc hp ha).b3 (by decide)
 have bb:=(Cc hp hb).b3 (by decide)
 have bc:=(Cc hp hc).b3 (by decide)
 have bd:=(Cc hp hd).b3 (by decide)
 obtain⟨x0,x1,x2,x3⟩:=zL a b c d;have m0:=hm p Aa d b c p0 bd bb bc;have m1:=hm p Aa a d c p0 ba bd bc;have m2:=hm p Aa a b d p0 ba bb bd;have k0:0<=Ak d b c%p/\Ak d b c%p<p:=⟨A3 _ (by omega),AV _ p0⟩
 have k1:0<=Ak a d c%p/\Ak a d c%p<p:=⟨A3 _ (by omega),AV _ p0⟩
 have k2:0<=Ak a b d%p/\Ak a b d%p<p:=⟨A3 _ (by omega),AV _ p0⟩
 have s0:Z.F 110 [.int (Ak d b c%p),Ai Aa a]=.ok (Ai Ae (AU (Ak d b c%p) a)):=hs (Ak d b c%p) a k0.1 (by omega)
 have s1:Z.F 110 [.int (Ak a d c%p),Ai Aa b]=.ok (Ai Ae (AU (Ak a d c%p) b)):=hs (Ak a d c%p) b k1.1 (by omega)
 have s2:Z.F 110 [.int (Ak a b d%p),Ai Aa c]=.ok (Ai Ae (AU (Ak a b d%p) c)):=hs (Ak a b d%p) c k2.1 (by omega)
 have e2:Z.F 104 [.H [Ai Ae (AU (Ak d b c%p) a),Ai Ae (AU (Ak a d c%p) b),Ai Ae (AU (Ak a b d%p) c)]]=.ok (Dk Aa Aa (ß p a b c d) (à p a b c d) (á p a b c d)):=h2 Aa Ae _ _ _;obtain⟨c0,c1,c2⟩:=UC (QA (KY hp k0.1 k0.2) (Cc hp ha)) (QA (KY hp k1.1 k1.2) (Cc hp hb)) (QA (KY hp k2.1 k2.2) (Cc hp hc));have e3:=h3 p Aa Aa (ß p a b c d) (à p a b c d) (á p a b c d) hp (c0.b3 (by decide)) (c1.b3 (by decide)) (c2.b3 (by decide)) z l u e it
 simp[Ru,Df.run,Bc,x0,x1,x2,x3,m0,m1,m2,s0,s1,s2,e2,e3]
noncomputable def KJ:Ss:={.ife (.cmp .Eq (.call 61 {.v 0,.v 3,.x (.v 1) (.v 4),.x (.v 1) (.v 5)}) (.int 0)) {.ret (.H {.v 3,.x (.v 1) (.v 4),.x (.v 1) (.v 5)})} .nil}
noncomputable def Ln:Ss:={.fors 5 (.rng2 (.B .Add (.v 4) (.int 1)) (.bi .len {.v 1})) KJ}
noncomputable def IM:Ss:=(.cons (.fors 4 (.rng2 (.B .Add (.v 2) (.int 1)) (.bi .len (.cons (.v 1) .nil))) Ln) .nil)
noncomputable def Mf:Df:=⟨6,Ae,{.forT [2,3] (.enm (.v 1)) IM,.ret .O}⟩
def uL(p:Ad)(a b c d:D)(h0:Z.F 61 [.int p,a,b,c]=.ok (.int m0))(h1:Z.F 61 [.int p,a,b,d]=.ok (.int m1))(h2:Z.F 61 [.int p,a,c,d]=.ok (.int m2))(h3:Z.F 61 [.int p,b,c,d]=.ok (.int m3))(n0:m0≠0)(n1:m1≠0)(n2:m2≠0)(n3:m3≠0):Mf.run Z [.int p,.L [a,b,c,d]]=.ok .O:=by
 have x0:Dl [a,b,c,d] 0=.ok a:=rfl;have x1:Dl [a,b,c,d] 1=.ok b:=rfl;have x2:Dl [a,b,c,d] 2=.ok c:=rfl;have x3:Dl [a,b,c,d] 3=.ok d:=rfl;have r14:De 1 4=.ok [.int 1,.int 2,.int 3]:=rfl;have r24:De 2 4=.ok [.int 2,.int 3]:=rfl;have r34:De 3 4=.ok [.int 3]:=rfl;have r44:De 4 4=.ok []:=rfl;simp[Mf,Df.run,Bc,E6,CD,Bu,EI,KJ,Ln,IM,FH,x0,x1,x2,x3,r14,r24,r34,r44,h0,h1,h2,h3,n0,n1,n2,n3]
def Ig(p:Ad)(a b c d:R3):Prop:=Ak a b c%p≠0/\Ak a b d%p≠0/\Ak a c d%p≠0/\Ak b c d%p≠0
def UH(Z:Z2):Prop:=∀(p:Ad)(a b c d:R3),P4 p->Z4 p a->Z4 p b->Z4 p c->Z4 p d->Ig p a b c d->Z.F 109 [.int p,EW a b c d]=.ok .O
def vZ(Z:Z2):Prop:=∀(p:Ad)(a b c d:R3),P4 p->Z4 p a->Z4 p b->Z4 p c->Z4 p d->Ig p a b c d->Z.F 65 [.int p,EW a b c d]=.ok .O
def xZ(hm:GR Z)(p:Ad)(a b c d:R3)(hp:P4 p)(ha:Z4 p a)(hb:Z4 p b)(hc:Z4 p c)(hd:Z4 p d)(h:Ig p a b c d):Mf.run Z [.int p,EW a b c d]=.ok .O:=by
 have p0:=hp.pos;have ba:=(Cc hp ha).b3 (by decide)
 have bb:=(Cc hp hb).b3 (by decide)
 have bc:=(Cc hp hc).b3 (by decide)
 have bd:=(Cc hp hd).b3 (by decide)
 exact uL p _ _ _ _ (hm p Aa a b c p0 ba bb bc) (hm p Aa a b d p0 ba bb bd) (hm p Aa a c d p0 ba bc bd) (hm p Aa b c d p0 bb bc bd) h.1 h.2.1 h.2.2.1 h.2.2.2
noncomputable def Mg:Df:=⟨3,Ae,{.ife (.or {.cmp .NotEq (.bi .len {.v 1}) (.int 4),.cmp .NotEq (.bi .len {.v 2}) (.int 4)}) {.rais 13 {.str (Ao "a frame has four points")}} .nil,.expr (.call 109 {.v 0,.v 1}),.expr (.call 109 {.v 0,.v 2}),.ret (.call 105 {.v 0,.call 111 {.v 0,.v 2},.call 106 {.v 0,.call 111 {.v 0,.v 1}}})}⟩
def rb{a:R3}{N R:D}(e1:Z.F 109 [.int p,EW a b c d]=.ok .O)(e2:Z.F 109 [.int p,EW a' b' c' d']=.ok .O)(e3:Z.F 111 [.int p,EW a' b' c' d']=.ok N)(e4:Z.F 111 [.int p,EW a b c d]=.ok M)(e5:Z.F 106 [.int p,M]=.ok B)(e6:Z.F 105 [.int p,N,B]=.ok R):Mg.run Z [.int p,EW a b c d,EW a' b' c' d']=.ok R:=by
 have l1:Tm .len [EW a b c d]=.ok (.int 4):=rfl;have l2:Tm .len [EW a' b' c' d']=.ok (.int 4):=rfl;simp[Mg,Df.run,Bc,l1,l2,e1,e2,e3,e4,e5,e6]
def Z5(p:Ad)(x y:R3):Prop:=Cg p x.1 y.1/\Cg p x.2.1 y.2.1/\Cg p x.2.2 y.2.2
def Z5.rfl:Z5 p a a:=⟨Cg.rfl,Cg.rfl,Cg.rfl⟩
def Z5.of(h:a=b):Z5 p a b:=by rw[h];exact Z5.rfl
def Z5.trans(h:Z5 p a b)(g:Z5 p b c):Z5 p a c:=⟨h.1.trans g.1,h.2.1.trans g.2.1,h.2.2.trans g.2.2⟩
def Z5.symm(h:Z5 p a b):Z5 p b a:=⟨h.1.symm,h.2.1.symm,h.2.2.symm⟩
def Z5.sc(hk:Cg p k k')(h:Z5 p a b):Z5 p (AU k a) (AU k' b):=⟨hk.mul h.1,hk.mul h.2.1,hk.mul h.2.2⟩
def Z5.md(h:a=ö p b):Z5 p a b:=by rw[h];exact⟨Cg.md _root_.rfl,Cg.md _root_.rfl,Cg.md _root_.rfl⟩
def KP(ha:Z5 p a a')(hb:Z5 p b b')(hc:Z5 p c c'):Cg p (Ak a b c) (Ak a' b' c'):=by
 unfold Ak U0;exact J7 ha.1 ha.2.1 ha.2.2 hb.1 hb.2.1 hb.2.2 hc.1 hc.2.1 hc.2.2
def F5(ha:Z5 p a a')(hb:Z5 p b b'):Cg p (Ay a b) (Ay a' b'):=((ha.1.mul hb.1).add (ha.2.1.mul hb.2.1)).add (ha.2.2.mul hb.2.2)
def PR(ha:Z5 p a a')(hb:Z5 p b b')(hc:Z5 p c c'):Z5 p (BL a b c) (BL a' b' c')/\Z5 p (BG a b c) (BG a' b' c')/\Z5 p (BF a b c) (BF a' b' c'):=⟨⟨ha.1,hb.1,hc.1⟩,⟨ha.2.1,hb.2.1,hc.2.1⟩,⟨ha.2.2,hb.2.2,hc.2.2⟩⟩
def PQ(ha:Z5 p a a')(hb:Z5 p b b'):Z5 p (Z8 a b) (Z8 a' b'):=
 ⟨(ha.2.1.mul hb.2.2).sub (ha.2.2.mul hb.2.1),(ha.2.2.mul hb.1).sub (ha.1.mul hb.2.2),(ha.1.mul hb.2.1).sub (ha.2.1.mul hb.1)⟩
def kY(ha:Z5 p a a')(hb:Z5 p b b')(hc:Z5 p c c'):Z5 p (bk0 a b c) (bk0 a' b' c')/\Z5 p (bk1 a b c) (bk1 a' b' c')/\Z5 p (bk2 a b c) (bk2 a' b' c'):=PR (PQ hb hc) (PQ hc ha) (PQ ha hb)
def FI(p t:Ad)(a:R3):Z5 p (Z3 p t a) (AU t a):=by
 have key:∀ x:Ad,Cg p (t*(x%p)%p) (t*x):=λx=>(Cg.md _root_.rfl).trans (Cg.rfl.mul (Cg.md _root_.rfl))
 exact⟨key _,key _,key _⟩
noncomputable def rm(a x y z:R3):R3:=(Ay (BL x y z) a,Ay (BG x y z) a,Ay (BF x y z) a)
def kL(p:Ad)(a x y z:R3):Z5 p (ø p a x y z) (rm a x y z):=⟨Cg.md _root_.rfl,Cg.md _root_.rfl,Cg.md _root_.rfl⟩
def gW(ha:Z5 p a a')(hx:Z5 p x x')(hy:Z5 p y y')(hz:Z5 p z z'):Z5 p (rm a x y z) (rm a' x' y' z'):=by
 obtain⟨c0,c1,c2⟩:=PR hx hy hz;exact⟨F5 c0 ha,F5 c1 ha,F5 c2 ha⟩
noncomputable def ap(a b c x:R3):R3:=(Ay a x,Ay b x,Ay c x)
def TX(a b c x y z:R3):Ak (ap a b c x) (ap a b c y) (ap a b c z)=Ak a b c*Ak x y z:=by
 unfold Ak U0 ap Ay;grind
def LH(k l m:Ad)(x y z:R3):Ak (AU k x) (AU l y) (AU m z)=k*l*m*Ak x y z:=by
 unfold Ak U0 AU;grind
def IX(k l:Ad)(x:R3):AU k (AU l x)=AU (k*l) x:=by
 unfold AU;simp only[GK]
def ZB(a b c x:R3)(k:Ad):ap a b c (AU k x)=AU k (ap a b c x):=by
 unfold ap AU Ay;refine Bq ?_ (Bq ?_ ?_)<;>(simp only;grind)
def gU(k:Ad)(a x y z:R3):rm (AU k a) x y z=AU k (rm a x y z):=by
 unfold rm AU Ay BL BG BF;refine Bq ?_ (Bq ?_ ?_)<;>(simp only;grind)
def um(k:Ad)(a x y z:R3):rm a (AU k x) (AU k y) (AU k z)=AU k (rm a x y z):=by
 unfold rm AU Ay BL BG BF;refine Bq ?_ (Bq ?_ ?_)<;>(simp only;grind)
def kX(k:Ad)(x y z:R3):bk0 (AU k x) (AU k y) (AU k z)=AU (k*k) (bk0 x y z)/\bk1 (AU k x) (AU k y) (AU k z)=AU (k*k) (bk1 x y z)/\bk2 (AU k x) (AU k y) (AU k z)=AU (k*k) (bk2 x y z):=by
 unfold bk0 bk1 bk2 AU BL BG BF Z8;refine⟨?_,?_,?_⟩<;>refine Bq ?_ (Bq ?_ ?_)<;>(simp only;grind)
def gX(a x y z:R3):rm (rm a x y z) (bk0 x y z) (bk1 x y z) (bk2 x y z)=AU (Ak x y z) a:=by
 unfold rm AU Ay bk0 bk1 bk2 BL BG BF Z8 Ak U0;refine Bq ?_ (Bq ?_ ?_)<;>(simp only;grind)
def Xy(x y z:R3):Ak (BL x y z) (BG x y z) (BF x y z)=Ak x y z:=by
 unfold Ak U0 BL BG BF;grind
def IR(a b:R3):Ay a b=Ay b a:=by unfold Ay;grind
def HF{p x:Ad}(h:Cg p x y)(hy:y%p≠0):x%p≠0:=λz=>hy ((show x%p=y%p from h).symm.trans z)
def Ä{p x:Ad}(hp:P4 p)(hx:x%p≠0)(hy:y%p≠0)(hz:z%p≠0):x*y*z%p≠0:=B4 hp (B4 hp hx hy) hz
def NO(hx:Z5 p g0 (AU d0 (ap a b c f0)))(hy:Z5 p g1 (AU d1 (ap a b c f1)))(hz:Z5 p g2 (AU d2 (ap a b c f2))):Cg p (Ak g0 g1 g2) (d0*d1*d2*(Ak a b c*Ak f0 f1 f2)):=
 (KP hx hy hz).trans (Cg.of (by rw[LH,TX]))
def T4{x w:R3}(hx:Z5 p x' (AU k0 (ap a b c x)))(hy:Z5 p y' (AU k1 (ap a b c y)))(hz:Z5 p z' (AU k2 (ap a b c z)))(hw:Z5 p w' (AU k3 (ap a b c w)))(hK:K=k0*k1*k2*k3*Ak a b c):Z5 p (AU (Ak x' y' z'%p) w') (AU K (ap a b c (AU (Ak x y z%p) w))):=by
 have e1:Cg p (Ak x' y' z'%p) (k0*k1*k2*(Ak a b c*(Ak x y z%p))):=((Cg.md rfl).trans (NO hx hy hz)).trans (Cg.rfl.mul (Cg.rfl.mul (Cg.md rfl).symm));refine(Z5.sc e1 hw).trans (Z5.of ?_);rw[IX,ZB,IX,hK]
 congr 1
 grind
def zo(h0:Z5 p g0 (AU d0 (ap a b c f0)))(h1:Z5 p g1 (AU d1 (ap a b c f1)))(h2:Z5 p g2 (AU d2 (ap a b c f2)))(h3:Z5 p g3 (AU d3 (ap a b c f3))):Z5 p (ß p g0 g1 g2 g3) (AU (d0*d1*d2*d3*Ak a b c) (rm a (ß p f0 f1 f2 f3) (à p f0 f1 f2 f3) (á p f0 f1 f2 f3)))/\Z5 p (à p g0 g1 g2 g3) (AU (d0*d1*d2*d3*Ak a b c) (rm b (ß p f0 f1 f2 f3) (à p f0 f1 f2 f3) (á p f0 f1 f2 f3)))/\Z5 p (á p g0 g1 g2 g3) (AU (d0*d1*d2*d3*Ak a b c) (rm c (ß p f0 f1 f2 f3) (à p f0 f1 f2 f3) (á p f0 f1 f2 f3))):=by
 have s0:Z5 p (ϝ p g0 g1 g2 g3) (AU (d0*d1*d2*d3*Ak a b c) (ap a b c (ϝ p f0 f1 f2 f3))):=T4 h3 h1 h2 h0 (by grind)
 have s1:Z5 p (Ξ p g0 g1 g2 g3) (AU (d0*d1*d2*d3*Ak a b c) (ap a b c (Ξ p f0 f1 f2 f3))):=T4 h0 h3 h2 h1 (by grind)
 have s2:Z5 p (Τ p g0 g1 g2 g3) (AU (d0*d1*d2*d3*Ak a b c) (ap a b c (Τ p f0 f1 f2 f3))):=T4 h0 h1 h3 h2 (by grind)
 obtain⟨c0,c1,c2⟩:=PR s0 s1 s2;have key:∀ r:R3,rm r (ß p f0 f1 f2 f3) (à p f0 f1 f2 f3) (á p f0 f1 f2 f3)=(Ay r (ϝ p f0 f1 f2 f3),Ay r (Ξ p f0 f1 f2 f3),Ay r (Τ p f0 f1 f2 f3)):=λr=>by
  rw[IR r,IR r,IR r];rfl
 rw[key a,key b,key c];exact⟨c0,c1,c2⟩
def zq(p:Ad)(f0 f1 f2 f3:R3):Ak (ß p f0 f1 f2 f3) (à p f0 f1 f2 f3) (á p f0 f1 f2 f3)=fk0 p f0 f1 f2 f3*fk1 p f0 f1 f2 f3*fk2 p f0 f1 f2 f3*Ak f0 f1 f2:=by
 unfold ß à á;rw[Xy];unfold ϝ Ξ Τ;rw[LH]
def ML{x:Ad}(h:x%p≠0):x%p%p≠0:=by rw[AY _ (BD p)];exact h
def Uy(hp:P4 p)(h:Ig p f0 f1 f2 f3):Ak (ß p f0 f1 f2 f3) (à p f0 f1 f2 f3) (á p f0 f1 f2 f3)%p≠0:=by
 rw[zq];obtain⟨h1,h2,h3,h4⟩:=h;have k0:Ak f3 f1 f2%p≠0:=by rw[show Ak f3 f1 f2=Ak f1 f2 f3 by unfold Ak U0;grind];exact h4
 have k1:Ak f0 f3 f2%p≠0:=by rw[show Ak f0 f3 f2=-1*Ak f0 f2 f3 by unfold Ak U0;grind];exact B4 hp hp.m1 h3
 exact B4 hp (Ä hp (ML k0) (ML k1) (ML h2)) h1
def gw(hp:P4 p)(hD:Ak a b c%p≠0)(n0:d0%p≠0)(n1:d1%p≠0)(n2:d2%p≠0)(n3:d3%p≠0)(h0:Z5 p g0 (AU d0 (ap a b c f0)))(h1:Z5 p g1 (AU d1 (ap a b c f1)))(h2:Z5 p g2 (AU d2 (ap a b c f2)))(h3:Z5 p g3 (AU d3 (ap a b c f3)))(h:Ig p f0 f1 f2 f3):Ig p g0 g1 g2 g3:=
 ⟨HF (NO h0 h1 h2) (B4 hp (Ä hp n0 n1 n2) (B4 hp hD h.1)),HF (NO h0 h1 h3) (B4 hp (Ä hp n0 n1 n3) (B4 hp hD h.2.1)),HF (NO h0 h2 h3) (B4 hp (Ä hp n0 n2 n3) (B4 hp hD h.2.2.1)),HF (NO h1 h2 h3) (B4 hp (Ä hp n1 n2 n3) (B4 hp hD h.2.2.2))⟩
def gy{a x:R3}(hp:P4 p)(hk:k%p≠0)(ha:Z4 p a)(hb:Z4 p b)(hc:Z4 p c)(l1:A4 p (Z0 a b c)=Ab 1)(hx:Z5 p x (AU k a))(hy:Z5 p y (AU k b))(hz:Z5 p z (AU k c)):∃ l u,A4 p (Z0 x y z)=Ab l/\Em p l u/\Z3 p u x=a/\Z3 p u y=b/\Z3 p u z=c:=by
 have p1:1<p:=by have:=hp.lo;omega
 have rs:(Z0 x y z).map (λx=>x%p)=((Z0 a b c).map λx=>k*x).map (λx=>x%p):=by
  simp only[Z0,BA,G7];rw[show x.1%p=k*a.1%p from hx.1,show x.2.1%p=k*a.2.1%p from hx.2.1,show x.2.2%p=k*a.2.2%p from hx.2.2,show y.1%p=k*b.1%p from hy.1,show y.2.1%p=k*b.2.1%p from hy.2.1,show y.2.2%p=k*b.2.2%p from hy.2.2,show z.1%p=k*c.1%p from hz.1,show z.2.1%p=k*c.2.1%p from hz.2.1,show z.2.2%p=k*c.2.2%p from hz.2.2]
 have it:Em p 1 1:=⟨by decide,p1,by rw[CW,AI (by decide) p1]⟩
 have l0:(1:Ad)%p≠0:=hp.o1;obtain⟨u,iu,eu⟩:=uB hp hk l0 it (f:=λx=>k*x) (λ_=>rfl) (Z0 a b c)
 have el:=KN hp hk (f:=λx=>k*x) (λ_=>rfl) (Z0 a b c)
 rw[l1,<-Mn rs]at el;rw[<-Sv rs]at eu;have one:∀ v:Ad,0<=v->v<p->1*(v%p)%p=v:=λv h0 h1=>by rw[CW,AY _ (BD p),AI h0 h1]
 have same:Þ p 1 (Z0 a b c)=Z0 a b c:=by
  unfold Þ Z0;simp only[BA,G7];rw[one _ ha.1.1 ha.1.2,one _ ha.2.1.1 ha.2.1.2,one _ ha.2.2.1 ha.2.2.2,one _ hb.1.1 hb.1.2,one _ hb.2.1.1 hb.2.1.2,one _ hb.2.2.1 hb.2.2.2,one _ hc.1.1 hc.1.2,one _ hc.2.1.1 hc.2.1.2,one _ hc.2.2.1 hc.2.2.2]
 rw[same,XV]at eu;obtain⟨e1,e2,e3⟩:=uA eu;exact⟨_,u,el,iu,e1,e2,e3⟩
def xU(hk:UH Z)(hf:QM Z)(hb:PL Z)(ha:Tu Z){a:R3}(hp:P4 p)(ia:Z4 p a)(ib:Z4 p b)(ic:Z4 p c)(hD:Ak a b c%p≠0)(l1:A4 p (Z0 a b c)=Ab 1)(i0:Z4 p f0)(i1:Z4 p f1)(i2:Z4 p f2)(i3:Z4 p f3)(hg:Ig p f0 f1 f2 f3)(j0:Z4 p g0)(j1:Z4 p g1)(j2:Z4 p g2)(j3:Z4 p g3)(n0:d0%p≠0)(n1:d1%p≠0)(n2:d2%p≠0)(n3:d3%p≠0)(h0:Z5 p g0 (AU d0 (ap a b c f0)))(h1:Z5 p g1 (AU d1 (ap a b c f1)))(h2:Z5 p g2 (AU d2 (ap a b c f2)))(h3:Z5 p g3 (AU d3 (ap a b c f3))):Mg.run Z [.int p,EW f0 f1 f2 f3,EW g0 g1 g2 g3]=.ok (Cu a b c):=by
 have p0:=hp.pos;have ϻ:=gw hp hD n0 n1 n2 n3 h0 h1 h2 h3 hg;have e1:=hk p f0 f1 f2 f3 hp i0 i1 i2 i3 hg;have e2:=hk p g0 g1 g2 g3 hp j0 j1 j2 j3 ϻ;have zM:=Uy hp hg;have zN:=Uy hp ϻ;obtain⟨r0,r1,r2⟩:=zo h0 h1 h2 h3
 obtain⟨lM,eM⟩:=NE zM;obtain⟨v,v1,v2,v3⟩:=Hm hp (Jl p0 eM).1;have e4:=hf p f0 f1 f2 f3 hp i0 i1 i2 i3 zM lM v eM ⟨v1,v2,v3⟩;obtain⟨lN,eN⟩:=NE zN;obtain⟨u,u1,u2,u3⟩:=Hm hp (Jl p0 eN).1;have e3:=hf p g0 g1 g2 g3 hp j0 j1 j2 j3 zN lN u eN ⟨u1,u2,u3⟩;have vz:v%p≠0:=by rw[AI (by omega) v2];omega
 have uz:u%p≠0:=by rw[AI (by omega) u2];omega
 generalize ß p f0 f1 f2 f3=x,à p f0 f1 f2 f3=y,á p f0 f1 f2 f3=z,ß p g0 g1 g2 g3=x',à p g0 g1 g2 g3=y',á p g0 g1 g2 g3=z' at *;have mx:=FI p v x;have my:=FI p v y;have mz:=FI p v z;have kx:Z4 p (Z3 p v x):=GD p0 v x;have ky:Z4 p (Z3 p v y):=GD p0 v y;have kz:Z4 p (Z3 p v z):=GD p0 v z;have zM':Ak (Z3 p v x) (Z3 p v y) (Z3 p v z)%p≠0:=HF ((KP mx my mz).trans (Cg.of (LH v v v x y z))) (B4 hp (Ä hp vz vz vz) zM);obtain⟨b0,b1,b2⟩:=kY mx my mz;obtain⟨s0,s1,s2⟩:=kX v x y z;rw[s0]at b0;rw[s1]at b1;rw[s2]at b2;have zB:Ak (bk0 (Z3 p v x) (Z3 p v y) (Z3 p v z)) (bk1 (Z3 p v x) (Z3 p v y) (Z3 p v z)) (bk2 (Z3 p v x) (Z3 p v y) (Z3 p v z))%p≠0:=by rw[MF];exact B4 hp zM' zM'
 obtain⟨lB,eB⟩:=NE zB;obtain⟨w,w1,w2,w3⟩:=Hm hp (Jl p0 eB).1;have wz:w%p≠0:=by rw[AI (by omega) w2];omega
 have e5:=hb p _ _ _ hp kx ky kz zM' lB w eB ⟨w1,w2,w3⟩;generalize bk0 (Z3 p v x) (Z3 p v y) (Z3 p v z)=B0,bk1 (Z3 p v x) (Z3 p v y) (Z3 p v z)=B1,bk2 (Z3 p v x) (Z3 p v y) (Z3 p v z)=B2 at *;have c0:Z5 p (Z3 p w B0) (AU (w*(v*v)) (bk0 x y z)):=(FI p w B0).trans ((Z5.sc Cg.rfl b0).trans (Z5.of (IX _ _ _)));have c1:Z5 p (Z3 p w B1) (AU (w*(v*v)) (bk1 x y z)):=(FI p w B1).trans ((Z5.sc Cg.rfl b1).trans (Z5.of (IX _ _ _)));have c2:Z5 p (Z3 p w B2) (AU (w*(v*v)) (bk2 x y z)):=(FI p w B2).trans ((Z5.sc Cg.rfl b2).trans (Z5.of (IX _ _ _)))
 have row:∀{r t:R3},Z5 p t (AU (d0*d1*d2*d3*Ak a b c) (rm r x y z))->Z5 p (ø p (Z3 p u t) (Z3 p w B0) (Z3 p w B1) (Z3 p w B2)) (AU (w*(v*v)*(u*(d0*d1*d2*d3*Ak a b c))*Ak x y z) r):=λ{r t} ht=>by
  have q:Z5 p (Z3 p u t) (AU (u*(d0*d1*d2*d3*Ak a b c)) (rm r x y z)):=(FI p u t).trans ((Z5.sc Cg.rfl ht).trans (Z5.of (IX _ _ _)));refine(kL p _ _ _ _).trans ((gW q c0 c1 c2).trans (Z5.of ?_));rw[um,gU,gX,IX,IX]
 have q0:=row r0;have q1:=row r1;have q2:=row r2;have kz':w*(v*v)*(u*(d0*d1*d2*d3*Ak a b c))*Ak x y z%p≠0:=B4 hp (B4 hp (B4 hp wz (B4 hp vz vz)) (B4 hp uz (B4 hp (B4 hp (Ä hp n0 n1 n2) n3) hD))) zM;obtain⟨l,t,el,it,f0',Ł,f2'⟩:=gy hp kz' ia ib ic l1 q0 q1 q2;have zR:Ak (ø p (Z3 p u x') (Z3 p w B0) (Z3 p w B1) (Z3 p w B2)) (ø p (Z3 p u y') (Z3 p w B0) (Z3 p w B1) (Z3 p w B2)) (ø p (Z3 p u z') (Z3 p w B0) (Z3 p w B1) (Z3 p w B2))%p≠0:=HF ((KP q0 q1 q2).trans (Cg.of (LH _ _ _ a b c))) (B4 hp (Ä hp kz' kz' kz') hD);have e6:=ha p _ _ _ _ _ _ hp (GD p0 u x') (GD p0 u y') (GD p0 u z') (GD p0 w B0) (GD p0 w B1) (GD p0 w B2) zR l t el it;rw[f0',Ł,f2']at e6;exact rb e1 e2 e3 e4 e5 e6
noncomputable def Rv:E:=(.call 1 {.v 0,.v 3})
noncomputable def RC:Df:=⟨4,Ae,{.asg 2 Ae (.comp Rv 3 (.e (.v 1)) B6),.ife (.no (.bi .any {.v 2})) {.rais 5 {.str (Ao "all six numbers have the rest 0")}} .nil,.ret (.call 17 {.v 0,.v 2})}⟩
noncomputable def Q3:Df:=⟨1,Ae,{.ret (.call 122 {.v 0,.H {.int 0,.int 1,.int 0,.int 0,.un .USub (.int 1),.int 0}})}⟩
def WW:∀ xs:Ac Ad,F6 (ds xs)=.ok (xs.any λx=>x != 0)
 |[]=>rfl
 |x::xs=>by
  show (Fl (.int x)).bind (λb=>(F6 (ds xs)).bind λc=>.ok (b||c))=_
  rw[WW xs];rfl
def WG{p:Ad}(hp:0<p):∀ xs:Ac Ad,((xs.map λx=>x%p).any λx=>x != 0)=(A4 p xs).isSome
 |[]=>rfl
 |x::xs=>by
  unfold A4;rw[BA,Kf];by_cases h:x%p=0
  .rw[AC h,h,WG hp xs];rfl
  .rw[AH h];simp[h]
def Zi(xs:Ac Ad):(xs.map λx=>x%p).map (λx=>x%p)=xs.map λx=>x%p:=by
 rw[Do];refine CM λx _=>?_
 show x%p%p=x%p;rw[AY _ (BD p)]
def InL(p:Ad)(xs:Ac Ad):Prop:=∀ x∈xs,0<=x/\x<p
structure C6 where
 c0:Ad
 c1:Ad
 c2:Ad
 c3:Ad
 c4:Ad
 c5:Ad
noncomputable def C6.l(C:C6):Ac Ad:=[C.c0,C.c1,C.c2,C.c3,C.c4,C.c5]
noncomputable def BY(C:C6):D:=.H (ds C.l)
noncomputable def vI(C:C6)(x:R3):Ad:=C.c0*x.1*x.1+C.c1*x.2.1*x.2.1+C.c2*x.2.2*x.2.2+(C.c3*x.1*x.2.1+C.c4*x.1*x.2.2+C.c5*x.2.1*x.2.2)
noncomputable def ò(C:C6):R3:=(2*C.c0,C.c3,C.c4)
noncomputable def ó(C:C6):R3:=(C.c3,2*C.c1,C.c5)
noncomputable def ú(C:C6):R3:=(C.c4,C.c5,2*C.c2)
noncomputable def bI(C:C6)(x y:R3):Ad:=Ay (ap (ò C) (ó C) (ú C) x) y
noncomputable def ù(k:Ad)(C:C6):C6:=⟨k*C.c0,k*C.c1,k*C.c2,k*C.c3,k*C.c4,k*C.c5⟩
def KK(p:Ad)(C D:C6):Prop:=Cg p C.c0 D.c0/\Cg p C.c1 D.c1/\Cg p C.c2 D.c2/\Cg p C.c3 D.c3/\Cg p C.c4 D.c4/\Cg p C.c5 D.c5
noncomputable def pb(C:C6)(a b c:R3):C6:=⟨vI C (BL a b c),vI C (BG a b c),vI C (BF a b c),bI C (BL a b c) (BG a b c),bI C (BL a b c) (BF a b c),bI C (BG a b c) (BF a b c)⟩
section
variable{D E:C6}
def C6.ext'(h0:C.c0=D.c0)(h1:C.c1=D.c1)(h2:C.c2=D.c2)(h3:C.c3=D.c3)(h4:C.c4=D.c4)(h5:C.c5=D.c5):C=D:=by
 cases C;cases D;simp_all
def KK.rfl:KK p C C:=⟨Cg.rfl,Cg.rfl,Cg.rfl,Cg.rfl,Cg.rfl,Cg.rfl⟩
def KK.of(h:C=D):KK p C D:=by rw[h];exact KK.rfl
def KK.symm(h:KK p C D):KK p D C:=⟨h.1.symm,h.2.1.symm,h.2.2.1.symm,h.2.2.2.1.symm,h.2.2.2.2.1.symm,h.2.2.2.2.2.symm⟩
def KK.trans(h:KK p C D)(g:KK p D E):KK p C E:=⟨h.1.trans g.1,h.2.1.trans g.2.1,h.2.2.1.trans g.2.2.1,h.2.2.2.1.trans g.2.2.2.1,h.2.2.2.2.1.trans g.2.2.2.2.1,h.2.2.2.2.2.trans g.2.2.2.2.2⟩
def KK.sc(hk:Cg p k k')(h:KK p C D):KK p (ù k C) (ù k' D):=⟨hk.mul h.1,hk.mul h.2.1,hk.mul h.2.2.1,hk.mul h.2.2.2.1,hk.mul h.2.2.2.2.1,hk.mul h.2.2.2.2.2⟩
def Jr(h:KK p C D)(hx:Z5 p x x'):Cg p (vI C x) (vI D x'):=
 (((((h.1.mul hx.1).mul hx.1).add ((h.2.1.mul hx.2.1).mul hx.2.1)).add ((h.2.2.1.mul hx.2.2).mul hx.2.2))).add ((((h.2.2.2.1.mul hx.1).mul hx.2.1).add ((h.2.2.2.2.1.mul hx.1).mul hx.2.2)).add ((h.2.2.2.2.2.mul hx.2.1).mul hx.2.2))
def Y_7(h:KK p C D):Z5 p (ò C) (ò D)/\Z5 p (ó C) (ó D)/\Z5 p (ú C) (ú D):=
 ⟨⟨Cg.rfl.mul h.1,h.2.2.2.1,h.2.2.2.2.1⟩,⟨h.2.2.2.1,Cg.rfl.mul h.2.1,h.2.2.2.2.2⟩,⟨h.2.2.2.2.1,h.2.2.2.2.2,Cg.rfl.mul h.2.2.1⟩⟩
def Zyp(ha:Z5 p a a')(hb:Z5 p b b')(hc:Z5 p c c')(hx:Z5 p x x'):Z5 p (ap a b c x) (ap a' b' c' x'):=⟨F5 ha hx,F5 hb hx,F5 hc hx⟩
def UD(h:KK p C D)(hx:Z5 p x x')(hy:Z5 p y y'):Cg p (bI C x y) (bI D x' y'):=
 let ⟨t0,t1,t2⟩:=Y_7 h
 F5 (Zyp t0 t1 t2 hx) hy
def Qg(h:KK p C D)(ha:Z5 p a a')(hb:Z5 p b b')(hc:Z5 p c c'):KK p (pb C a b c) (pb D a' b' c'):=
 let ⟨s0,s1,s2⟩:=PR ha hb hc
 ⟨Jr h s0,Jr h s1,Jr h s2,UD h s0 s1,UD h s0 s2,UD h s1 s2⟩
def Py(k l:Ad)(C:C6):ù k (ù l C)=ù (k*l) C:=by
 unfold ù;simp only[GK]
def Pj(C:C6):ù 1 C=C:=by unfold ù;simp only[CW]
def jY(k:Ad)(C:C6)(a b c:R3):pb (ù k C) a b c=ù k (pb C a b c):=by
 unfold pb ù vI bI ap ò ó ú Ay;refine C6.ext' ?_ ?_ ?_ ?_ ?_ ?_<;>(simp only;grind)
def xm(k:Ad)(C:C6)(a b c:R3):pb C (AU k a) (AU k b) (AU k c)=ù (k*k) (pb C a b c):=by
 unfold pb ù vI bI ap ò ó ú Ay BL BG BF AU;refine C6.ext' ?_ ?_ ?_ ?_ ?_ ?_<;>(simp only;grind)
def Yg(C:C6)(x y z:R3)(k l m:Ad):vI C (k*x.1+l*y.1+m*z.1,k*x.2.1+l*y.2.1+m*z.2.1,k*x.2.2+l*y.2.2+m*z.2.2)=k*k*vI C x+l*l*vI C y+m*m*vI C z+(k*l*bI C x y+k*m*bI C x z+l*m*bI C y z):=by
 unfold vI bI ap ò ó ú Ay;simp only;grind
def Y_0(C:C6)(x y z w:R3)(k l m:Ad):bI C (k*x.1+l*y.1+m*z.1,k*x.2.1+l*y.2.1+m*z.2.1,k*x.2.2+l*y.2.2+m*z.2.2) w=k*bI C x w+l*bI C y w+m*bI C z w:=by
 unfold bI ap ò ó ú Ay;simp only;grind
def LC(C:C6)(x y:R3):bI C x y=bI C y x:=by
 unfold bI ap ò ó ú Ay;simp only;grind
def Mw(C:C6)(x:R3):bI C x x=2*vI C x:=by
 unfold vI bI ap ò ó ú Ay;simp only;grind
def kM(v0 v1 v2 b0 b1 b2:Ad)(u:R3):vI ⟨v0,v1,v2,b0,b1,b2⟩ u=u.1*u.1*v0+u.2.1*u.2.1*v1+u.2.2*u.2.2*v2+(u.1*u.2.1*b0+u.1*u.2.2*b1+u.2.1*u.2.2*b2):=by
 unfold vI;simp only;grind
def kN(v0 v1 v2 b0 b1 b2:Ad)(u w:R3):bI ⟨v0,v1,v2,b0,b1,b2⟩ u w=u.1*(w.1*(2*v0)+w.2.1*b0+w.2.2*b1)+u.2.1*(w.1*b0+w.2.1*(2*v1)+w.2.2*b2)+u.2.2*(w.1*b1+w.2.1*b2+w.2.2*(2*v2)):=by
 unfold bI ap ò ó ú Ay;simp only;grind
def mG(C:C6)(s0 s1 s2 u:R3):vI C (u.1*s0.1+u.2.1*s1.1+u.2.2*s2.1,u.1*s0.2.1+u.2.1*s1.2.1+u.2.2*s2.2.1,u.1*s0.2.2+u.2.1*s1.2.2+u.2.2*s2.2.2)=vI ⟨vI C s0,vI C s1,vI C s2,bI C s0 s1,bI C s0 s2,bI C s1 s2⟩ u:=by
 exact(Yg C s0 s1 s2 u.1 u.2.1 u.2.2).trans (kM _ _ _ _ _ _ u).symm
def mH(C:C6)(s0 s1 s2 u w:R3):bI C (u.1*s0.1+u.2.1*s1.1+u.2.2*s2.1,u.1*s0.2.1+u.2.1*s1.2.1+u.2.2*s2.2.1,u.1*s0.2.2+u.2.1*s1.2.2+u.2.2*s2.2.2) (w.1*s0.1+w.2.1*s1.1+w.2.2*s2.1,w.1*s0.2.1+w.2.1*s1.2.1+w.2.2*s2.2.1,w.1*s0.2.2+w.2.1*s1.2.2+w.2.2*s2.2.2)=bI ⟨vI C s0,vI C s1,vI C s2,bI C s0 s1,bI C s0 s2,bI C s1 s2⟩ u w:=by
 have e:∀ s:R3,bI C s (w.1*s0.1+w.2.1*s1.1+w.2.2*s2.1,w.1*s0.2.1+w.2.1*s1.2.1+w.2.2*s2.2.1,w.1*s0.2.2+w.2.1*s1.2.2+w.2.2*s2.2.2)=w.1*bI C s0 s+w.2.1*bI C s1 s+w.2.2*bI C s2 s:=λs=>(LC C _ _).trans (Y_0 C s0 s1 s2 s w.1 w.2.1 w.2.2)
 refine JR ?_ (kN _ _ _ _ _ _ u w).symm;rw[Y_0,e,e,e,Mw C s0,Mw C s1,Mw C s2,LC C s1 s0,LC C s2 s0,LC C s2 s1]
def Zm(C:C6)(a b c x y z:R3):pb (pb C a b c) x y z=pb C (rm a x y z) (rm b x y z) (rm c x y z):=by
 have v:=λu=>(mG C (BL a b c) (BG a b c) (BF a b c) u).symm
 have w:=λu u'=>(mH C (BL a b c) (BG a b c) (BF a b c) u u').symm
 exact C6.ext' (v (BL x y z)) (v (BG x y z)) (v (BF x y z)) (w (BL x y z) (BG x y z)) (w (BL x y z) (BF x y z)) (w (BG x y z) (BF x y z))
def Zn(C:C6)(k:Ad):pb C (k,0,0) (0,k,0) (0,0,k)=ù (k*k) C:=by
 unfold pb ù vI bI ap ò ó ú Ay BL BG BF;refine C6.ext' ?_ ?_ ?_ ?_ ?_ ?_<;>(simp only;grind)
def Yq(a b c:R3):rm a (bk0 a b c) (bk1 a b c) (bk2 a b c)=(Ak a b c,0,0)/\rm b (bk0 a b c) (bk1 a b c) (bk2 a b c)=(0,Ak a b c,0)/\rm c (bk0 a b c) (bk1 a b c) (bk2 a b c)=(0,0,Ak a b c):=by
 unfold rm Ay bk0 bk1 bk2 BL BG BF Z8 Ak U0;refine⟨?_,?_,?_⟩<;>refine Bq ?_ (Bq ?_ ?_)<;>(simp only;grind)
def TW(C:C6)(a b c:R3):Ak (ò (pb C a b c)) (ó (pb C a b c)) (ú (pb C a b c))=Ak a b c*Ak a b c*Ak (ò C) (ó C) (ú C):=by
 have row:∀ s:R3,(bI C s (BL a b c),bI C s (BG a b c),bI C s (BF a b c))=ap (BL a b c) (BG a b c) (BF a b c) (ap (ò C) (ó C) (ú C) s):=λs=>by
  unfold bI;rw[IR,IR _ (BG a b c),IR _ (BF a b c)];rfl
 have e0:ò (pb C a b c)=(bI C (BL a b c) (BL a b c),bI C (BL a b c) (BG a b c),bI C (BL a b c) (BF a b c)):=by rw[Mw];rfl
 have e1:ó (pb C a b c)=(bI C (BG a b c) (BL a b c),bI C (BG a b c) (BG a b c),bI C (BG a b c) (BF a b c)):=by rw[Mw,LC C (BG a b c) (BL a b c)];rfl
 have e2:ú (pb C a b c)=(bI C (BF a b c) (BL a b c),bI C (BF a b c) (BG a b c),bI C (BF a b c) (BF a b c)):=by rw[Mw,LC C (BF a b c) (BL a b c),LC C (BF a b c) (BG a b c)];rfl
 rw[e0,e1,e2,row,row,row,TX,TX,Xy];grind
def im(k:Ad)(C:C6):Ak (ò (ù k C)) (ó (ù k C)) (ú (ù k C))=k*k*k*Ak (ò C) (ó C) (ú C):=by
 rw[<-LH];unfold ò ó ú ù AU;simp only[<-GK,Cd 2 k]
def ë(p:Ad)(C D:C6):Prop:=∃ d,d%p≠0/\KK p C (ù d D)
def ë.trans(hp:P4 p)(i:ë p C D)(j:ë p D E):ë p C E:=by
 obtain⟨d,dz,e⟩:=i;obtain⟨d',Ŭ,e'⟩:=j;exact⟨d*d',B4 hp dz Ŭ,e.trans ((KK.sc Cg.rfl e').trans (KK.of (Py _ _ _)))⟩
def TZ(hp:P4 p)(dz:k%p≠0):∃ u,u%p≠0/\Cg p (u*k) 1:=by
 obtain⟨u,u1,u2,u3⟩:=Hm hp dz;refine⟨u,by rw[AI (by omega) u2];omega,?_⟩
 show u*k%p=1%p;rw[Cd,u3,AI (by decide) (by have:=hp.lo;omega)]
def ë.symm(hp:P4 p)(i:ë p C D):ë p D C:=by
 obtain⟨d,dz,e⟩:=i;obtain⟨u,uz,o⟩:=TZ hp dz;refine⟨u,uz,?_⟩;have q:=KK.sc (k:=u) (k':=u) Cg.rfl e;rw[Py]at q;exact(q.trans ((KK.sc o KK.rfl).trans (KK.of (Pj D)))).symm
def ë.tab(hp:P4 p)(kz:k%p≠0)(ha:Z5 p a (AU k a'))(hb:Z5 p b (AU k b'))(hc:Z5 p c (AU k c')):ë p (OvC.pb C a b c) (OvC.pb C a' b' c'):=
 ⟨k*k,B4 hp kz kz,(Qg KK.rfl ha hb hc).trans (KK.of (xm k C a' b' c'))⟩
def ï(p:Ad)(C:C6):Prop:=∀ x∈C.l,0<=x/\x<p
def rO(hp:P4 p)(iC:ï p C)(iD:ï p D)(lC:A4 p C.l=Ab 1)(lD:A4 p D.l=Ab 1)(h:ë p C D):C=D:=by
 obtain⟨d,dz,e⟩:=h;have p1:1<p:=by have:=hp.lo;omega
 have rs:C.l.map (λx=>x%p)=(D.l.map λx=>d*x).map (λx=>x%p):=by
  obtain⟨h0,h1,h2,h3,h4,h5⟩:=e;simp only[C6.l,BA,G7];rw[show C.c0%p=d*D.c0%p from h0,show C.c1%p=d*D.c1%p from h1,show C.c2%p=d*D.c2%p from h2,show C.c3%p=d*D.c3%p from h3,show C.c4%p=d*D.c4%p from h4,show C.c5%p=d*D.c5%p from h5]
 have el:=KN hp dz (f:=λx=>d*x) (λ_=>rfl) D.l
 rw[lD,<-Mn rs,lC,Ff,CB,DK]at el;have o:Cg p d 1:=by
  show d%p=1%p;rw[<-el,AI (by decide) p1]
 obtain⟨h0,h1,h2,h3,h4,h5⟩:=e.trans ((KK.sc o KK.rfl).trans (KK.of (Pj D)));have same:∀{u v:Ad},u∈C.l->v∈D.l->Cg p u v->u=v:=λhu hv ą=>by
  have:=show _%p=_%p from ą
  rwa [AI (iC _ hu).1 (iC _ hu).2,AI (iD _ hv).1 (iD _ hv).2]at this
 exact C6.ext' (same (by simp[C6.l]) (by simp[C6.l]) h0) (same (by simp[C6.l]) (by simp[C6.l]) h1) (same (by simp[C6.l]) (by simp[C6.l]) h2) (same (by simp[C6.l]) (by simp[C6.l]) h3) (same (by simp[C6.l]) (by simp[C6.l]) h4) (same (by simp[C6.l]) (by simp[C6.l]) h5)
def b7(hp:P4 p)(lC:A4 p C.l=Ab l)(z:Ak a b c%p≠0)(h:KK p E (OvC.pb C a b c)):∃ l,A4 p E.l=Ab l:=by
 cases el:A4 p E.l with
 |some l=>exact⟨l,_root_.rfl⟩
 |none=>
  have hz:=J5.mp el;have e0:KK p E (ù 0 E):=by
   have k:∀ x∈E.l,Cg p x (0*x):=λx hx=>by show x%p=0*x%p;rw[hz x hx,EN,Bp]
   exact⟨k _ (by simp[C6.l]),k _ (by simp[C6.l]),k _ (by simp[C6.l]),k _ (by simp[C6.l]),k _ (by simp[C6.l]),k _ (by simp[C6.l])⟩
  have q:KK p (OvC.pb E (bk0 a b c) (bk1 a b c) (bk2 a b c)) (ù (Ak a b c*Ak a b c) C):=by
   refine(Qg h Z5.rfl Z5.rfl Z5.rfl).trans (KK.of ?_);obtain⟨r0,r1,r2⟩:=Yq a b c;rw[Zm,r0,r1,r2,Zn]
  have q0:KK p (OvC.pb E (bk0 a b c) (bk1 a b c) (bk2 a b c)) (ù 0 (OvC.pb E (bk0 a b c) (bk1 a b c) (bk2 a b c))):=by
   have:=Qg e0 (Z5.rfl (a:=bk0 a b c)) (Z5.rfl (a:=bk1 a b c)) (Z5.rfl (a:=bk2 a b c))
   rwa [jY]at this
  obtain⟨u,uz,o⟩:=TZ hp (B4 hp z z);have t:KK p C (ù 0 (OvC.pb E (bk0 a b c) (bk1 a b c) (bk2 a b c))):=by
   have w:=KK.sc (k:=u) (k':=u) Cg.rfl (q.symm.trans q0);rw[Py,Py,CT]at w;exact((KK.of (Pj C).symm).trans (KK.sc o.symm KK.rfl)).trans w
  have z0:A4 p C.l=Af:=by
   refine J5.mpr λx hx=>?_
   obtain⟨h0,h1,h2,h3,h4,h5⟩:=t;have k:∀{x y:Ad},Cg p x (0*y)->x%p=0:=λ{x y} h=>by rw[show x%p=_ from h,EN,Bp]
   simp only[C6.l,Aw,A2,Ca]at hx;rcases hx with rfl|rfl|rfl|rfl|rfl|rfl
   .exact k h0
   .exact k h1
   .exact k h2
   .exact k h3
   .exact k h4
   .exact k h5
  rw[z0]at lC;cases lC
end
noncomputable def NS:Df:=⟨5,Ae,{.asg 3 Ae (.B .Add (.B .Add (.B .Mult (.B .Mult (.x (.v 1) (.int 0)) (.x (.v 2) (.int 0))) (.x (.v 2) (.int 0))) (.B .Mult (.B .Mult (.x (.v 1) (.int 1)) (.x (.v 2) (.int 1))) (.x (.v 2) (.int 1)))) (.B .Mult (.B .Mult (.x (.v 1) (.int 2)) (.x (.v 2) (.int 2))) (.x (.v 2) (.int 2)))),.asg 4 Ae (.B .Add (.B .Add (.B .Mult (.B .Mult (.x (.v 1) (.int 3)) (.x (.v 2) (.int 0))) (.x (.v 2) (.int 1))) (.B .Mult (.B .Mult (.x (.v 1) (.int 4)) (.x (.v 2) (.int 0))) (.x (.v 2) (.int 2)))) (.B .Mult (.B .Mult (.x (.v 1) (.int 5)) (.x (.v 2) (.int 1))) (.x (.v 2) (.int 2)))),.ret (.call 1 {.v 0,.B .Add (.v 3) (.v 4)})}⟩
noncomputable def Q2:Df:=⟨2,Ae,{.ret (.H {.H {.call 1 {.v 0,.B .Mult (.int 2) (.x (.v 1) (.int 0))},.x (.v 1) (.int 3),.x (.v 1) (.int 4)},.H {.x (.v 1) (.int 3),.call 1 {.v 0,.B .Mult (.int 2) (.x (.v 1) (.int 1))},.x (.v 1) (.int 5)},.H {.x (.v 1) (.int 4),.x (.v 1) (.int 5),.call 1 {.v 0,.B .Mult (.int 2) (.x (.v 1) (.int 2))}}})}⟩
noncomputable def RB:Df:=⟨3,Ae,{.asg 2 Ae (.call 131 {.v 0,.v 1}),.ret (.cmp .NotEq (.call 61 {.v 0,.x (.v 2) (.int 0),.x (.v 2) (.int 1),.x (.v 2) (.int 2)}) (.int 0))}⟩
noncomputable def Tn:Df:=⟨5,Ae,{.asg 4 Ae (.call 91 {.v 0,.call 131 {.v 0,.v 1},.v 2}),.ret (.B .Add (.B .Add (.B .Mult (.x (.v 4) (.int 0)) (.x (.v 3) (.int 0))) (.B .Mult (.x (.v 4) (.int 1)) (.x (.v 3) (.int 1)))) (.B .Mult (.x (.v 4) (.int 2)) (.x (.v 3) (.int 2))))}⟩
noncomputable def OS:E:=(.call 126 {.v 0,.v 1,.v 6})
noncomputable def O9:Df:=⟨7,Ae,{.asg 3 Ae (.call 104 {.call 106 {.v 0,.v 2}}),.asg 4 Ae (.comp OS 6 (.e (.v 3)) B6),.asg 5 Ae (.L {.call 132 {.v 0,.v 1,.x (.v 3) (.int 0),.x (.v 3) (.int 1)},.call 132 {.v 0,.v 1,.x (.v 3) (.int 0),.x (.v 3) (.int 2)},.call 132 {.v 0,.v 1,.x (.v 3) (.int 1),.x (.v 3) (.int 2)}}),.ret (.call 122 {.v 0,.B .Add (.v 4) (.v 5)})}⟩
def ix6(C:C6):BR (BY C) (.int 0)=.ok (.int C.c0)/\BR (BY C) (.int 1)=.ok (.int C.c1)/\BR (BY C) (.int 2)=.ok (.int C.c2)/\BR (BY C) (.int 3)=.ok (.int C.c3)/\BR (BY C) (.int 4)=.ok (.int C.c4)/\BR (BY C) (.int 5)=.ok (.int C.c5):=⟨rfl,rfl,rfl,rfl,rfl,rfl⟩
structure BC (C:C6):Prop where
 b0:Bd 10 C.c0
 b1:Bd 10 C.c1
 b2:Bd 10 C.c2
 b3:Bd 10 C.c3
 b4:Bd 10 C.c4
 b5:Bd 10 C.c5
def ï.b(hp:P4 p)(h:ï p C):BC C:=by
 have k:∀ x∈C.l,Bd 10 x:=λx hx=>KY hp (h x hx).1 (h x hx).2
 exact⟨k _ (by simp[C6.l]),k _ (by simp[C6.l]),k _ (by simp[C6.l]),k _ (by simp[C6.l]),k _ (by simp[C6.l]),k _ (by simp[C6.l])⟩
def Tr(Z:Z2):Prop:=∀(p:Ad)(C:C6)(x:R3),P4 p->ï p C->Z4 p x->Z.F 126 [.int p,BY C,Ai Aa x]=.ok (.int (vI C x%p))
def xM(hr:IV Z)(p:Ad)(C:C6)(x:R3)(hp:P4 p)(iC:ï p C)(ix:Z4 p x):NS.run Z [.int p,BY C,Ai Aa x]=.ok (.int (vI C x%p)):=by
 obtain⟨i0,i1,i2,i3,i4,i5⟩:=ix6 C;obtain⟨x0,x1,x2⟩:=FQ Aa x;have bC:=iC.b hp;have bx:=Cc hp ix;have k:∀ {u v},Bd 10 u->Bd 10 v->E5 u v=Aa:=λhu hv=>GB hu hv (by decide) (by decide)
 have k2:∀ {u v w},Bd 10 u->Bd 10 v->Bd 10 w->E5 (u*v) w=Aa:=λhu hv hw=>GB (hu.mul hv) hw (by decide) (by decide)
 simp[NS,Df.run,Bc,i0,i1,i2,i3,i4,i5,x0,x1,x2,k bC.b0 bx.1,k bC.b1 bx.2.1,k bC.b2 bx.2.2,k bC.b3 bx.1,k bC.b4 bx.1,k bC.b5 bx.2.1,k2 bC.b0 bx.1 bx.1,k2 bC.b1 bx.2.1 bx.2.1,k2 bC.b2 bx.2.2 bx.2.2,k2 bC.b3 bx.1 bx.2.1,k2 bC.b4 bx.1 bx.2.2,k2 bC.b5 bx.2.1 bx.2.2,hr p _ hp.pos];rfl
noncomputable def t0(p:Ad)(C:C6):R3:=(2*C.c0%p,C.c3,C.c4)
noncomputable def t1(p:Ad)(C:C6):R3:=(C.c3,2*C.c1%p,C.c5)
noncomputable def t2(p:Ad)(C:C6):R3:=(C.c4,C.c5,2*C.c2%p)
def UO(hp:P4 p)(h:ï p C):Z4 p (t0 p C)/\Z4 p (t1 p C)/\Z4 p (t2 p C):=by
 have p0:=hp.pos;have k:∀ x∈C.l,0<=x/\x<p:=h;have m:∀ x:Ad,0<=x%p/\x%p<p:=λx=>⟨A3 _ (by omega),AV _ p0⟩
 exact⟨⟨m _,k _ (by simp[C6.l,t0]),k _ (by simp[C6.l,t0])⟩,⟨k _ (by simp[C6.l,t1]),m _,k _ (by simp[C6.l,t1])⟩,⟨k _ (by simp[C6.l,t2]),k _ (by simp[C6.l,t2]),m _⟩⟩
def UZ(p:Ad)(C:C6):Z5 p (t0 p C) (ò C)/\Z5 p (t1 p C) (ó C)/\Z5 p (t2 p C) (ú C):=⟨⟨Cg.md rfl,Cg.rfl,Cg.rfl⟩,⟨Cg.rfl,Cg.md rfl,Cg.rfl⟩,⟨Cg.rfl,Cg.rfl,Cg.md rfl⟩⟩
def Ts(Z:Z2):Prop:=∀(p:Ad)(C:C6),P4 p->Z.F 131 [.int p,BY C]=.ok (Cu (t0 p C) (t1 p C) (t2 p C))
def xN(hr:IV Z)(p:Ad)(C:C6)(hp:P4 p):Q2.run Z [.int p,BY C]=.ok (Cu (t0 p C) (t1 p C) (t2 p C)):=by
 obtain⟨i0,i1,i2,i3,i4,i5⟩:=ix6 C;have m22:∀ y,Ey 2 y=Aa:=λy=>IT (by decide) (by decide)
 simp[Q2,Df.run,Bc,i0,i1,i2,i3,i4,i5,m22,hr p _ hp.pos];rfl
noncomputable def Β(p:Ad)(C:C6)(x y:R3):Ad:=Ay (Ay (t0 p C) x%p,Ay (t1 p C) x%p,Ay (t2 p C) x%p) y
def Ul(p:Ad)(C:C6)(x y:R3):Cg p (Β p C x y) (bI C x y):=by
 obtain⟨h0,h1,h2⟩:=UZ p C;exact F5 ⟨(Cg.md rfl).trans (F5 h0 Z5.rfl),(Cg.md rfl).trans (F5 h1 Z5.rfl),(Cg.md rfl).trans (F5 h2 Z5.rfl)⟩ Z5.rfl
def YD(Z:Z2):Prop:=∀(p:Ad)(C:C6)(x y:R3),P4 p->ï p C->Z4 p x->Z4 p y->Z.F 132 [.int p,BY C,Ai Aa x,Ai Aa y]=.ok (.int (Β p C x y))
def re(ht:Ts Z)(hs:T9 Z)(p:Ad)(C:C6)(x y:R3)(hp:P4 p)(iC:ï p C)(ix:Z4 p x)(iy:Z4 p y):Tn.run Z [.int p,BY C,Ai Aa x,Ai Aa y]=.ok (.int (Β p C x y)):=by
 have p0:=hp.pos;obtain⟨h0,h1,h2⟩:=UO hp iC;have e1:=ht p C hp;have e2:Z.F 91 [.int p,Cu (t0 p C) (t1 p C) (t2 p C),Ai Aa x]=_:=hs p Aa Aa Aa (t0 p C) (t1 p C) (t2 p C) x p0 ((Cc hp h0).b3 (by decide)) ((Cc hp h1).b3 (by decide)) ((Cc hp h2).b3 (by decide)) ((Cc hp ix).b3 (by decide))
 have iw:Z4 p (Ay (t0 p C) x%p,Ay (t1 p C) x%p,Ay (t2 p C) x%p):=⟨⟨A3 _ (by omega),AV _ p0⟩,⟨A3 _ (by omega),AV _ p0⟩,⟨A3 _ (by omega),AV _ p0⟩⟩
 unfold Β;generalize (Ay (t0 p C) x%p,Ay (t1 p C) x%p,Ay (t2 p C) x%p)=w at *;obtain⟨x0,x1,x2⟩:=FQ Aa w;obtain⟨y0,y1,y2⟩:=FQ Aa y;have bw:=Cc hp iw;have ľ:=Cc hp iy;have k:∀ {u v},Bd 10 u->Bd 10 v->E5 u v=Aa:=λhu hv=>GB hu hv (by decide) (by decide)
 simp[Tn,Df.run,Bc,e1,e2,x0,x1,x2,y0,y1,y2,k bw.1 ľ.1,k bw.2.1 ľ.2.1,k bw.2.2 ľ.2.2];rfl
def PK(Z:Z2):Prop:=∀(p:Ad)(b:Al)(xs:Ac Ad)(l t:Ad),P4 p->A4 p xs=Ab l->Em p l t->Z.F 122 [.int p,DC b xs]=.ok (.H (ds (Þ p t xs)))
def qg(hr:IV Z)(hf:NN Z)(hp:P4 p)(e:A4 p xs=Ab l)(it:Em p l t):RC.run Z [.int p,DC b xs]=.ok (.H (ds (Þ p t xs))):=by
 have p0:=hp.pos;have cp:Bz (cG Z [si p,sh (DC b xs),Af,Af] 3 B6) (cF Z [si p,sh (DC b xs),Af,Af] 3 Rv) (ds xs)=.ok (ds (xs.map λx=>x%p)):=by
  refine Ly xs λx _=>⟨rfl,?_⟩
  simp[cF,Rv,hr p x p0]
 have an:=WW (xs.map λx=>x%p)
 rw[WG p0,e]at an;have le:A4 p (xs.map λx=>x%p)=Ab l:=by rw[Mn (Zi xs)];exact e
 have f:=hf p Ae (xs.map λx=>x%p) l t hp le it
 rw[Sv (Zi xs)]at f;have f':Z.F 17 [.int p,.L (ds (xs.map λx=>x%p))]=.ok (.H (ds (Þ p t xs))):=f
 simp[RC,Df.run,Bc,RD,cp,an,f']
def Uz{E:C6}(hp:P4 p)(el:A4 p E.l=Ab l):∃(t:Ad)(D:C6),Em p l t/\Þ p t E.l=D.l/\ï p D/\A4 p D.l=Ab 1/\ë p D E:=by
 have p0:=hp.pos;obtain⟨lz,_,_⟩:=Jl p0 el;obtain⟨t,t1,t2,t3⟩:=Hm hp lz;have tz:t%p≠0:=by rw[AI (by omega) t2];omega
 have ff:∀ x,(t*(x%p)%p)%p=t*x%p:=λx=>by rw[AY _ (BD p),Be t (x%p) p,AY _ (BD p),<-Be]
 have lv:=KN hp tz (f:=λx=>t*(x%p)%p) ff E.l
 rw[el,Ff,Cd,t3]at lv;have key:∀ x:Ad,Cg p (t*(x%p)%p) (t*x):=λx=>(Cg.md rfl).trans (Cg.rfl.mul (Cg.md rfl))
 refine⟨t,⟨t*(E.c0%p)%p,t*(E.c1%p)%p,t*(E.c2%p)%p,t*(E.c3%p)%p,t*(E.c4%p)%p,t*(E.c5%p)%p⟩,⟨t1,t2,t3⟩,rfl,λx hx=>?_,lv,t,tz,key _,key _,key _,key _,key _,key _⟩
 obtain⟨y,_,rfl⟩:=A7.mp (show x∈E.l.map λx=>t*(x%p)%p from hx)
 exact⟨A3 _ (by omega),AV _ p0⟩
def xT(hb:PL Z)(hc:NT Z)(hv:Tr Z)(hm:YD Z)(hf:PK Z)(p:Ad)(C:C6)(a b c:R3)(iC:ï p C)(lC:A4 p C.l=Ab 1)(T:U7 p a b c):∃ D:C6,ï p D/\A4 p D.l=Ab 1/\ë p D (pb C (bk0 a b c) (bk1 a b c) (bk2 a b c))/\O9.run Z [.int p,BY C,Cu a b c]=.ok (BY D):=by
 have hp:=T.p4;have p0:=hp.pos;have zB:Ak (bk0 a b c) (bk1 a b c) (bk2 a b c)%p≠0:=by rw[MF];exact B4 hp T.nz T.nz
 obtain⟨l,el⟩:=NE zB;obtain⟨u,u1,u2,u3⟩:=Hm hp (Jl p0 el).1;have uz:u%p≠0:=by rw[AI (by omega) u2];omega
 have e1:=hb p a b c hp T.ia T.ib T.ic T.nz l u el ⟨u1,u2,u3⟩;have r0:=FI p u (bk0 a b c);have r1:=FI p u (bk1 a b c);have r2:=FI p u (bk2 a b c);have i0:=GD p0 u (bk0 a b c);have i1:=GD p0 u (bk1 a b c);have i2:=GD p0 u (bk2 a b c);have zR:Ak (Z3 p u (bk0 a b c)) (Z3 p u (bk1 a b c)) (Z3 p u (bk2 a b c))%p≠0:=HF ((KP r0 r1 r2).trans (Cg.of (LH u u u _ _ _))) (B4 hp (Ä hp uz uz uz) zB);have pr:ë p (pb C (Z3 p u (bk0 a b c)) (Z3 p u (bk1 a b c)) (Z3 p u (bk2 a b c))) (pb C (bk0 a b c) (bk1 a b c) (bk2 a b c)):=ë.tab hp uz r0 r1 r2;generalize Z3 p u (bk0 a b c)=x,Z3 p u (bk1 a b c)=y,Z3 p u (bk2 a b c)=z at *;have e2:Z.F 104 [Cu x y z]=.ok (Cu (BL x y z) (BG x y z) (BF x y z)):=hc Aa Aa x y z;have j0:Z4 p (BL x y z):=⟨i0.1,i1.1,i2.1⟩;have j1:Z4 p (BG x y z):=⟨i0.2.1,i1.2.1,i2.2.1⟩;have j2:Z4 p (BF x y z):=⟨i0.2.2,i1.2.2,i2.2.2⟩;have m01:=hm p C _ _ hp iC j0 j1;have m02:=hm p C _ _ hp iC j0 j2;have m12:=hm p C _ _ hp iC j1 j2;have v0:=hv p C _ hp iC j0;have v1:=hv p C _ hp iC j1;have v2:=hv p C _ hp iC j2;have cg:KK p ⟨vI C (BL x y z)%p,vI C (BG x y z)%p,vI C (BF x y z)%p,Β p C (BL x y z) (BG x y z),Β p C (BL x y z) (BF x y z),Β p C (BG x y z) (BF x y z)⟩ (pb C x y z):=⟨Cg.md rfl,Cg.md rfl,Cg.md rfl,Ul p C _ _,Ul p C _ _,Ul p C _ _⟩;obtain⟨l',el'⟩:=b7 hp lC zR cg;obtain⟨t,D,it,eD,iD,lD,pD⟩:=Uz hp el';have e3:=hf p Ae _ l' t hp el' it;rw[eD]at e3;refine⟨D,iD,lD,(pD.trans hp ⟨1,hp.o1,cg.trans (KK.of (Pj _).symm)⟩).trans hp pr,?_⟩;generalize hX:(Β p C (BL x y z) (BG x y z))=M01,hY:(Β p C (BL x y z) (BF x y z))=M02,hZ:(Β p C (BG x y z) (BF x y z))=M12,vI C (BL x y z)%p=V0,vI C (BG x y z)%p=V1,vI C (BF x y z)%p=V2 at *;have e3':Z.F 122 [.int p,.L [.int V0,.int V1,.int V2,.int M01,.int M02,.int M12]]=.ok (BY D):=e3;have key:∀(r:R3)(v:Ad),Z.F 126 [.int p,BY C,Ai Aa r]=.ok (.int v)->cF Z [si p,sh (BY C),sh (Cu a b c),sh (Cu (BL x y z) (BG x y z) (BF x y z)),Af,Af,Af] 6 OS (Ai Aa r)=.ok (.int v):=λr v h=>by
  simp[cF,OS,h]
 have gg:∀ r,cG Z [si p,sh (BY C),sh (Cu a b c),sh (Cu (BL x y z) (BG x y z) (BF x y z)),Af,Af,Af] 6 B6 r=.ok Aa:=λ_=>rfl
 have cp:Bz (cG Z [si p,sh (BY C),sh (Cu a b c),sh (Cu (BL x y z) (BG x y z) (BF x y z)),Af,Af,Af] 6 B6) (cF Z [si p,sh (BY C),sh (Cu a b c),sh (Cu (BL x y z) (BG x y z) (BF x y z)),Af,Af,Af] 6 OS) [Ai Aa (BL x y z),Ai Aa (BG x y z),Ai Aa (BF x y z)]=.ok [.int V0,.int V1,.int V2]:=by
  simp[Bz,gg,key _ _ v0,key _ _ v1,key _ _ v2]
 have sq:Ct (Cu (BL x y z) (BG x y z) (BF x y z))=.ok [Ai Aa (BL x y z),Ai Aa (BG x y z),Ai Aa (BF x y z)]:=rfl;have k0:BR (Cu (BL x y z) (BG x y z) (BF x y z)) (.int 0)=.ok (Ai Aa (BL x y z)):=rfl;have k1:BR (Cu (BL x y z) (BG x y z) (BF x y z)) (.int 1)=.ok (Ai Aa (BG x y z)):=rfl;have k2:BR (Cu (BL x y z) (BG x y z) (BF x y z)) (.int 2)=.ok (Ai Aa (BF x y z)):=rfl;have ad:DD .Add (.L [.int V0,.int V1,.int V2]) (.L [.int M01,.int M02,.int M12])=.ok (.L [.int V0,.int V1,.int V2,.int M01,.int M02,.int M12]):=rfl;simp[O9,Df.run,Bc,e1,e2,cp,sq,k0,k1,k2,m01,m02,m12,ad,e3']
noncomputable def Μ:R3:=(1,0,0)
noncomputable def Ν:R3:=(0,1,0)
noncomputable def e2R:R3:=(0,0,1)
noncomputable def e3R:R3:=(1,1,1)
def mZ(hp:P4 p):Z4 p Μ/\Z4 p Ν/\Z4 p e2R/\Z4 p e3R:=by
 have z:0<=(0:Ad)/\(0:Ad)<p:=⟨by decide,hp.pos⟩
 have o:0<=(1:Ad)/\(1:Ad)<p:=⟨by decide,by have:=hp.lo;omega⟩
 exact⟨⟨o,z,z⟩,⟨z,o,z⟩,⟨z,z,o⟩,⟨o,o,o⟩⟩
def lO(hp:P4 p):Ig p Μ Ν e2R e3R:=by
 rcases hp with rfl|rfl|rfl|rfl<;>exact⟨by decide,by decide,by decide,by decide⟩
structure ğ (p:Ad) (f0 f1 f2 f3:R3):Prop where
 i0:Z4 p f0
 i1:Z4 p f1
 i2:Z4 p f2
 i3:Z4 p f3
 gen:Ig p f0 f1 f2 f3
def Pr(p:Ad)(x y:R3):Prop:=∃ d,d%p≠0/\Z5 p x (AU d y)
def Pz(x:R3):AU 1 x=x:=by unfold AU;simp only[CW]
def Pr.trans(hp:P4 p)(i:Pr p x y)(j:Pr p y z):Pr p x z:=by
 obtain⟨d,dz,e⟩:=i;obtain⟨d',Ŭ,e'⟩:=j;exact⟨d*d',B4 hp dz Ŭ,e.trans ((Z5.sc Cg.rfl e').trans (Z5.of (IX _ _ _)))⟩
def Pr.symm(hp:P4 p)(i:Pr p x y):Pr p y x:=by
 obtain⟨d,dz,e⟩:=i;obtain⟨u,u1,u2,u3⟩:=Hm hp dz;have uz:u%p≠0:=by rw[AI (by omega) u2];omega
 have o:Cg p (u*d) 1:=by
  show u*d%p=1%p;rw[Cd,u3,AI (by decide) (by have:=hp.lo;omega)]
 refine⟨u,uz,?_⟩;have q:=Z5.sc (k:=u) (k':=u) Cg.rfl e;rw[IX]at q;exact(q.trans ((Z5.sc o Z5.rfl).trans (Z5.of (Pz y)))).symm
def Pr.cg(hp:P4 p)(e:Z5 p x y):Pr p x y:=⟨1,hp.o1,e.trans (Z5.of (Pz y).symm)⟩
def Qj(ha:Z5 p a a')(hb:Z5 p b b')(hc:Z5 p c c')(hx:Z5 p x x'):Z5 p (ap a b c x) (ap a' b' c' x'):=⟨F5 ha hx,F5 hb hx,F5 hc hx⟩
def Pr.ap(i:Pr p x y):Pr p (OvC.ap a b c x) (OvC.ap a b c y):=by
 obtain⟨d,dz,e⟩:=i;exact⟨d,dz,(Qj Z5.rfl Z5.rfl Z5.rfl e).trans (Z5.of (ZB a b c y d))⟩
def Zyn(k:Ad)(a b c x:R3):ap (AU k a) (AU k b) (AU k c) x=AU k (ap a b c x):=by
 unfold ap AU Ay;refine Bq ?_ (Bq ?_ ?_)<;>(simp only;grind)
def Pr.tab(kz:k%p≠0)(ha:Z5 p a (AU k a'))(hb:Z5 p b (AU k b'))(hc:Z5 p c (AU k c')):Pr p (OvC.ap a b c x) (OvC.ap a' b' c' x):=
 ⟨k,kz,(Qj ha hb hc Z5.rfl).trans (Z5.of (Zyn k a' b' c' x))⟩
def lF(a b c x y z v:R3):ap (rm a x y z) (rm b x y z) (rm c x y z) v=ap a b c (ap x y z v):=by
 unfold ap rm Ay BL BG BF;refine Bq ?_ (Bq ?_ ?_)<;>(simp only;grind)
def Qk(a b c v:R3):ap (bk0 a b c) (bk1 a b c) (bk2 a b c) (ap a b c v)=AU (Ak a b c) v:=by
 unfold ap AU Ay bk0 bk1 bk2 BL BG BF Z8 Ak U0;refine Bq ?_ (Bq ?_ ?_)<;>(simp only;grind)
def yi(a b c x y z:R3):Ak (rm a x y z) (rm b x y z) (rm c x y z)=Ak a b c*Ak x y z:=by
 unfold Ak U0 rm Ay BL BG BF;grind
noncomputable def Fr(g:R3):Ac Ad:=[g.1,g.2.1,g.2.2]
def SY{x:R3}(hp:P4 p)(ix:Z4 p x)(iy:Z4 p y)(lx:A4 p (Fr x)=Ab 1)(ly:A4 p (Fr y)=Ab 1)(h:Pr p x y):x=y:=by
 obtain⟨d,dz,e⟩:=h;have p1:1<p:=by have:=hp.lo;omega
 have rs:(Fr x).map (λx=>x%p)=((Fr y).map λx=>d*x).map (λx=>x%p):=by
  simp only[Fr,BA,G7];rw[show x.1%p=d*y.1%p from e.1,show x.2.1%p=d*y.2.1%p from e.2.1,show x.2.2%p=d*y.2.2%p from e.2.2]
 have el:=KN hp dz (f:=λx=>d*x) (λ_=>rfl) (Fr y)
 rw[ly,<-Mn rs,lx,Ff,CB,DK]at el;have o:Cg p d 1:=by
  show d%p=1%p;rw[<-el,AI (by decide) p1]
 have q:=e.trans ((Z5.sc o Z5.rfl).trans (Z5.of (Pz y)));have same:∀{u v:Ad},(0<=u/\u<p)->(0<=v/\v<p)->Cg p u v->u=v:=λhu hv ą=>by
  have:=show _%p=_%p from ą
  rwa [AI hu.1 hu.2,AI hv.1 hv.2]at this
 exact Bq (same ix.1 iy.1 q.1) (Bq (same ix.2.1 iy.2.1 q.2.1) (same ix.2.2 iy.2.2 q.2.2))
def Vw{a:R3}(hp:P4 p)(nz:Ak a b c%p≠0):∃ l t,A4 p (Z0 a b c)=Ab l/\Em p l t/\t%p≠0/\U7 p (Z3 p t a) (Z3 p t b) (Z3 p t c)/\A4 p (Z0 (Z3 p t a) (Z3 p t b) (Z3 p t c))=Ab 1:=by
 have p0:=hp.pos;obtain⟨l,el⟩:=NE nz;obtain⟨lz,_,_⟩:=Jl p0 el;obtain⟨t,t1,t2,t3⟩:=Hm hp lz;have tz:t%p≠0:=by rw[AI (by omega) t2];omega
 have ff:∀ x,(t*(x%p)%p)%p=t*x%p:=λx=>by rw[AY _ (BD p),Be t (x%p) p,AY _ (BD p),<-Be]
 have lv:=KN hp tz (f:=λx=>t*(x%p)%p) ff (Z0 a b c)
 rw[el]at lv;refine⟨l,t,el,⟨t1,t2,t3⟩,tz,⟨hp,GD p0 t a,GD p0 t b,GD p0 t c,HF ((KP (FI p t a) (FI p t b) (FI p t c)).trans (Cg.of (LH t t t a b c))) (B4 hp (Ä hp tz tz tz) nz)⟩,?_⟩;have e:A4 p ((Z0 a b c).map λx=>t*(x%p)%p)=Ab 1:=by rw[lv,Ff,Cd,t3]
 exact e
structure Ĺ (p:Ad) (a b c f0 f1 f2 f3 g0 g1 g2 g3:R3):Prop where
 h0:Pr p g0 (ap a b c f0)
 h1:Pr p g1 (ap a b c f1)
 h2:Pr p g2 (ap a b c f2)
 h3:Pr p g3 (ap a b c f3)
def kK(hp:P4 p)(T:U7 p a b c)(T':U7 p a' b' c')(L:Ĺ p a b c Μ Ν e2R e3R f0 f1 f2 f3)(L':Ĺ p a' b' c' Μ Ν e2R e3R g0 g1 g2 g3):∃ x y z,U7 p x y z/\A4 p (Z0 x y z)=Ab 1/\Ĺ p x y z f0 f1 f2 f3 g0 g1 g2 g3:=by
 have zB:Ak (bk0 a b c) (bk1 a b c) (bk2 a b c)%p≠0:=by rw[MF];exact B4 hp T.nz T.nz
 have zR:Ak (rm a' (bk0 a b c) (bk1 a b c) (bk2 a b c)) (rm b' (bk0 a b c) (bk1 a b c) (bk2 a b c)) (rm c' (bk0 a b c) (bk1 a b c) (bk2 a b c))%p≠0:=by rw[yi];exact B4 hp T'.nz zB
 obtain⟨l,t,_,_,tz,gd,l1⟩:=Vw hp zR;refine⟨_,_,_,gd,l1,?_⟩;have key:∀{e f g:R3},Pr p f (ap a b c e)->Pr p g (ap a' b' c' e)->Pr p g (ap (Z3 p t (rm a' (bk0 a b c) (bk1 a b c) (bk2 a b c))) (Z3 p t (rm b' (bk0 a b c) (bk1 a b c) (bk2 a b c))) (Z3 p t (rm c' (bk0 a b c) (bk1 a b c) (bk2 a b c))) f):=λ{e f g} hf hg=>by
  refine hg.trans hp (Pr.symm hp ?_);refine(Pr.tab tz (FI p t _) (FI p t _) (FI p t _)).trans hp ?_;rw[lF];refine Pr.ap ((Pr.ap hf).trans hp ?_);rw[Qk];exact⟨_,T.nz,Z5.rfl⟩
 exact⟨key L.h0 L'.h0,key L.h1 L'.h1,key L.h2 L'.h2,key L.h3 L'.h3⟩
def zQ(hp:P4 p):U7 p Μ Ν e2R/\A4 p (Z0 Μ Ν e2R)=Ab 1:=by
 obtain⟨i0,i1,i2,i3⟩:=mZ hp;refine⟨⟨hp,i0,i1,i2,(lO hp).1⟩,?_⟩;rcases hp with rfl|rfl|rfl|rfl<;>decide
noncomputable def L3(a b c:R3):Ac D:=[El a,El b,El c]
def Ij(i j:Ad):Prop:=(i=0/\j=1)\/(i=0/\j=2)\/(i=1/\j=0)\/(i=1/\j=2)\/(i=2/\j=0)\/(i=2/\j=1)
def jP{i:Ad}(hi:m%3=i)(hj:(i+1+m/3%2)%3=j):Ij i j:=by
 have i3:i=0\/i=1\/i=2:=by omega
 have e2:m/3%2=0\/m/3%2=1:=by omega
 rcases i3 with z|z|z<;>rcases e2 with e|e<;>rw[z,e]at hj
 .exact .inl ⟨z,hj.symm⟩
 .exact .inr (.inl ⟨z,hj.symm⟩)
 .exact .inr (.inr (.inr (.inl ⟨z,hj.symm⟩)))
 .exact .inr (.inr (.inl ⟨z,hj.symm⟩))
 .exact .inr (.inr (.inr (.inr (.inl ⟨z,hj.symm⟩))))
 .exact .inr (.inr (.inr (.inr (.inr ⟨z,hj.symm⟩))))
def KR(Z:Z2)(mid:Ag)(ns:Ac Ad):Prop:=∀ k:Ad,0<=k->∃ m,0<=m/\Z.F mid [þ ns,.int k]=.ok (.int m)
def NC(h1:-1000<=lo)(h2:lo<=1000)(h3:-1000<=hi)(h4:hi<=1000):De lo hi=.ok (Dx lo (hi-lo).toNat):=by
 unfold De;rw[AC (by refine⟨⟨by omega,by omega⟩,⟨by omega,by omega⟩,?_⟩;omega)]
def YH(h:1<p):A4 p [0,0,1]=Ab 1:=by
 simp[A4,AI (by decide:(0:Ad)<=1) h]
def jJ(h:1<p)(z:Ad):A4 p [0,1,z]=Ab 1:=by
 simp[A4,AI (by decide:(0:Ad)<=1) h]
def Vc(h:1<p)(y z:Ad):A4 p [1,y,z]=Ab 1:=by
 simp[A4,AI (by decide:(0:Ad)<=1) h]
noncomputable def ý(a b:R3):C6:=⟨a.1*b.1,a.2.1*b.2.1,a.2.2*b.2.2,a.1*b.2.1+a.2.1*b.1,a.1*b.2.2+a.2.2*b.1,a.2.1*b.2.2+a.2.2*b.2.1⟩
def SK{E:C6}(hp:P4 p)(h:ë p C E)(z:Ak (ò E) (ó E) (ú E)%p≠0):Ak (ò C) (ó C) (ú C)%p≠0:=by
 obtain⟨d,dz,cg⟩:=h;obtain⟨x0,x1,x2⟩:=Y_7 cg;exact HF ((KP x0 x1 x2).trans (Cg.of (im d E))) (B4 hp (Ä hp dz dz dz) z)
def SM{p:Ad}(hp:P4 p)(el:A4 p (Fr r)=Ab l):∃ u,Em p l u/\Z4 p (Z3 p u r)/\A4 p (Fr (Z3 p u r))=Ab 1/\Pr p (Z3 p u r) r/\Þ p u (Fr r)=Fr (Z3 p u r):=by
 have p0:=hp.pos;obtain⟨lz,_,_⟩:=Jl p0 el;obtain⟨t,t1,t2,t3⟩:=Hm hp lz;have tz:t%p≠0:=by rw[AI (by omega) t2];omega
 have ff:∀ x,(t*(x%p)%p)%p=t*x%p:=λx=>by rw[AY _ (BD p),Be t (x%p) p,AY _ (BD p),<-Be]
 have lv:=KN hp tz (f:=λx=>t*(x%p)%p) ff (Fr r)
 rw[el,Ff,Cd,t3]at lv;exact⟨t,⟨t1,t2,t3⟩,GD p0 t r,lv,⟨t,tz,FI p t r⟩,rfl⟩
def SJ(h:A4 p (Fr g)=Af):Z5 p g (0,0,0):=by
 have hz:=J5.mp h;have k:∀ x∈Fr g,Cg p x 0:=λx hx=>by show x%p=0%p;rw[hz x hx,Bp]
 exact⟨k _ (by simp[Fr]),k _ (by simp[Fr]),k _ (by simp[Fr])⟩
def Wz(h:Z5 p g (0,0,0)):A4 p (Fr g)=Af:=by
 refine J5.mpr λx hx=>?_
 have k:∀{x:Ad},Cg p x 0->x%p=0:=λ{x} h=>by rw[show x%p=_ from h,Bp]
 simp only[Fr,Aw,A2,Ca]at hx;rcases hx with rfl|rfl|rfl
 .exact k h.1
 .exact k h.2.1
 .exact k h.2.2
def NM{p:Ad}{a:R3}(hp:P4 p)(z:Ak a b c%p≠0)(lf:A4 p (Fr f)=Ab l)(h:Z5 p g (ap a b c f)):∃ l,A4 p (Fr g)=Ab l:=by
 cases el:A4 p (Fr g) with
 |some l=>exact⟨l,rfl⟩
 |none=>
  have q0:Z5 p (ap a b c f) (0,0,0):=h.symm.trans (SJ el);have q1:Z5 p (AU (Ak a b c) f) (0,0,0):=by
   have:=Qj (Z5.rfl (a:=bk0 a b c)) (Z5.rfl (a:=bk1 a b c)) (Z5.rfl (a:=bk2 a b c)) q0;rw[Qk]at this;refine this.trans (Z5.of ?_);unfold ap Ay;simp
  obtain⟨u,uz,o⟩:=TZ hp z;have q2:Z5 p f (0,0,0):=by
   have w:=Z5.sc (k:=u) (k':=u) Cg.rfl q1;rw[IX]at w;refine((Z5.of (Pz f).symm).trans (Z5.sc o.symm Z5.rfl)).trans (w.trans (Z5.of ?_));unfold AU;simp
  rw[Wz q2]at lf;cases lf
def vX(Z:Z2):Prop:=∀(p:Ad)(C:C6),P4 p->ï p C->Ak (ò C) (ó C) (ú C)%p≠0->Z.F 136 [.int p,BY C]=.ok (.bl Aa)
def sF(ht:Ts Z)(hm:GR Z)(p:Ad)(C:C6)(hp:P4 p)(iC:ï p C)(z:Ak (ò C) (ó C) (ú C)%p≠0):RB.run Z [.int p,BY C]=.ok (.bl Aa):=by
 obtain⟨h0,h1,h2⟩:=UO hp iC;have e1:=ht p C hp;have e2:=hm p Aa (t0 p C) (t1 p C) (t2 p C) hp.pos ((Cc hp h0).b3 (by decide)) ((Cc hp h1).b3 (by decide)) ((Cc hp h2).b3 (by decide))
 have td:Ak (t0 p C) (t1 p C) (t2 p C)%p=Ak (ò C) (ó C) (ú C)%p:=let ⟨h0,h1,h2⟩:=UZ p C;KP h0 h1 h2
 rw[td]at e2;have k0:BR (Cu (t0 p C) (t1 p C) (t2 p C)) (.int 0)=.ok (Ai Aa (t0 p C)):=rfl;have k1:BR (Cu (t0 p C) (t1 p C) (t2 p C)) (.int 1)=.ok (Ai Aa (t1 p C)):=rfl;have k2:BR (Cu (t0 p C) (t1 p C) (t2 p C)) (.int 2)=.ok (Ai Aa (t2 p C)):=rfl;generalize Ak (ò C) (ó C) (ú C)%p=d at *;simp[RB,Df.run,Bc,e1,e2,k0,k1,k2,z]
def NV(x:R3):Y8 5 (Ai Aa x)=Aa/\U4 (Ai Aa x) (Ai Aa x)=Aa:=by
 refine⟨rfl,?_⟩;show My (ds [x.1,x.2.1,x.2.2]) (ds [x.1,x.2.1,x.2.2])=Aa;rw[YU]
noncomputable def TR:Df:=⟨3,Ae,{.ret (.call 17 {.v 0,.call 23 {.v 1,.v 2}})}⟩
def Mv{a:R3}(hp:P4 p)(h:Z5 p (Z8 a b) (0,0,0))(la:A4 p (Fr a)=Ab 1)(lb:A4 p (Fr b)=Ab 1):Pr p b a:=by
 obtain⟨h0,h1,h2⟩:=h;have p1:1<p:=by have:=hp.lo;omega
 have sw:∀{x y:Ad},Cg p (x-y) 0->Cg p x y:=λ{x y} h=>by
  have:=h.add (Cg.rfl (a:=y))
  rwa [Int.sub_add_cancel,Dm]at this
 have e0:Cg p (a.2.1*b.2.2) (a.2.2*b.2.1):=sw h0;have e1:Cg p (a.2.2*b.1) (a.1*b.2.2):=sw h1;have e2:Cg p (a.1*b.2.1) (a.2.1*b.1):=sw h2;have one:∀{x:Ad},x%p=1->Cg p x 1:=λ{x} h=>by show x%p=1%p;rw[h,AI (by decide) p1]
 have fin:∀ k,Z5 p b (AU k a)->Pr p b a:=λk hk=>by
  refine⟨k,λz=>?_,hk⟩
  have:Z5 p b (0,0,0):=by
   have kz:Cg p k 0:=by show k%p=0%p;rw[z,Bp]
   refine hk.trans ((Z5.sc kz Z5.rfl).trans (Z5.of ?_));unfold AU;simp
  rw[Wz this]at lb;cases lb
 unfold Fr A4 at la;by_cases z0:a.1%p=0
 .rw[AC z0]at la;have c0:Cg p a.1 0:=by show a.1%p=0%p;rw[z0,Bp]
  unfold A4 at la;by_cases z1:a.2.1%p=0
  .rw[AC z1]at la;have c1:Cg p a.2.1 0:=by show a.2.1%p=0%p;rw[z1,Bp]
   unfold A4 at la;by_cases z2:a.2.2%p=0
   .rw[AC z2]at la;cases la
   .rw[AH z2,CB]at la;have c2:=one la;refine fin b.2.2 ⟨?_,?_,?_⟩
    .have:=(c2.symm.mul (Cg.rfl (a:=b.1))).trans e1;rw[CW]at this;exact this.trans (Cg.of (Cd _ _))
    .have:=(c2.symm.mul (Cg.rfl (a:=b.2.1))).trans e0.symm;rw[CW]at this;exact this.trans (Cg.of (Cd _ _))
    .have:=(Cg.rfl (a:=b.2.2)).mul c2;rw[DK]at this;exact this.symm
  .rw[AH z1,CB]at la;have c1:=one la;refine fin b.2.1 ⟨?_,?_,?_⟩
   .have:=(c1.symm.mul (Cg.rfl (a:=b.1))).trans e2.symm;rw[CW]at this;exact this.trans (Cg.of (Cd _ _))
   .have:=(Cg.rfl (a:=b.2.1)).mul c1;rw[DK]at this;exact this.symm
   .have:=(c1.symm.mul (Cg.rfl (a:=b.2.2))).trans e0;rw[CW]at this;exact this.trans (Cg.of (Cd _ _))
 .rw[AH z0,CB]at la;have c0:=one la;refine fin b.1 ⟨?_,?_,?_⟩
  .have:=(Cg.rfl (a:=b.1)).mul c0;rw[DK]at this;exact this.symm
  .have:=(c0.symm.mul (Cg.rfl (a:=b.2.1))).trans e2;rw[CW]at this;exact this.trans (Cg.of (Cd _ _))
  .have:=(c0.symm.mul (Cg.rfl (a:=b.2.2))).trans e1.symm;rw[CW]at this;exact this.trans (Cg.of (Cd _ _))
def PH(Z:Z2):Prop:=∀(p:Ad)(a b:R3),P4 p->Z4 p a->Z4 p b->A4 p (Fr a)=Ab 1->A4 p (Fr b)=Ab 1->a≠b->∃ y,Z4 p y/\A4 p (Fr y)=Ab 1/\Pr p y (Z8 a b)/\Z.F 57 [.int p,Ai Aa a,Ai Aa b]=.ok (Ai Aa y)
def sk(hc:X3 Z)(hf:NN Z)(p:Ad)(a b:R3)(hp:P4 p)(ia:Z4 p a)(ib:Z4 p b)(la:A4 p (Fr a)=Ab 1)(lb:A4 p (Fr b)=Ab 1)(ne:a≠b):∃ y,Z4 p y/\A4 p (Fr y)=Ab 1/\Pr p y (Z8 a b)/\TR.run Z [.int p,Ai Aa a,Ai Aa b]=.ok (Ai Aa y):=by
 have e1:=hc a b ((Cc hp ia).b3 (by decide)) ((Cc hp ib).b3 (by decide)) ne
 cases el:A4 p (Fr (Z8 a b)) with
 |none=>exact absurd (SY hp ib ia lb la (Mv hp (SJ el) la lb)).symm ne
 |some l=>
  obtain⟨u,iu,j,l1,pr,ef⟩:=SM hp el;have e2:=hf p Aa _ l u hp el iu;rw[ef]at e2;have e2':Z.F 17 [.int p,Ai Aa (Z8 a b)]=.ok (Ai Aa (Z3 p u (Z8 a b))):=e2;refine⟨_,j,l1,pr,?_⟩;generalize Ai Aa (Z3 p u (Z8 a b))=Y_ at *;simp[TR,Df.run,Bc,e1,e2']
def ig(a b:R3):Ay (Z8 a b) a=0/\Ay (Z8 a b) b=0:=by
 unfold Ay Z8;constructor<;>grind
def FP{x:Ad}(hp:P4 p)(kz:k%p≠0):k*x%p=0↔x%p=0:=by
 constructor
 .intro z;exact B5 λn=>B4 hp kz n z
 .intro z;rw[Be,z,CT,Bp]
def kE{x:R3}(hp:P4 p)(hx:Pr p x x')(hy:Pr p y y'):(Ay x y%p=0)↔(Ay x' y'%p=0):=by
 obtain⟨d,dz,e⟩:=hx;obtain⟨d',Ŭ,e'⟩:=hy;have q:Cg p (Ay x y) (d*d'*Ay x' y'):=(F5 e e').trans (Cg.of (by unfold Ay AU;simp only;grind))
 rw[show Ay x y%p=_ from q]
 exact FP hp (B4 hp dz Ŭ)
def NF(p:Ad)(x:R3):Prop:=Z4 p x/\A4 p (Fr x)=Ab 1
noncomputable def ϥ(p n:Ad):R3:=if n=0 then (0,0,1) else if n<=p then (0,1,n-1) else (1,(n-p-1)/p,(n-p-1)%p)
noncomputable def Cr(p:Ad):Ac R3:=(AK (p*p+p+1).toNat).map fun(n:Ag)=>ϥ p n
def fV{p:Ad}(hp:P4 p)(h0:0<=n)(h1:n<p*p+p+1):NF p (ϥ p n):=by
 have p1:1<p:=by have:=hp.lo;omega
 have p0:=hp.pos;unfold ϥ;by_cases z:n=0
 .rw[AC z];exact⟨⟨⟨by decide,p0⟩,⟨by decide,p0⟩,⟨by decide,p1⟩⟩,YH p1⟩
 .rw[AH z];by_cases z1:n<=p
  .rw[AC z1];exact⟨⟨⟨HL 0,p0⟩,⟨(by decide:(0:Ad)<=1),p1⟩,⟨by show 0<=n-1;omega,by show n-1<p;omega⟩⟩,jJ p1 _⟩
  .rw[AH z1];have d0:0<=(n-p-1)/p:=Int.ediv_nonneg (by omega) (by omega)
   have d1:(n-p-1)/p<p:=by rw[Int.ediv_lt_iff_lt_mul p0];omega
   exact⟨⟨⟨(by decide:(0:Ad)<=1),p1⟩,⟨d0,d1⟩,⟨A3 _ (by omega),AV _ p0⟩⟩,Vc p1 _ _⟩
def kH(hp:P4 p)(h:NF p x):∃ n:Ad,0<=n/\n<p*p+p+1/\x=ϥ p n:=by
 obtain⟨⟨i0,i1,i2⟩,l⟩:=h;have p1:1<p:=by have:=hp.lo;omega
 have p0:=hp.pos;have pp:=Lg p0 p0;obtain⟨x0,x1,x2⟩:=x;simp only at i0 i1 i2;unfold Fr A4 at l;simp only at l;rw[AI i0.1 i0.2]at l;by_cases z0:x0=0
 .rw[AC z0]at l;unfold A4 at l;rw[AI i1.1 i1.2]at l;by_cases z1:x1=0
  .rw[AC z1]at l;unfold A4 at l;rw[AI i2.1 i2.2]at l;by_cases z2:x2=0
   .rw[AC z2]at l;cases l
   .rw[AH z2,CB]at l;exact⟨0,HL 0,by omega,by rw[z0,z1,l];rfl⟩
  .rw[AH z1,CB]at l;refine⟨x2+1,by omega,by omega,?_⟩
   unfold ϥ;rw[AH (by omega),AC (by omega),z0,l,Int.add_sub_cancel]
 .rw[AH z0,CB]at l;have m1:p*x1<=p*(p-1):=Int.mul_le_mul_of_nonneg_left (by omega) (by omega)
  have m0:0<=p*x1:=JG (by omega) i1.1
  rw[Int.mul_sub,DK]at m1;refine⟨p+1+p*x1+x2,by omega,by omega,?_⟩
  unfold ϥ;have e:p+1+p*x1+x2-p-1=x2+p*x1:=by omega
  rw[AH (by omega),AH (by omega),e,Int.add_mul_ediv_left _ _ (by omega),Int.ediv_eq_zero_of_lt i2.1 i2.2,Int.add_mul_emod_self_left,AI i2.1 i2.2,Dm,l]
def FG(hp:P4 p):x∈Cr p↔NF p x:=by
 have p0:=hp.pos;have pp:=Lg p0 p0;constructor
 .intro h;obtain⟨n,hn,rfl⟩:=A7.mp h;have:=A9.mp hn;exact fV hp (by omega) (by omega)
 .intro h;obtain⟨n,n0,n1,rfl⟩:=kH hp h;refine A7.mpr ⟨n.toNat,A9.mpr (by omega),?_⟩
  rw[ZQ n0]
def V9(hp:P4 p):(Cr p).Nodup:=by
 rcases hp with rfl|rfl|rfl|rfl<;>decide+kernel
def Pe{α:Type}[DecidableEq α]:∀{l1 l2:Ac α},l1.Nodup->(∀ x∈l1,x∈l2)->l1.length<=l2.length
 |[],_,_,_=>CC _
 |x::l1,l2,nd,h=>by
  obtain⟨n1,n2⟩:=BO.mp nd;have hx:=h x Ax;have:=Pe (l1:=l1) (l2:=l2.erase x) n2 λy hy=>by
   have hy2:=h y (Av _ hy);have ne:y≠x:=λe=>n1 (e ▸ hy)
   exact(G8 ne).mpr hy2
  rw[B9 hx]at this;have l0:0<l2.length:=Z_7 hx;rw[BS];omega
def RU{α β:Type}{f:α->β}:∀{l:Ac α},l.Nodup->(∀ x∈l,∀ y∈l,f x=f y->x=y)->(l.map f).Nodup
 |[],_,_=>Hv
 |x::l,nd,h=>by
  obtain⟨n1,n2⟩:=BO.mp nd;rw[BA,BO];refine⟨λm=>?_,RU n2 λy hy z hz=>h y (Av _ hy) z (Av _ hz)⟩
  obtain⟨y,hy,e⟩:=A7.mp m;have:=h y (Av _ hy) x Ax e;exact n1 (this ▸ hy)
noncomputable def OV(p:Ad)(r:R3):R3:=open Classical in if h:∃ y,NF p y/\Pr p y r then Iz h else r
def Mr{p:Ad}(hp:P4 p)(el:A4 p (Fr r)=Ab l):NF p (OV p r)/\Pr p (OV p r) r:=by
 have h:∃ y,NF p y/\Pr p y r:=by
  obtain⟨u,iu,j,l1,pr,_⟩:=SM hp el;exact⟨_,⟨j,l1⟩,pr⟩
 unfold OV;rw[dif_pos h];exact DW h
def WF{a x:R3}(hp:P4 p)(z:Ak a b c%p≠0)(hx:NF p x):NF p (OV p (ap a b c x))/\Pr p (OV p (ap a b c x)) (ap a b c x):=by
 obtain⟨l,el⟩:=NM hp z hx.2 Z5.rfl;exact Mr hp el
def KQ{x:R3}(hp:P4 p)(hx:NF p x)(hy:NF p y)(h:Pr p x y):x=y:=SY hp hx.1 hy.1 hx.2 hy.2 h
def Wb{a x:R3}(hp:P4 p)(z:Ak a b c%p≠0)(hx:NF p x):OV p (ap (bk0 a b c) (bk1 a b c) (bk2 a b c) (OV p (ap a b c x)))=x:=by
 obtain⟨h1,h2⟩:=WF hp z hx;have zB:Ak (bk0 a b c) (bk1 a b c) (bk2 a b c)%p≠0:=by rw[MF];exact B4 hp z z
 obtain⟨h3,h4⟩:=WF hp zB h1;refine KQ hp h3 hx (h4.trans hp ((Pr.ap h2).trans hp ?_));rw[Qk];exact⟨_,z,Z5.rfl⟩
noncomputable def q4(w:Ag)(k:Ad)(y:R3):Ad:=match w with
  |0=>y.1*y.2.2-y.2.1*y.2.1
  |1=>y.1*y.1
  |2=>y.1*y.2.1
  |_=>y.1*y.1-k*(y.2.1*y.2.1)
def Yh(u v x:R3):vI (ý u v) x=Ay u x*Ay v x:=by
 unfold vI ý Ay;simp only;grind
def Pq(k:Ad)(A:C6)(x:R3):vI (ù k A) x=k*vI A x:=by
 unfold vI ù;simp only;grind
noncomputable def Kb(p:Ad)(C:C6):Ac R3:=(Cr p).filter λx=>decide (vI C x%p=0)
noncomputable def Au(pts:Ac R3):D:=.L (pts.map (Ai Aa))
def R6:∀(xs:Ac R3),(∀ x∈xs,g (Ai Aa x)=.ok (q x)/\f (Ai Aa x)=.ok (Ai Aa x))->Bz g f (xs.map (Ai Aa))=.ok ((xs.filter q).map (Ai Aa))
 |[],_=>rfl
 |x::xs,h=>by
  obtain⟨h1,h2⟩:=h x (Ax ..);have ih:=R6 xs λy hy=>h y (Av _ hy)
  show (g (Ai Aa x)).bind _=_;rw[h1,R.bind_ok,EQ];cases hq:q x with
  |true=>
   rw[AC rfl,AC rfl,h2,R.bind_ok,show Bz g f (ID (Ai Aa) xs)=_ from ih]
   rfl
  |false=>
   rw[AH (by decide),AH (by decide)]
   exact ih
noncomputable def pG:Ss:={.app 1 (.H {.int 0,.int 1,.v 2})}
noncomputable def pH:E:=(.H {.int 1,.v 3,.v 4})
noncomputable def pF:Ss:={.ext 1 (.comp pH 4 (.rng (.v 0)) B6)}
noncomputable def VJ:Df:=⟨5,Aa,{.asg 1 Aa (.L {.H {.int 0,.int 0,.int 1}}),.fors 2 (.rng (.v 0)) pG,.fors 3 (.rng (.v 0)) pF,.ret (.v 1)}⟩
def lJ(Z:Z2):Prop:=∀ p:Ad,P4 p->Z.F 69 [.int p]=.ok (Au (Cr p))
def hJ(Z:Z2)(p:Ad)(hp:P4 p):VJ.run Z [.int p]=.ok (Au (Cr p)):=by
 rcases hp with rfl|rfl|rfl|rfl<;>kernel_rfl!
noncomputable def Q8:E:=(.cmp .Eq (.call 126 {.v 0,.v 1,.v 2}) (.int 0))
noncomputable def Q9:E:=(.v 2)
noncomputable def Ro:Df:=⟨3,Aa,{.ret (.comp Q9 2 (.e (.call 69 {.v 0})) Q8)}⟩
def jj(Z:Z2):Prop:=∀(p:Ad)(C:C6),P4 p->ï p C->Z.F 128 [.int p,BY C]=.ok (Au (Kb p C))
def Xg(ht:lJ Z)(hv:Tr Z)(p:Ad)(C:C6)(hp:P4 p)(iC:ï p C):Ro.run Z [.int p,BY C]=.ok (Au (Kb p C)):=by
 have e1:=ht p hp;have cp:Bz (cG Z [si p,sh (BY C),Af] 2 Q8) (cF Z [si p,sh (BY C),Af] 2 Q9) ((Cr p).map (Ai Aa))=.ok ((Kb p C).map (Ai Aa)):=by
  refine R6 (Cr p) λx hx=>⟨?_,?_⟩
  .have e:=hv p C x hp iC ((FG hp).mp hx).1;generalize vI C x%p=v at *;simp[cG,Q8,e];rw[Dj];simp
  .simp[cF,Q9]
 have sq:Ct (Au (Cr p))=.ok ((Cr p).map (Ai Aa)):=rfl;generalize Cr p=A at *;generalize Au A=AA at *;simp[Ro,Df.run,Bc,e1,sq,cp];rfl
def j4(a b c:R3):Ay (Z8 a b) c=Ak a b c:=by
 unfold Ay Z8 Ak U0;grind
def Ti:∀ pts:Ac R3,Y8 5 (Au pts)=Aa/\U4 (Au pts) (Au pts)=Aa:=λpts=>by
 have k1:∀ l:Ac R3,(l.map (Ai Aa)).all (Y8 4)=Aa:=λl=>by
  rw[DT];intro x hx;obtain⟨y,_,rfl⟩:=A7.mp hx;rfl
 have k2:∀ l:Ac R3,My (l.map (Ai Aa)) (l.map (Ai Aa))=Aa:=λl=>by
  induction l with
  |nil=>rfl
  |cons x l ih=>
   show (U4 (Ai Aa x) (Ai Aa x)&&My (l.map (Ai Aa)) (l.map (Ai Aa)))=Aa;rw[(NV x).2,ih];rfl
 exact⟨k1 pts,k2 pts⟩
def uk(x:R3):Ai Aa x=tI (Fr x):=by
 unfold Ai DC;rw[AC rfl];rfl
def Xc(m:Ac R3):m.map (Ai Aa)=(m.map Fr).map tI:=by
 rw[Do];exact CM λx _=>uk x
def aq(hp:P4 p):((Cr p).map Fr).Pairwise (λa b=>CV a b=Aa):=by
 rcases hp with rfl|rfl|rfl|rfl<;>decide+kernel
def wW{x:R3}(h:Fr x=Fr y):x=y:=by
 obtain⟨x0,x1,x2⟩:=x;obtain⟨y0,y1,y2⟩:=y;unfold Fr at h;simp at h;obtain⟨rfl,rfl,rfl⟩:=h;rfl
def ZzW{l:Ac R3}(hp:P4 p)(hn:∀ x∈l,NF p x)(nd:l.Nodup)(Î:l.length<64):IS (l.map (Ai Aa))=.ok (((Cr p).filter λx=>decide (x∈l)).map (Ai Aa)):=by
 rw[Xc,Xc];refine qN (λr hr=>?_) (RU nd λx _ y _=>wW) (by rw[AG];exact Î) (List.Pairwise.sublist ((List.filter_sublist).map Fr) (aq hp)) λr=>?_
 .obtain⟨x,_,rfl⟩:=A7.mp hr;intro z;cases z
 .rw[A7,A7];constructor
  .rintro⟨x,hx,rfl⟩;have:=(BJ.mp hx).2;exact⟨x,by simpa using this,rfl⟩
  .rintro⟨x,hx,rfl⟩;exact⟨x,BJ.mpr ⟨(FG hp).mpr (hn x hx),by simpa using hx⟩,rfl⟩
def j5(u v x:R3):Z8 (Z8 u v) x=(v.1*Ay u x-u.1*Ay v x,v.2.1*Ay u x-u.2.1*Ay v x,v.2.2*Ay u x-u.2.2*Ay v x):=by
 unfold Z8 Ay;simp only;refine Bq ?_ (Bq ?_ ?_)<;>(simp only;grind)
def yo(k l:Ad)(a b:R3):Z8 (AU k a) (AU l b)=AU (k*l) (Z8 a b):=by
 unfold Z8 AU;simp only;refine Bq ?_ (Bq ?_ ?_)<;>(simp only;grind)
def uD{x:R3}(hp:P4 p)(hy:NF p y)(hx:NF p x)(py:Pr p y (Z8 u v))(h1:Ay u x%p=0)(h2:Ay v x%p=0):x=y:=by
 refine KQ hp hx hy (Mv hp ?_ hy.2 hx.2);obtain⟨d,dz,e⟩:=py;have c1:Cg p (Ay u x) 0:=by show _%p=0%p;rw[h1,Bp]
 have c2:Cg p (Ay v x) 0:=by show _%p=0%p;rw[h2,Bp]
 have key:∀ s t:Ad,Cg p (d*(s*Ay u x-t*Ay v x)) 0:=λs t=>((Cg.rfl (a:=d)).mul (((Cg.rfl (a:=s)).mul c1).sub ((Cg.rfl (a:=t)).mul c2))).trans (Cg.of (by simp))
 refine(PQ e Z5.rfl).trans ?_;have e2:Z8 (AU d (Z8 u v)) x=AU d (Z8 (Z8 u v) x):=by
  have:=yo d 1 (Z8 u v) x
  rwa [show AU 1 x=x by unfold AU;simp,DK]at this
 rw[e2,j5];exact⟨key _ _,key _ _,key _ _⟩
def iq(a b c:R3):Z8 (Z8 a b) (Z8 b c)=AU (Ak a b c) b:=by
 unfold Z8 AU Ak U0;simp only;refine Bq ?_ (Bq ?_ ?_)<;>(simp only;grind)
noncomputable def TQ:Df:=⟨3,Ae,{.ret (.cmp .Eq (.call 1 {.v 0,.B .Add (.B .Add (.B .Mult (.x (.v 1) (.int 0)) (.x (.v 2) (.int 0))) (.B .Mult (.x (.v 1) (.int 1)) (.x (.v 2) (.int 1)))) (.B .Mult (.x (.v 1) (.int 2)) (.x (.v 2) (.int 2)))}) (.int 0))}⟩
def YF(Z:Z2):Prop:=∀(p:Ad)(x y:R3),P4 p->Z4 p x->Z4 p y->Z.F 24 [.int p,Ai Aa x,Ai Aa y]=.ok (.bl (decide (Ay x y%p=0)))
def sf(hr:IV Z)(p:Ad)(x y:R3)(hp:P4 p)(ix:Z4 p x)(iy:Z4 p y):TQ.run Z [.int p,Ai Aa x,Ai Aa y]=.ok (.bl (decide (Ay x y%p=0))):=by
 have p0:=hp.pos;have bx:=Cc hp ix;have ľ:=Cc hp iy;have k:∀ {u v},Bd 10 u->Bd 10 v->E5 u v=Aa:=λhu hv=>GB hu hv (by decide) (by decide)
 have k0:=k bx.1 ľ.1;have k1:=k bx.2.1 ľ.2.1;have k2:=k bx.2.2 ľ.2.2;obtain⟨x0,x1,x2⟩:=FQ Aa x;obtain⟨y0,y1,y2⟩:=FQ Aa y;have e:=hr p (Ay x y) p0;unfold Ay at *;generalize x.1=a0,x.2.1=a1,x.2.2=a2,y.1=b0,y.2.1=b1,y.2.2=b2,Ai Aa x=xx,Ai Aa y=yy at *;generalize hs:(a0*b0+a1*b1+a2*b2)%p=s at *;simp[TQ,Df.run,Bc,x0,x1,x2,y0,y1,y2,k0,k1,k2,e];rw[Dj];simp
noncomputable def QJ:Df:=⟨3,Ae,{.ret (.call 24 {.v 0,.v 1,.v 2})}⟩
def Ua(Z:Z2):Prop:=∀(p:Ad)(x y:R3),P4 p->Z4 p x->Z4 p y->Z.F 56 [.int p,Ai Aa x,Ai Aa y]=.ok (.bl (decide (Ay x y%p=0)))
def qz(h:YF Z)(p:Ad)(x y:R3)(hp:P4 p)(ix:Z4 p x)(iy:Z4 p y):QJ.run Z [.int p,Ai Aa x,Ai Aa y]=.ok (.bl (decide (Ay x y%p=0))):=by
 have e:=h p x y hp ix iy;generalize Ai Aa x=xx,Ai Aa y=yy at *;simp[QJ,Df.run,Bc,e]
def Ph(a b:R3):Ak a b a=0/\Ak a b b=0:=by
 unfold Ak U0;constructor<;>grind
noncomputable abbrev Ϛ(p:Ad)(C:C6):Prop:=Ak (ò C) (ó C) (ú C)%p≠0
noncomputable def b4(u v:R3):Ad:=u.1*v.2.2+u.2.2*v.1-2*(u.2.1*v.2.1)
noncomputable def sides:D:=.H [.str (Ao "inner"),.str (Ao "on"),.str (Ao "outer")]
noncomputable def Oz:Df:=⟨2,Ae,{.asg 1 Ae (.B .Mod (.v 1) (.B .Add (.B .Add (.B .Mult (.v 0) (.v 0)) (.v 0)) (.int 1))),.ife (.cmp .Eq (.v 1) (.int 0)) {.ret (.H {.int 0,.int 0,.int 1})} .nil,.ife (.cmp .LtE (.v 1) (.v 0)) {.ret (.H {.int 0,.int 1,.B .Sub (.v 1) (.int 1)})} .nil,.ret (.H {.int 1,.B .FloorDiv (.B .Sub (.B .Sub (.v 1) (.v 0)) (.int 1)) (.v 0),.B .Mod (.B .Sub (.B .Sub (.v 1) (.v 0)) (.int 1)) (.v 0)})}⟩
def pN{p:Ad}(hp:P4 p):0<p*p+p+1/\0<=n%(p*p+p+1)/\n%(p*p+p+1)<p*p+p+1:=by
 have p0:=hp.pos;have N0:0<p*p+p+1:=by have:=Lg p0 p0;omega
 exact⟨N0,A3 n (ZO N0),AV n N0⟩
def qt(Z:Z2)(p n:Ad)(hp:P4 p):Oz.run Z [.int p,.int n]=.ok (Ai Aa (ϥ p (n%(p*p+p+1)))):=by
 have pp:Ey p p=Aa:=IT (by have:=hp.lo;omega) (by have:=hp.hi;omega)
 have p0:=hp.pos;have ph:=hp.hi;obtain⟨N0,h0,h1⟩:=pN (n:=n) hp;have pb:p<1073741824:=by omega
 generalize hr:n%(p*p+p+1)=r at *;unfold ϥ;by_cases z0:r=0
 .rw[AC z0];simp[Oz,Df.run,Bc,pp,N0,hr,z0];rfl
 .rw[AH z0];by_cases z1:r<=p
  .rw[AC z1];simp[Oz,Df.run,Bc,pp,N0,hr,z0,z1];rfl
  .rw[AH z1];simp[Oz,Df.run,Bc,pp,N0,hr,z0,z1,p0,pb];rfl
def Uf(C:C6)(a b c x:R3):vI (pb C a b c) x=vI C (ap a b c x):=by
 have e:ap a b c x=(x.1*(BL a b c).1+x.2.1*(BG a b c).1+x.2.2*(BF a b c).1,x.1*(BL a b c).2.1+x.2.1*(BG a b c).2.1+x.2.2*(BF a b c).2.1,x.1*(BL a b c).2.2+x.2.1*(BG a b c).2.2+x.2.2*(BF a b c).2.2):=by
  unfold ap Ay BL BG BF;simp only;refine Bq ?_ (Bq ?_ ?_)<;>(simp only;grind)
 rw[e,Yg];have e2:∀(u0 u1 u2 u3 u4 u5:Ad),vI ⟨u0,u1,u2,u3,u4,u5⟩ x=x.1*x.1*u0+x.2.1*x.2.1*u1+x.2.2*x.2.2*u2+(x.1*x.2.1*u3+x.1*x.2.2*u4+x.2.1*x.2.2*u5):=λu0 u1 u2 u3 u4 u5=>by
  unfold vI;simp only;grind
 exact e2 ..
def oq(C:C6)(k:Ad)(x:R3):vI C (AU k x)=k*k*vI C x:=by
 unfold vI AU;simp only;grind
def Y_5{x:R3}(hp:P4 p)(h:Pr p x y):vI C x%p=0↔vI C y%p=0:=by
 obtain⟨d,dz,e⟩:=h;have q:=(Jr (D:=C) ⟨Cg.rfl,Cg.rfl,Cg.rfl,Cg.rfl,Cg.rfl,Cg.rfl⟩ e).trans (Cg.of (oq C d y));rw[show vI C x%p=_ from q]
 exact FP hp (B4 hp dz dz)
def uE(l:Ac R3):Tm .len [Au l]=.ok (.int (l.length:Ad)):=by
 show R.ok (D.int ((l.map (Ai Aa)).length:Ag))=_;rw[AG]
section
variable{E:C6}
def jc(hp:P4 p)(z:Ak a b c%p≠0)(w:Ϛ p E):Ϛ p (pb E a b c):=by
 show Ak _ _ _%p≠0;rw[TW];exact B4 hp (B4 hp z z) w
end
noncomputable def Ox:Df:=⟨3,Ae,{.asg 2 Ae (.int 0),.ife (.cmp .Gt (.bi .len {.v 0}) (.int 0)) {.asg 2 Ae (.x (.v 0) (.B .Mod (.v 1) (.bi .len {.v 0})))} .nil,.ret (.B .Mod (.B .Mult (.B .Add (.B .Add (.B .Mod (.v 2) (.int 1000003)) (.B .Mult (.int 7919) (.v 1))) (.int 11)) (.int 48271)) (.int 1000033))}⟩
def rf(Z:Z2)(ns:Ac Ad)(k:Ad)(h0:0<=k):∃ m,0<=m/\Ox.run Z [þ ns,.int k]=.ok (.int m):=by
 have m1:Ey 7919 k=Aa:=IT (by decide) (by decide)
 have m2:∀ x,Ey x 48271=Aa:=λx=>Td (by decide) (by decide)
 have ln:Tm .len [þ ns]=.ok (.int ns.length):=by simp[þ]
 by_cases h1:0<(ns.length:Ad)
 .have q0:=A3 k (b:=(ns.length:Ad)) (by omega)
  have q1:=AV k h1;have g:BR (þ ns) (.int (k%(ns.length:Ad)))=.ok (.int (ns.getD (k%(ns.length:Ad)).toNat 0)):=zV (ns:=ns) q0 q1;generalize ns.getD (k%(ns.length:Ad)).toNat 0=x at g;refine⟨(x%1000003+7919*k+11)*48271%1000033,A3 _ (by decide),?_⟩
  generalize þ ns=S,(ns.length:Ad)=N at *;simp[Ox,Df.run,Bc,ln,h1,g,m1,m2]
 .refine⟨(0%1000003+7919*k+11)*48271%1000033,A3 _ (by decide),?_⟩
  generalize þ ns=S,(ns.length:Ad)=N at *;simp[Ox,Df.run,Bc,ln,h1,m1,m2]
noncomputable def Rg:Df:=⟨1,Ae,{.ret (.x (.L {.int 3,.int 5,.int 7,.int 5,.int 7,.int 11}) (.B .Mod (.call 228 {.v 0,.int 0}) (.int 6)))}⟩
def xS(h:KR Z 228 ns):∃ p,P4 p/\Rg.run Z [þ ns]=.ok (.int p):=by
 obtain⟨m,m0,e⟩:=h 0 (by decide)
 have q:m%6=0\/m%6=1\/m%6=2\/m%6=3\/m%6=4\/m%6=5:=by omega
 have g:∃ p,P4 p/\Dl [.int 3,.int 5,.int 7,.int 5,.int 7,.int 11] (m%6)=.ok (.int p):=by
  rcases q with z|z|z|z|z|z<;>rw[z]
  .exact⟨3,.inl rfl,rfl⟩
  .exact⟨5,.inr (.inl rfl),rfl⟩
  .exact⟨7,.inr (.inr (.inl rfl)),rfl⟩
  .exact⟨5,.inr (.inl rfl),rfl⟩
  .exact⟨7,.inr (.inr (.inl rfl)),rfl⟩
  .exact⟨11,.inr (.inr (.inr rfl)),rfl⟩
 obtain⟨p,hp,g⟩:=g;refine⟨p,hp,?_⟩;simp[Rg,Df.run,Bc,e,g]
def X0(Z:Z2):Prop:=∀(p:Ad)(b:Al)(xs:Ac Ad)(l t:Ad),P4 p->A4 p xs=Ab l->Em p l t->Z.F 288 [.int p,DC b xs]=.ok (.H (ds (Þ p t xs)))
noncomputable def Rh:Df:=⟨6,Ae,{.asg 3 Ae (.B .Sub (.B .Mult (.x (.v 1) (.int 1)) (.x (.v 2) (.int 2))) (.B .Mult (.x (.v 1) (.int 2)) (.x (.v 2) (.int 1)))),.asg 4 Ae (.B .Sub (.B .Mult (.x (.v 1) (.int 2)) (.x (.v 2) (.int 0))) (.B .Mult (.x (.v 1) (.int 0)) (.x (.v 2) (.int 2)))),.asg 5 Ae (.B .Sub (.B .Mult (.x (.v 1) (.int 0)) (.x (.v 2) (.int 1))) (.B .Mult (.x (.v 1) (.int 1)) (.x (.v 2) (.int 0)))),.ret (.H {.B .Mod (.v 3) (.v 0),.B .Mod (.v 4) (.v 0),.B .Mod (.v 5) (.v 0)})}⟩
def Jk(Z:Z2):Prop:=∀(p:Ad)(q q':Al)(a x:R3),0<p->B3 a->B3 x->Z.F 232 [.int p,Ai q a,Ai q' x]=.ok (Ai Aa (ö p (Z8 a x)))
def uM(Z:Z2)(p:Ad)(q q':Al)(a x:R3)(p0:0<p)(ha:B3 a)(hx:B3 x):Rh.run Z [.int p,Ai q a,Ai q' x]=.ok (Ai Aa (ö p (Z8 a x))):=by
 obtain⟨x0,x1,x2⟩:=FQ q a;obtain⟨y0,y1,y2⟩:=FQ q' x;have k:∀ {u v},Bd 300 u->Bd 300 v->E5 u v=Aa:=λhu hv=>GB hu hv (by decide) (by decide)
 simp[Rh,Df.run,Bc,x0,x1,x2,y0,y1,y2,k ha.1 hx.1,k ha.1 hx.2.1,k ha.1 hx.2.2,k ha.2.1 hx.1,k ha.2.1 hx.2.1,k ha.2.1 hx.2.2,k ha.2.2 hx.1,k ha.2.2 hx.2.1,k ha.2.2 hx.2.2,p0];rfl
noncomputable def Sc:Df:=⟨3,Ae,{.ret (.B .Mod (.B .Add (.B .Add (.B .Mult (.x (.v 1) (.int 0)) (.x (.v 2) (.int 0))) (.B .Mult (.x (.v 1) (.int 1)) (.x (.v 2) (.int 1)))) (.B .Mult (.x (.v 1) (.int 2)) (.x (.v 2) (.int 2)))) (.v 0))}⟩
def IQ(Z:Z2):Prop:=∀(p:Ad)(q q':Al)(a x:R3),0<p->B3 a->B3 x->Z.F 233 [.int p,Ai q a,Ai q' x]=.ok (.int (Ay a x%p))
def uF(Z:Z2)(p:Ad)(q q':Al)(a x:R3)(p0:0<p)(ha:B3 a)(hx:B3 x):Sc.run Z [.int p,Ai q a,Ai q' x]=.ok (.int (Ay a x%p)):=by
 obtain⟨x0,x1,x2⟩:=FQ q a;obtain⟨y0,y1,y2⟩:=FQ q' x;have k:∀ {u v},Bd 300 u->Bd 300 v->E5 u v=Aa:=λhu hv=>GB hu hv (by decide) (by decide)
 simp[Sc,Df.run,Bc,x0,x1,x2,y0,y1,y2,k ha.1 hx.1,k ha.2.1 hx.2.1,k ha.2.2 hx.2.2,p0];rfl
noncomputable def Oq:E:=(.call 233 {.v 0,.v 3,.v 2})
noncomputable def Ry:Df:=⟨4,Ae,{.ret (.call 288 {.v 0,.comp Oq 3 (.e (.v 1)) B6})}⟩
def WD(Z:Z2):Prop:=∀(p:Ad)(t q q':Al)(a b c x:R3),U7 p a b c->B3 x->(∃ l,A4 p (Fr x)=Ab l)->Z.F 289 [.int p,Dk t q a b c,Ai q' x]=.ok (Ai Aa (OV p (ap a b c x)))
def uJ(hs:IQ Z)(hf:X0 Z)(p:Ad)(t q q':Al)(a b c x:R3)(G:U7 p a b c)(hx:B3 x)(lx:∃ l,A4 p (Fr x)=Ab l):Ry.run Z [.int p,Dk t q a b c,Ai q' x]=.ok (Ai Aa (OV p (ap a b c x))):=by
 have hp:=G.p4;have p0:=hp.pos;obtain⟨l0,lx⟩:=lx;obtain⟨l,el⟩:=NM hp G.nz lx Z5.rfl;obtain⟨u,iu,j,l1,pr,ef⟩:=SM hp el;obtain⟨n1,n2⟩:=Mr hp el;have e0:Z3 p u (ap a b c x)=OV p (ap a b c x):=KQ hp ⟨j,l1⟩ n1 (pr.trans hp (n2.symm hp));have md:(Fr (ö p (ap a b c x))).map (λx=>x%p)=(Fr (ap a b c x)).map (λx=>x%p):=by
  show [_%p%p,_%p%p,_%p%p]=[_%p,_%p,_%p];simp only[AY _ (BD p)]
 have e:=hf p Ae (Fr (ö p (ap a b c x))) l u hp (by rw[Mn md];exact el) iu
 rw[Sv md,ef,e0]at e;have e':Z.F 288 [.int p,.L [.int (Ay a x%p),.int (Ay b x%p),.int (Ay c x%p)]]=.ok (Ai Aa (OV p (ap a b c x))):=e;have b3:∀ {r},Z4 p r->B3 r:=λh=>(Cc hp h).b3 (by decide)
 have k:∀ r,Z4 p r->cF Z [si p,sh (Dk t q a b c),sh (Ai q' x),Af] 3 Oq (Ai q r)=.ok (.int (Ay r x%p)):=λr hr=>by
  have e1:=hs p q q' r x p0 (b3 hr) hx;generalize Ai q r=rr,Ai q' x=xx at *;simp[cF,Oq,e1]
 have g:∀ d,cG Z [si p,sh (Dk t q a b c),sh (Ai q' x),Af] 3 B6 d=.ok Aa:=λ_=>rfl
 have cp:Bz (cG Z [si p,sh (Dk t q a b c),sh (Ai q' x),Af] 3 B6) (cF Z [si p,sh (Dk t q a b c),sh (Ai q' x),Af] 3 Oq) [Ai q a,Ai q b,Ai q c]=.ok [.int (Ay a x%p),.int (Ay b x%p),.int (Ay c x%p)]:=by
  simp[Bz,g,k a G.ia,k b G.ib,k c G.ic]
 have sq:=U_2 t q a b c;generalize Ai Aa (OV p (ap a b c x))=Y_,Ai q' x=xx,Dk t q a b c=TT,[Ai q a,Ai q b,Ai q c]=LL at *;simp[Ry,Df.run,Bc,sq,cp,e']
noncomputable def Nq:Ss:={.app 2 (.call 289 {.v 0,.v 1,.H {.int 1,.v 3,.B .Mult (.v 3) (.v 3)}})}
noncomputable def Q6:Df:=⟨4,Ae,{.asg 2 Aa (.L {.call 289 {.v 0,.v 1,.H {.int 0,.int 0,.int 1}}}),.fors 3 (.rng (.v 0)) Nq,.ret (.v 2)}⟩
noncomputable def GU(p:Ad):Ac R3:=(0,0,1)::(AK p.toNat).map fun(t:Ag)=>((1:Ad),(t:Ad),(t:Ad)*(t:Ad))
def Pb(hp:P4 p)(hx:x∈GU p):B3 x/\∃ l,A4 p (Fr x)=Ab l:=by
 have p1:1<p:=by have:=hp.lo;omega
 have ph:=hp.hi;rcases Aw.mp hx with rfl|hx
 .exact⟨(Cc hp (a:=(0,0,1)) ⟨⟨HL 0,hp.pos⟩,⟨HL 0,hp.pos⟩,⟨(by decide:(0:Ad)<=1),p1⟩⟩).b3 (by decide),1,YH p1⟩
 .obtain⟨t,ht,rfl⟩:=A7.mp hx;have ht:=A9.mp ht;have t0:(t:Ad)<11:=by omega
  have tt:(t:Ad)*(t:Ad)<=11*11:=ZN (by omega) (by omega) (by omega) (by decide)
  have t2:0<=(t:Ad)*(t:Ad):=JG (by omega) (by omega)
  have pw:(2:Ag) ^ 10<=2 ^ 300:=EG (by decide) (by decide)
  refine⟨⟨?_,?_,?_⟩,1,Vc p1 _ _⟩
  .exact AF (by decide:(1:Ad).natAbs<2 ^ 10) pw
  .exact AF (by show ((t:Ad)).natAbs<2 ^ 10;omega) pw
  .exact AF (by show ((t:Ad)*(t:Ad)).natAbs<2 ^ 10;omega) pw
def bf(mm:Ey m m=Aa)(en:Z.F 289 [.int p,RR,.H [.int 1,.int m,.int (m*m)]]=.ok Y_)(sz:Dv (Z1.length+1)=Aa):Bu Z 3 Nq (.int m) [si p,sh RR,Ab (.L Z1,Aa),s3]=.next [si p,sh RR,Ab (.L (Z1++[Y_]),Aa),si m]:=by
 simp[Bu,Nq,mm,en,DG,sz]
def Zyv(Z:Z2):Prop:=∀(p:Ad)(a b c:R3),U7 p a b c->Z.F 290 [.int p,FR a b c]=.ok (Au ((GU p).map λx=>OV p (ap a b c x)))
def qu(hl:WD Z)(p:Ad)(a b c:R3)(G:U7 p a b c):Q6.run Z [.int p,FR a b c]=.ok (Au ((GU p).map λx=>OV p (ap a b c x))):=by
 have hp:=G.p4;have ph:=hp.hi;have pl:=hp.lo;have L:∀ x∈GU p,Z.F 289 [.int p,FR a b c,Ai Aa x]=.ok (Ai Aa (OV p (ap a b c x))):=λx hx=>hl p Ae Ae Aa a b c x G (Pb hp hx).1 (Pb hp hx).2
 have e0:Z.F 289 [.int p,FR a b c,.H [.int 0,.int 0,.int 1]]=.ok (Ai Aa (OV p (ap a b c (0,0,1)))):=L (0,0,1) (Ax ..);have rg:De 0 p=.ok (Dx 0 (p-0).toNat):=NC (by decide) (by decide) (by omega) (by omega)
 rw[G5]at rg;have lp:=RJ (body:=Bu Z 3 Nq) (λn U=>∃ s3,U=[si p,sh (FR a b c),Ab (.L (((0,0,1)::(AK n).map fun(t:Ag)=>((1:Ad),(t:Ad),(t:Ad)*(t:Ad))).map λx=>Ai Aa (OV p (ap a b c x))),Aa),s3]) (Dx 0 p.toNat) 0 [si p,sh (FR a b c),Ab (.L [Ai Aa (OV p (ap a b c (0,0,1)))],Aa),Af] ⟨Af,rfl⟩ (by
  rintro n x hx U ⟨s3,rfl⟩;obtain⟨hn,rfl⟩:=Sr hx;rw[Dm,Fx];have hm:((1:Ad),(n:Ad),(n:Ad)*(n:Ad))∈GU p:=Av _ (A7.mpr ⟨n,A9.mpr (by omega),rfl⟩)
  have en:Z.F 289 [.int p,FR a b c,.H [.int 1,.int (n:Ad),.int ((n:Ad)*(n:Ad))]]=.ok (Ai Aa (OV p (ap a b c (1,(n:Ad),(n:Ad)*(n:Ad))))):=L _ hm;have lr:(AK (n+1)).map (fun(t:Ag)=>((1:Ad),(t:Ad),(t:Ad)*(t:Ad)))=(AK n).map (fun(t:Ag)=>((1:Ad),(t:Ad),(t:Ad)*(t:Ad)))++[((1:Ad),(n:Ad),(n:Ad)*(n:Ad))]:=by
   rw[aH,D4];rfl
  rw[lr,<-List.cons_append,D4];have len:((((0:Ad),(0:Ad),(1:Ad))::(AK n).map fun(t:Ag)=>((1:Ad),(t:Ad),(t:Ad)*(t:Ad))).map λx=>Ai Aa (OV p (ap a b c x))).length=n+1:=by simp
  generalize ((((0:Ad),(0:Ad),(1:Ad))::(AK n).map fun(t:Ag)=>((1:Ad),(t:Ad),(t:Ad)*(t:Ad))).map λx=>Ai Aa (OV p (ap a b c x)))=Z1 at *
  have sz:Dv (Z1.length+1)=Aa:=G1 (by omega)
  have mm:Ey (n:Ad) (n:Ad)=Aa:=IT (by omega) (by omega)
  refine⟨_,?_,si (n:Ad),rfl⟩;show Bu Z 3 Nq (.int (n:Ad)) [si p,sh (FR a b c),Ab (.L Z1,Aa),s3]=.next [si p,sh (FR a b c),Ab (.L (Z1++[Ai Aa (OV p (ap a b c (1,(n:Ad),(n:Ad)*(n:Ad))))]),Aa),si (n:Ad)];exact bf mm en sz)
 obtain⟨U',e,s3,rfl⟩:=lp;rw[Fx,NA]at e;have fin:D.L (((0,0,1)::(AK p.toNat).map fun(t:Ag)=>((1:Ad),(t:Ad),(t:Ad)*(t:Ad))).map λx=>Ai Aa (OV p (ap a b c x)))=Au ((GU p).map λx=>OV p (ap a b c x)):=by
  unfold Au GU;rw[Do];rfl
 rw[<-fin]
 clear fin L
 generalize (((0,0,1)::(AK p.toNat).map fun(t:Ag)=>((1:Ad),(t:Ad),(t:Ad)*(t:Ad))).map λx=>Ai Aa (OV p (ap a b c x)))=OUT,Dx 0 p.toNat=RL,Ai Aa (OV p (ap a b c (0,0,1)))=Y_,FR a b c=RR at *
 simp[Q6,Df.run,Bc,e0,Dy,rg,e]
noncomputable def QZ:E:=(.and {.isi (.v 3) [.int],.no (.isi (.v 3) [.bool]),.cmp2 .LtE .Lt (.int 0) (.v 3) (.v 0)})
noncomputable def Re:Df:=⟨4,Ae,{.ife (.or {.no (.isi (.v 1) [.tuple]),.cmp .NotEq (.bi .len {.v 1}) (.v 2)}) {.ret (.bl Ae)} .nil,.ret (.bi .all {.comp QZ 3 (.e (.v 1)) B6})}⟩
def XZ(Z:Z2):Prop:=∀(p:Ad)(xs:Ac Ad),(∀ x∈xs,0<=x/\x<p)->Z.F 236 [.int p,.H (ds xs),.int xs.length]=.ok (.bl Aa)
def xR(Z:Z2)(p:Ad)(xs:Ac Ad)(hx:∀ x∈xs,0<=x/\x<p):Re.run Z [.int p,.H (ds xs),.int xs.length]=.ok (.bl Aa):=by
 have c1:Bz (cG Z [si p,sh (.H (ds xs)),si xs.length,Af] 3 B6) (cF Z [si p,sh (.H (ds xs)),si xs.length,Af] 3 QZ) (ds xs)=.ok (xs.map λ_=>D.bl Aa):=by
  refine XC xs λx hm=>⟨rfl,?_⟩
  obtain⟨h0,h1⟩:=hx x hm;simp[cF,QZ,Ø,GW,h0,h1]
 have dl:(ds xs).length=xs.length:=AG ..;simp[Re,Df.run,Bc,Ø,GW,dl,c1,WY]
noncomputable def Rk:E:=(.cmp .Gt (.v 3) (.int 0))
noncomputable def Rl:E:=(.v 3)
noncomputable def Rt:Df:=⟨4,Ae,{.ife (.or {.no (.call 236 {.v 0,.v 1,.v 2}),.cmp .Eq (.bi .sum {.v 1}) (.int 0)}) {.ret (.bl Ae)} .nil,.ret (.cmp .Eq (.x (.comp Rl 3 (.e (.v 1)) Rk) (.int 0)) (.int 1))}⟩
def X1(Z:Z2):Prop:=∀(p:Ad)(xs:Ac Ad),0<p->(∀ x∈xs,0<=x/\x<p)->A4 p xs=Ab 1->Z.F 237 [.int p,.H (ds xs),.int xs.length]=.ok (.bl Aa)
def Sn{p:Ad}:∀ xs:Ac Ad,(∀ v∈xs,0<=v/\v<p)->A4 p xs=(xs.filter λv=>decide (0<v)).head?
 |[],_=>rfl
 |v::xs,h=>by
  have hv:=h v (Ax ..);have em:=AI hv.1 hv.2;have ih:=Sn xs λw hw=>h w (Av _ hw)
  unfold A4;rw[em,EQ,ih];by_cases z:v=0
  .rw[AC z,z];rfl
  .rw[AH z,AC (by simp;omega)]
   rfl
def Yk:∀(xs:Ac Ad)(a:Ad),HH a (ds xs)=.ok (a+xs.sum)
 |[],a=>by show R.ok a=_;simp
 |x::xs,a=>by
  show HH (a+x) (ds xs)=_;rw[Yk xs (a+x)];simp[Int.add_assoc]
def W7{p:Ad}:∀ xs:Ac Ad,(∀ v∈xs,0<=v/\v<p)->0<=xs.sum/\∀ v∈xs,v<=xs.sum
 |[],_=>⟨by simp,λv h=>nomatch h⟩
 |x::xs,h=>by
  obtain⟨h1,h2⟩:=W7 xs λw hw=>h w (Av _ hw)
  have hx:=h x (Ax ..);rw[List.sum_cons];refine⟨by omega,λv hv=>?_⟩
  rcases Aw.mp hv with rfl|hv
  .omega
  .have:=h2 v hv;omega
def Xh(hr:XZ Z)(p:Ad)(xs:Ac Ad)(p0:0<p)(hx:∀ x∈xs,0<=x/\x<p)(l1:A4 p xs=Ab 1):Rt.run Z [.int p,.H (ds xs),.int xs.length]=.ok (.bl Aa):=by
 have e1:=hr p xs hx;have hd:(xs.filter λv=>decide (0<v)).head?=Ab 1:=by rw[<-Sn xs hx];exact l1
 have m1:(1:Ad)∈xs:=by
  have:(1:Ad)∈xs.filter λv=>decide (0<v):=List.mem_of_mem_head? hd
  exact(BJ.mp this).1
 obtain⟨s0,s1⟩:=W7 xs hx;have sz:¬ xs.sum=0:=by have:=s1 1 m1;omega
 have sm:Tm .sum [.H (ds xs)]=.ok (.int xs.sum):=by
  show (HH 0 (ds xs)).bind (λi=>R.ok (D.int i))=_
  rw[Yk,Dm];rfl
 have sq:Ct (.H (ds xs))=.ok (ds xs):=rfl;have c1:∀ n:Ad,Bz (cG Z [si p,sh (.H (ds xs)),si n,Af] 3 Rk) (cF Z [si p,sh (.H (ds xs)),si n,Af] 3 Rl) (ds xs)=.ok (ds (xs.filter λv=>decide (0<v))):=λn=>by
  refine OB xs λv _=>⟨?_,?_⟩
  .simp[cG,Rk]
  .simp[cF,Rl]
 have g:=RY hd;generalize (xs.length:Ad)=N,xs.sum=SS,ds (xs.filter λv=>decide (0<v))=FL,D.H (ds xs)=TT,ds xs=XL at *
 simp[Rt,Df.run,Bc,e1,sm,sz,sq,c1,g]
noncomputable def C0p:C6:=⟨0,1,0,0,-1,0⟩
noncomputable def QY:E:=(.B .Mod (.B .Add (.v 9) (.B .Mult (.v 8) (.v 10))) (.v 0))
noncomputable def IL:Ss:={.asg 5 Ae (.call 228 {.v 1,.B .Add (.v 2) (.v 4)}),.asg 6 Ae (.B .Mod (.v 5) (.int 3)),.asg 7 Ae (.B .Mod (.B .Add (.B .Add (.v 6) (.int 1)) (.B .Mod (.B .FloorDiv (.v 5) (.int 3)) (.int 2))) (.int 3)),.asg 8 Ae (.B .Mod (.B .FloorDiv (.v 5) (.int 6)) (.v 0)),.put 3 (.v 6) (.compT QY [9,10] (.zip (.x (.v 3) (.v 6)) (.x (.v 3) (.v 7))) B6),.ife (.cmp .Eq (.B .Mod (.B .FloorDiv (.v 5) (.int 100)) (.int 3)) (.int 1)) {.asg 3 Aa (.L {.x (.v 3) (.v 7),.x (.v 3) (.v 6),.x (.v 3) (.B .Sub (.B .Sub (.int 3) (.v 6)) (.v 7))})} .nil}
noncomputable def QX:E:=(.B .Mod (.B .Mult (.v 8) (.v 11)) (.v 0))
noncomputable def Rc:Df:=⟨12,Ae,{.asg 3 Aa (.L {.L {.int 1,.int 0,.int 0},.L {.int 0,.int 1,.int 0},.L {.int 0,.int 0,.int 1}}),.fors 4 (.rng (.int 6)) IL,.asg 8 Ae (.B .Add (.int 1) (.B .Mod (.call 228 {.v 1,.B .Add (.v 2) (.int 6)}) (.B .Sub (.v 0) (.int 1)))),.put 3 (.int 0) (.comp QX 11 (.e (.x (.v 3) (.int 0))) B6),.ret (.v 3)}⟩
def xK{a:R3}{i:Ad}(h:U7 p a b c)(ij:Ij i j):∃(i':Ag)(x y a' b' c':R3),Dl (L3 a b c) i=.ok (El x)/\Dl (L3 a b c) j=.ok (El y)/\ϳ 3 i=Ab i'/\U7 p a' b' c'/\(L3 a b c).set i' (El (Ũ p t x y))=L3 a' b' c':=by
 have p0:=h.p4.pos;rcases ij with ⟨rfl,rfl⟩|⟨rfl,rfl⟩|⟨rfl,rfl⟩|⟨rfl,rfl⟩|⟨rfl,rfl⟩|⟨rfl,rfl⟩
 .exact⟨0,a,b,_,_,_,rfl,rfl,rfl,h.of (k:=1) h.p4.o1 (kU p t a b c) ⟨MU p0 _ _ _,h.ib,h.ic⟩,rfl⟩
 .exact⟨0,a,c,_,_,_,rfl,rfl,rfl,h.of (k:=1) h.p4.o1 (kT p t a b c) ⟨MU p0 _ _ _,h.ib,h.ic⟩,rfl⟩
 .exact⟨1,b,a,_,_,_,rfl,rfl,rfl,h.of (k:=1) h.p4.o1 (kS p t a b c) ⟨h.ia,MU p0 _ _ _,h.ic⟩,rfl⟩
 .exact⟨1,b,c,_,_,_,rfl,rfl,rfl,h.of (k:=1) h.p4.o1 (kR p t a b c) ⟨h.ia,MU p0 _ _ _,h.ic⟩,rfl⟩
 .exact⟨2,c,a,_,_,_,rfl,rfl,rfl,h.of (k:=1) h.p4.o1 (kQ p t a b c) ⟨h.ia,h.ib,MU p0 _ _ _⟩,rfl⟩
 .exact⟨2,c,b,_,_,_,rfl,rfl,rfl,h.of (k:=1) h.p4.o1 (kP p t a b c) ⟨h.ia,h.ib,MU p0 _ _ _⟩,rfl⟩
def zJ{a:R3}{i:Ad}(h:U7 p a b c)(ij:Ij i j):∃(x y z:R3),Dl (L3 a b c) j=.ok (El x)/\Dl (L3 a b c) i=.ok (El y)/\Dl (L3 a b c) (3-i-j)=.ok (El z)/\U7 p x y z:=by
 rcases ij with ⟨rfl,rfl⟩|⟨rfl,rfl⟩|⟨rfl,rfl⟩|⟨rfl,rfl⟩|⟨rfl,rfl⟩|⟨rfl,rfl⟩
 .exact⟨b,a,c,rfl,rfl,rfl,h.of (k:=-1) h.p4.m1 (Cg.of (by unfold Ak U0;grind)) ⟨h.ib,h.ia,h.ic⟩⟩
 .exact⟨c,a,b,rfl,rfl,rfl,h.of (k:=1) h.p4.o1 (Cg.of (by unfold Ak U0;grind)) ⟨h.ic,h.ia,h.ib⟩⟩
 .exact⟨a,b,c,rfl,rfl,rfl,h⟩
 .exact⟨c,b,a,rfl,rfl,rfl,h.of (k:=-1) h.p4.m1 (Cg.of (by unfold Ak U0;grind)) ⟨h.ic,h.ib,h.ia⟩⟩
 .exact⟨a,c,b,rfl,rfl,rfl,h.of (k:=-1) h.p4.m1 (Cg.of (by unfold Ak U0;grind)) ⟨h.ia,h.ic,h.ib⟩⟩
 .exact⟨b,c,a,rfl,rfl,rfl,h.of (k:=1) h.p4.o1 (Cg.of (by unfold Ak U0;grind)) ⟨h.ib,h.ic,h.ia⟩⟩
def wV(hm:KR Z 228 ns)(h:U7 p a b c)(ha:0<=at_)(hk:0<=k):∃ a' b' c' v5 v6 v7 v8,U7 p a' b' c'/\Bu Z 4 IL (.int k) [si p,sh (þ ns),si at_,Ab (.L (L3 a b c),Aa),s4,s5,s6,s7,s8,Af,Af,Af]=.next [si p,sh (þ ns),si at_,Ab (.L (L3 a' b' c'),Aa),si k,v5,v6,v7,v8,Af,Af,Af]:=by
 have p0:=h.p4.pos;have ph:=h.p4.hi;obtain⟨m,m0,e0⟩:=hm (at_+k) (by omega)
 generalize hi:m%3=i;generalize hj:(i+1+m/3%2)%3=j;have ij:=jP hi hj;have t0:=A3 (m/6) (b:=p) (by omega)
 have t1:=AV (m/6) p0;generalize ht:m/6%p=t at t0 t1;have mt:∀ x,Ey t x=Aa:=λx=>IT (by omega) (by omega)
 obtain⟨i',x,y,a',b',c',gi,gj,pi,g',es⟩:=xK (t:=t) h ij;obtain⟨x2,y2,z2,f1,f2,f3,g2⟩:=zJ g' ij;have pi':ϳ (L3 a b c).length i=Ab i':=pi;have e1:Y4 Z [si p,sh (þ ns),si at_,Ab (.L (L3 a b c),Aa),si k,s5,s6,s7,s8,Af,Af,Af] (IL.take 4)=.next [si p,sh (þ ns),si at_,Ab (.L (L3 a b c),Aa),si k,si m,si i,si j,si t,Af,Af,Af]:=by
  simp[IL,Ss.take,e0,hi,hj,ht,p0]
 have cp:Bz (Λ Z [si p,sh (þ ns),si at_,Ab (.L (L3 a b c),Aa),si k,si m,si i,si j,si t,Af,Af,Af] [9,10] B6) (ϐ Z [si p,sh (þ ns),si at_,Ab (.L (L3 a b c),Aa),si k,si m,si i,si j,si t,Af,Af,Af] [9,10] QY) (EK [.int x.1,.int x.2.1,.int x.2.2] [.int y.1,.int y.2.1,.int y.2.2])=.ok [.int ((x.1+t*y.1)%p),.int ((x.2.1+t*y.2.1)%p),.int ((x.2.2+t*y.2.2)%p)]:=by
  generalize x.1=x0;generalize x.2.1=x1;generalize x.2.2=x2;generalize y.1=y0;generalize y.2.1=y1;generalize y.2.2=y2;simp[Bz,Λ,ϐ,EK,QY,B6,p0,mt]
 have gi':Dl (L3 a b c) i=.ok (.L [.int x.1,.int x.2.1,.int x.2.2]):=gi;have gj':Dl (L3 a b c) j=.ok (.L [.int y.1,.int y.2.1,.int y.2.2]):=gj;have rd:D.L [.int ((x.1+t*y.1)%p),.int ((x.2.1+t*y.2.1)%p),.int ((x.2.2+t*y.2.2)%p)]=El (Ũ p t x y):=rfl;have fin:∀ {o},Y4 Z [si p,sh (þ ns),si at_,Ab (.L (L3 a b c),Aa),si k,si m,si i,si j,si t,Af,Af,Af] (IL.drop 4)=o->Bu Z 4 IL (.int k) [si p,sh (þ ns),si at_,Ab (.L (L3 a b c),Aa),s4,s5,s6,s7,s8,Af,Af,Af]=o:=λ{o} h=>by
  show Y4 Z [si p,sh (þ ns),si at_,Ab (.L (L3 a b c),Aa),si k,s5,s6,s7,s8,Af,Af,Af] IL=o;rw[WO Z 4,e1];exact h
 have sL:L3 x2 y2 z2=[El x2,El y2,El z2]:=rfl;by_cases q:m/100%3=1
 .refine⟨x2,y2,z2,si m,si i,si j,si t,g2,fin ?_⟩;rw[sL]
  clear e1 fin sL
  generalize L3 a b c=LL,L3 a' b' c'=LM,El x2=rx,El y2=ry,El z2=rz,þ ns=S at *;simp[IL,Ss.drop,Tk,DG,gi',gj',pi',cp,rd,es,q,f1,f2,f3,Dy]
 .refine⟨a',b',c',si m,si i,si j,si t,g',fin ?_⟩
  clear e1 fin sL
  generalize L3 a b c=LL,L3 a' b' c'=LM,þ ns=S at *;simp[IL,Ss.drop,Tk,DG,gi',gj',pi',cp,rd,es,q]
def ji(Z:Z2)(ns:Ac Ad):Prop:=∀(p at_:Ad),P4 p->0<=at_->∃ a b c,U7 p a b c/\Z.F 250 [.int p,þ ns,.int at_]=.ok (FR a b c)
def xP(hm:KR Z 228 ns)(p at_:Ad)(hp:P4 p)(ha:0<=at_):∃ a b c,U7 p a b c/\Rc.run Z [.int p,þ ns,.int at_]=.ok (FR a b c):=by
 have p0:=hp.pos;have g0:U7 p Μ Ν e2R:=(zQ hp).1;have rg:De 0 6=.ok (Dx 0 6):=rfl;obtain⟨U',e,a,b,c,s4,s5,s6,s7,s8,g,rfl⟩:=WK (body:=Bu Z 4 IL) (λU=>∃ a b c s4 s5 s6 s7 s8,U7 p a b c/\U=[si p,sh (þ ns),si at_,Ab (.L (L3 a b c),Aa),s4,s5,s6,s7,s8,Af,Af,Af]) (Dx 0 6) [si p,sh (þ ns),si at_,Ab (.L (L3 Μ Ν e2R),Aa),Af,Af,Af,Af,Af,Af,Af,Af] ⟨_,_,_,_,_,_,_,_,g0,rfl⟩ (by
  rintro x hx U ⟨a,b,c,s4,s5,s6,s7,s8,g,rfl⟩;obtain⟨k,_,rfl⟩:=uC hx;obtain⟨a',b',c',v5,v6,v7,v8,g',e⟩:=wV (s4:=s4) (s5:=s5) (s6:=s6) (s7:=s7) (s8:=s8) hm g ha (k:=0+(k:Ad)) (by omega)
  exact⟨_,e,a',b',c',_,_,_,_,_,g',rfl⟩)
 obtain⟨m,m0,e2⟩:=hm (at_+6) (by omega)
 have q1:0<p-1:=by have:=hp.lo;omega
 have q2:1<p:=by have:=hp.lo;omega
 have t0:0<1+m%(p-1):=by have:=A3 m (b:=p-1) (by omega);omega
 have t1:1+m%(p-1)<p:=by have:=AV m q1;omega
 generalize ht:1+m%(p-1)=t at t0 t1;have tz:t%p≠0:=by rw[AI (by omega) t1];omega
 have mt:∀ x,Ey t x=Aa:=λx=>IT (by omega) (by have:=hp.hi;omega)
 refine⟨scR p t a,b,c,g.of (k:=t) tz (nC p t a b c) ⟨iJ p0 _ _,g.ib,g.ic⟩,?_⟩;have cp:Bz (cG Z [si p,sh (þ ns),si at_,Ab (.L (L3 a b c),Aa),s4,s5,s6,s7,si t,Af,Af,Af] 11 B6) (cF Z [si p,sh (þ ns),si at_,Ab (.L (L3 a b c),Aa),s4,s5,s6,s7,si t,Af,Af,Af] 11 QX) [.int a.1,.int a.2.1,.int a.2.2]=.ok [.int (a.1*t%p),.int (a.2.1*t%p),.int (a.2.2*t%p)]:=by
  refine Ly (φ:=λx=>x*t%p) [a.1,a.2.1,a.2.2] λx _=>⟨rfl,?_⟩
  simp[cF,QX,mt,p0,Cd]
 have e':CD (Bu Z 4 IL) (Dx 0 6) [si p,sh (þ ns),si at_,Ab (.L [.L [.int 1,.int 0,.int 0],.L [.int 0,.int 1,.int 0],.L [.int 0,.int 0,.int 1]],Aa),Af,Af,Af,Af,Af,Af,Af,Af]=_:=e;have g0':Dl (L3 a b c) 0=.ok (.L [.int a.1,.int a.2.1,.int a.2.2]):=rfl;have pl:ϳ (L3 a b c).length 0=Ab 0:=rfl;have out:D.L ((L3 a b c).set 0 (.L [.int (a.1*t%p),.int (a.2.1*t%p),.int (a.2.2*t%p)]))=FR (scR p t a) b c:=rfl
 clear e
 rw[<-out]
 clear out
 generalize L3 a b c=LL,Dx 0 6=RL,þ ns=S at *;simp[Rc,Df.run,Bc,Dy,rg,e',e2,q1,q2,ht,Tk,DG,g0',pl,cp]
def swp(h:Ay U_ m%p=0):Ay m U_%p=0:=by rw[IR];exact h
noncomputable def MR(p:Ad):Ac R3:=(GU p).map (ö p)
def uW(hp:P4 p):(MR p).Nodup:=by
 rcases hp with rfl|rfl|rfl|rfl<;>decide+kernel
def W3(hp:P4 p):∀ x∈MR p,x∈Cr p/\vI C0p x%p=0:=by
 rcases hp with rfl|rfl|rfl|rfl<;>decide+kernel
def b9(hp:P4 p):∀ x∈Cr p,vI C0p x%p=0->x∈MR p:=by
 rcases hp with rfl|rfl|rfl|rfl<;>decide+kernel
def V5(hp:P4 p)(x:R3):x∈MR p↔NF p x/\vI C0p x%p=0:=
 ⟨λh=>⟨(FG hp).mp (W3 hp x h).1,(W3 hp x h).2⟩,λh=>b9 hp x ((FG hp).mpr h.1) h.2⟩
def zX{p:Ad}(hp:P4 p)(er:A4 p (Fr r)=Ab l)(es:A4 p (Fr s)=Ab l')(h:Z5 p r s):OV p r=OV p s:=by
 obtain⟨h1,h2⟩:=Mr hp er;obtain⟨h3,h4⟩:=Mr hp es;exact KQ hp h1 h3 ((h2.trans hp (Pr.cg hp h)).trans hp (h4.symm hp))
def uU{a:R3}(hp:P4 p)(z:Ak a b c%p≠0):((GU p).map λx=>OV p (ap a b c x))=(MR p).map λx=>OV p (ap a b c x):=by
 unfold MR;rw[Do];refine CM λx hx=>?_
 obtain⟨l,el⟩:=(Pb hp hx).2;have g:Z5 p (ö p x) x:=Z5.md rfl;have g':Z5 p (ap a b c x) (ap a b c (ö p x)):=Qj Z5.rfl Z5.rfl Z5.rfl g.symm;obtain⟨l1,e1⟩:=NM hp z el (Z5.rfl (a:=ap a b c x));obtain⟨l2,e2⟩:=NM hp z el g'.symm;exact zX hp e1 e2 g'
def vV(x:R3)(l:Ac R3):(l.map (Ai Aa)).any (λy=>U4 y (Ai Aa x))=decide (x∈l):=by
 induction l with
 |nil=>simp
 |cons y l ih=>
  rw[BA,Kf,ih,Hn,Dj,DH,AW,AW,AW,Aw];exact or_congr ⟨Oj,Oj⟩ Iff.rfl
def Lw(x:R3)(l:Ac R3):Ci .In (Ai Aa x) (Au l)=.ok (.bl (decide (x∈l))):=by
 have k1:(l.map (Ai Aa)).all (Y8 5)=Aa:=by
  rw[DT];intro y hy;obtain⟨z,_,rfl⟩:=A7.mp hy;exact(NV z).1
 show (if (Y8 5 (Ai Aa x)&&(l.map (Ai Aa)).all (Y8 5))=Aa then R.ok (D.bl ((l.map (Ai Aa)).any λy=>U4 y (Ai Aa x))) else R.bad)=_
 rw[k1,(NV x).1,AC (show (Aa&&Aa)=Aa from rfl),vV]
def SL{i:Ad}(h0:0<=i):EX n d (Ab i)=min i.toNat n:=by
 show (if i<0 then _ else _)=_
 rw[AH (by omega)]
def PU(M:Ac R3){i:Ad}(h0:0<=i):Ý (Au M) Af (Ab i)=.ok (Au (M.take i.toNat)):=by
 show R.ok (D.L (((M.map (Ai Aa)).drop 0).take (EX (M.map (Ai Aa)).length (M.map (Ai Aa)).length (Ab i)-0)))=_;rw[SL h0,JI,IE,AG];unfold Au;rw[Kg]
 congr 2
 by_cases h:i.toNat<=M.length
 .rw[Je h]
 .rw[aP (by omega),Eg (by simp),Eg (by simp;omega)]
def Xa(M:Ac R3){i:Ad}(h0:0<=i)(h1:i.toNat<=M.length):Ý (Au M) (Ab i) Af=.ok (Au (M.drop i.toNat)):=by
 show R.ok (D.L (((M.map (Ai Aa)).drop (EX (M.map (Ai Aa)).length 0 (Ab i))).take ((M.map (Ai Aa)).length-EX (M.map (Ai Aa)).length 0 (Ab i))))=_;rw[SL h0];unfold Au;rw[List.map_drop,AG,Je h1]
 congr 2
 exact Eg (by simp)
def VS(X Y_:Ac R3)(h:X.length+Y_.length<=1000):DD .Add (Au X) (Au Y_)=.ok (Au (X++Y_)):=by
 show (if Dv ((X.map (Ai Aa)).length+(Y_.map (Ai Aa)).length)=Aa then R.ok (D.L (X.map (Ai Aa)++Y_.map (Ai Aa))) else R.bad)=_
 have z:Dv ((X.map (Ai Aa)).length+(Y_.map (Ai Aa)).length)=Aa:=G1 (by rw[AG,AG];omega)
 rw[AC z,<-D4];rfl
def vD{L:Ac R3}{n:Ag}(h:L[n]?=Ab x):BR (Au L) (.int (n:Ad))=.ok (Ai Aa x):=by
 show Dl (L.map (Ai Aa)) (n:Ad)=_;exact Su (by omega) (by rw[Fq,D7,h];rfl)
def jk(Z:Z2)(ns:Ac Ad):Prop:=∀(at_:Ad)(L:Ac R3),0<=at_->L.length<=60->∃ M:Ac R3,M.Perm L/\Z.F 251 [þ ns,.int at_,Au L]=.ok (Au M)
def b8{a:R3}(hp:P4 p)(z:Ak a b c%p≠0):((GU p).map λx=>OV p (ap a b c x)).Nodup:=by
 rw[uU hp z];refine RU (uW hp) λx hx y hy e=>?_
 have h1:=Wb hp z ((V5 hp x).mp hx).1;have h2:=Wb hp z ((V5 hp y).mp hy).1;rw[<-h1,<-h2,e]
def uV(hp:P4 p):4<=(GU p).length/\(GU p).length<=60:=by
 rcases hp with rfl|rfl|rfl|rfl<;>decide+kernel
noncomputable def Md:Ss:={.ife (.call 56 {.v 0,.v 1,.v 3}) {.ret (.bl Aa)} .nil}
noncomputable def OX:Df:=⟨4,Ae,{.fors 3 (.e (.v 2)) Md,.ret (.bl Ae)}⟩
noncomputable def Ol:E:=(.call 57 {.v 0,.v 5,.v 2})
noncomputable def Q0:E:=(.and {.cmp .NotEq (.v 6) (.v 2),.no (.call 221 {.v 0,.v 6,.v 4})})
noncomputable def Rj:Df:=⟨7,Aa,{.asg 4 Ae (.comp Ol 5 (.e (.v 1)) B6),.ret (.comp Ma 6 (.e (.v 3)) Q0)}⟩
noncomputable def Mh:Ss:={.asg 2 Ae (.call 222 {.v 0,.sl (.v 1) .O (.v 3),.v 4,.v 2})}
noncomputable def Se:Df:=⟨5,Ae,{.asg 2 Ae (.call 69 {.v 0}),.forT [3,4] (.enm (.v 1)) Mh,.ret (.v 2)}⟩
noncomputable def Jb(p:Ad)(x:R3)(ls:Ac R3):Al:=ls.any λl=>decide (Ay x l%p=0)
def WV(h:Ua Z){x:R3}(hp:P4 p)(ix:Z4 p x){L:D}:∀(ls:Ac R3)(s3:Sl),(∀ l∈ls,Z4 p l)->∃ ϕ,CD (Bu Z 3 Md) (ls.map (Ai Aa)) [si p,sh (Ai Aa x),sh L,s3]=if Jb p x ls=Aa then .ret (.bl Aa) Ae else .next [si p,sh (Ai Aa x),sh L,ϕ]
 |[],s3,_=>⟨s3,rfl⟩
 |l::ls,s3,hl=>by
  have e:=h p x l hp ix (hl l Ax);obtain⟨ϕ,ih⟩:=WV h hp ix (L:=L) ls (sh (Ai Aa l)) λy hy=>hl y (Av _ hy)
  refine⟨ϕ,?_⟩;show (Bu Z 3 Md (Ai Aa l) _).turn _=_;by_cases z:Ay x l%p=0
  .have t:Jb p x (l::ls)=Aa:=by unfold Jb;simp[z]
   rw[Bo z]at e;rw[AC t];generalize Ai Aa x=X,Ai Aa l=Y_ at *;simp[Bu,Md,e,Dy]
  .have t:Jb p x (l::ls)=Jb p x ls:=by unfold Jb;simp[z]
   rw[Bw z]at e;rw[t,<-ih];generalize Ai Aa x=X,Ai Aa l=Y_ at *;have q:Bu Z 3 Md Y_ [si p,sh X,sh L,s3]=.next [si p,sh X,sh L,sh Y_]:=by simp[Bu,Md,e]
   rw[q];rfl
def ZD(Z:Z2):Prop:=∀(p:Ad)(x:R3)(ls:Ac R3),P4 p->Z4 p x->(∀ l∈ls,Z4 p l)->Z.F 221 [.int p,Ai Aa x,Au ls]=.ok (.bl (Jb p x ls))
def fO(h:Ua Z)(x:R3)(ls:Ac R3)(hp:P4 p)(ix:Z4 p x)(hl:∀ l∈ls,Z4 p l):OX.run Z [.int p,Ai Aa x,Au ls]=.ok (.bl (Jb p x ls)):=by
 obtain⟨s3,e⟩:=WV h hp ix (L:=Au ls) ls Af hl;have sq:Ct (Au ls)=.ok (ls.map (Ai Aa)):=rfl;generalize Au ls=L,ls.map (Ai Aa)=M,Ai Aa x=X at *;cases hb:Jb p x ls with
 |true=>rw[hb,AC rfl]at e;simp[OX,Df.run,Bc,sq,e]
 |false=>rw[hb,AH AX]at e;simp[OX,Df.run,Bc,sq,e]
def vv{r:R3}(ny:NF p y)(pr:Pr p y r):NF p (OV p r)/\Pr p (OV p r) r:=by
 have ex:∃ y,NF p y/\Pr p y r:=⟨y,ny,pr⟩;unfold OV;rw[dif_pos ex];exact DW ex
def jN(hp:P4 p){a:R3}(na:NF p a)(nb:NF p b)(ne:a≠b)(h:PH Z):NF p (OV p (Z8 a b))/\Pr p (OV p (Z8 a b)) (Z8 a b)/\Z.F 57 [.int p,Ai Aa a,Ai Aa b]=.ok (Ai Aa (OV p (Z8 a b))):=by
 obtain⟨y,i,l,pr,e⟩:=h p a b hp na.1 nb.1 na.2 nb.2 ne;obtain⟨n1,n2⟩:=vv ⟨i,l⟩ pr;have q:=KQ hp ⟨i,l⟩ n1 (pr.trans hp (n2.symm hp));rw[q]at e;exact⟨n1,n2,e⟩
def Jt(hp:P4 p){a:R3}(pr:Pr p (OV p (Z8 a b)) (Z8 a b)):Ay q (OV p (Z8 a b))%p=0↔Ak a b q%p=0:=by
 rw[kE hp (show Pr p q q from ⟨1,hp.o1,Z5.of (by unfold AU;simp)⟩) pr,show Ay q (Z8 a b)=Ak a b q by unfold Ay Z8 Ak U0;grind]
noncomputable def Å(p:Ad)(pts:Ac R3)(f q:R3):Al:=!decide (q=f) && !(pts.any λa=>decide (Ak a f q%p=0))
def Tt(Z:Z2):Prop:=∀(p:Ad)(pts:Ac R3)(f:R3)(left:Ac R3),P4 p->(∀ x∈pts,NF p x)->NF p f->f∉pts->(∀ x∈left,NF p x)->Z.F 222 [.int p,Au pts,Ai Aa f,Au left]=.ok (Au (left.filter (Å p pts f)))
def xQ(hj:PH Z)(ha:ZD Z)(pts:Ac R3)(f:R3)(left:Ac R3)(hp:P4 p)(np:∀ x∈pts,NF p x)(nf:NF p f)(ni:f∉pts)(nl:∀ x∈left,NF p x):Rj.run Z [.int p,Au pts,Ai Aa f,Au left]=.ok (Au (left.filter (Å p pts f))):=by
 have jn:∀ a∈pts,NF p (OV p (Z8 a f))/\Pr p (OV p (Z8 a f)) (Z8 a f)/\Z.F 57 [.int p,Ai Aa a,Ai Aa f]=.ok (Ai Aa (OV p (Z8 a f))):=λa h=>jN hp (np a h) nf (λz=>ni (z ▸ h)) hj
 have c1:∀ xs:Ac R3,(∀ a∈xs,a∈pts)->Bz (cG Z [si p,sh (Au pts),sh (Ai Aa f),sh (Au left),Af,Af,Af] 5 B6) (cF Z [si p,sh (Au pts),sh (Ai Aa f),sh (Au left),Af,Af,Af] 5 Ol) (xs.map (Ai Aa))=.ok ((xs.map λa=>OV p (Z8 a f)).map (Ai Aa)):=by
  intro xs
  induction xs with
  |nil=>intro _;rfl
  |cons a xs ih=>
   intro h;have e:=(jn a (h a Ax)).2.2;have e1:cF Z [si p,sh (Au pts),sh (Ai Aa f),sh (Au left),Af,Af,Af] 5 Ol (Ai Aa a)=.ok (Ai Aa (OV p (Z8 a f))):=by
    generalize Ai Aa (OV p (Z8 a f))=Y_,Ai Aa a=X,Ai Aa f=F,Au pts=T,Au left=TL at *;simp[cF,Ol,e]
   have ih':=ih λb hb=>h b (Av _ hb)
   show (R.ok Aa).bind _=_;rw[R.bind_ok,AC rfl,e1,R.bind_ok,show Bz _ _ (ID _ xs)=_ from ih']
   rfl
 have c1:=c1 pts λ_ h=>h
 have il:∀ l∈(pts.map λa=>OV p (Z8 a f)),Z4 p l:=λl hl=>by
  obtain⟨a,h,rfl⟩:=A7.mp hl;exact(jn a h).1.1
 have c2:=R6 (g:=cG Z [si p,sh (Au pts),sh (Ai Aa f),sh (Au left),sh (Au (pts.map λa=>OV p (Z8 a f))),Af,Af] 6 Q0) (f:=cF Z [si p,sh (Au pts),sh (Ai Aa f),sh (Au left),sh (Au (pts.map λa=>OV p (Z8 a f))),Af,Af] 6 Ma) (q:=Å p pts f) left λx hx=>by
  have e:=ha p x _ hp (nl x hx).1 il;have q1:Jb p x (pts.map λa=>OV p (Z8 a f))=pts.any λa=>decide (Ak a f x%p=0):=by
   unfold Jb;rw[ZU,Dj,EO,EO];constructor
   .rintro⟨a,h,z⟩;exact⟨a,h,Bo ((Jt hp (jn a h).2.1).mp (By z))⟩
   .rintro⟨a,h,z⟩;exact⟨a,h,Bo ((Jt hp (jn a h).2.1).mpr (By z))⟩
  rw[q1]at e;have q2:=Hn x f;have f1:=(NV x).1;have f2:=(NV f).1;unfold Å;generalize (pts.any λa=>decide (Ak a f x%p=0))=B,decide (x=f)=B2,Au (pts.map λa=>OV p (Z8 a f))=T2,Ai Aa x=X,Ai Aa f=F,Au pts=T,Au left=TL at *
  constructor
  .cases B2<;>cases B<;>simp[cG,Q0,e,q2,f1,f2]
  .simp[cF,Ma]
 have s1:Ct (Au pts)=.ok (pts.map (Ai Aa)):=rfl;have s2:Ct (Au left)=.ok (left.map (Ai Aa)):=rfl;have e3:Au (pts.map λa=>OV p (Z8 a f))=.L ((pts.map λa=>OV p (Z8 a f)).map (Ai Aa)):=rfl
 have e4:Au (left.filter (Å p pts f))=.L ((left.filter (Å p pts f)).map (Ai Aa)):=rfl;rw[e3]at c2;rw[e4];generalize (left.filter (Å p pts f)).map (Ai Aa)=RL,(pts.map λa=>OV p (Z8 a f)).map (Ai Aa)=LL,left.map (Ai Aa)=M2,pts.map (Ai Aa)=M1,Ai Aa f=F,Au pts=T,Au left=TL at *
 simp[Rj,Df.run,Bc,s1,s2,c1,c2,Dy]
noncomputable def JA(p:Ad):Ac R3->Ac R3->Ac R3->Ac R3
 |_,[],left=>left
 |seen,f::rest,left=>JA p (seen++[f]) rest (left.filter (Å p seen f))
def Sw{x:R3}:∀{rest seen left:Ac R3},x∈JA p seen rest left->x∈left
 |[],_,_,h=>h
 |_::_,_,_,h=>(BJ.mp (Sw h)).1
def WL(h:Tt Z)(hp:P4 p)(np:∀ x∈PT,NF p x)(nd:PT.Nodup)(hz:PT.length<=1000):∀(rest seen left:Ac R3)(s3 s4:Sl),PT=seen++rest->(∀ x∈left,NF p x)->∃ ϕ ϵ,CD (EI Z [3,4] Mh) (E6 seen.length (rest.map (Ai Aa))) [si p,sh (Au PT),sh (Au left),s3,s4]=.next [si p,sh (Au PT),sh (Au (JA p seen rest left)),ϕ,ϵ]
 |[],seen,left,s3,s4,_,_=>⟨s3,s4,rfl⟩
 |f::rest,seen,left,s3,s4,e,nl=>by
  have nf:NF p f:=np f (by rw[e];simp)
  have ns:∀ x∈seen,NF p x:=λx hx=>np x (by rw[e];simp[hx])
  have ni:f∉seen:=λz=>by
   rw[e,List.nodup_append]at nd;exact nd.2.2 f z f Ax rfl
  have e1:=h p seen f left hp ns nf ni nl;obtain⟨ϕ,ϵ,ih⟩:=WL h hp np nd hz rest (seen++[f]) (left.filter (Å p seen f)) (si seen.length) (sh (Ai Aa f)) (by rw[e];simp) λx hx=>nl x (BJ.mp hx).1
  refine⟨ϕ,ϵ,?_⟩;rw[BE,Er]at ih;rw[show JA p seen (f::rest) left=JA p (seen++[f]) rest (left.filter (Å p seen f)) from rfl,<-ih]
  have s1:Ý (Au PT) Af (Ab (seen.length:Ad))=.ok (Au seen):=by
   rw[PU PT (by omega),Fq,e,aJ]
   rfl
  show (EI Z [3,4] Mh (.H [.int seen.length,Ai Aa f]) _).turn _=_;have t:EI Z [3,4] Mh (.H [.int seen.length,Ai Aa f]) [si p,sh (Au PT),sh (Au left),s3,s4]=.next [si p,sh (Au PT),sh (Au (left.filter (Å p seen f))),si seen.length,sh (Ai Aa f)]:=by
   generalize Au (left.filter (Å p seen f))=T3,Au left=T2,Au PT=T1,Au seen=T0,Ai Aa f=F at *;simp[EI,Mh,FH,F4,s1,e1,slE]
  rw[t];rfl
noncomputable def Ja(p:Ad)(pts:Ac R3):Ac R3:=JA p [] pts (Cr p)
def lK(Z:Z2):Prop:=∀(p:Ad)(pts:Ac R3),P4 p->(∀ x∈pts,NF p x)->pts.Nodup->pts.length<=1000->Z.F 223 [.int p,Au pts]=.ok (Au (Ja p pts))
def hU(h:Tt Z)(ht:∀ p,P4 p->Z.F 69 [.int p]=.ok (Au (Cr p)))(pts:Ac R3)(hp:P4 p)(np:∀ x∈pts,NF p x)(nd:pts.Nodup)(hz:pts.length<=1000):Se.run Z [.int p,Au pts]=.ok (Au (Ja p pts)):=by
 obtain⟨s3,s4,e⟩:=WL h hp np nd hz pts [] (Cr p) Af Af rfl λx hx=>(FG hp).mp hx
 have e1:=ht p hp;have sq:Ct (Au pts)=.ok (pts.map (Ai Aa)):=rfl;unfold Ja;generalize Au (JA p [] pts (Cr p))=T3,Au (Cr p)=T2,pts.map (Ai Aa)=M,Au pts=T at *;have e':CD (EI Z [3,4] Mh) (E6 0 M) [si p,sh T,sh T2,Af,Af]=.next [si p,sh T,sh T3,s3,s4]:=e;simp[Se,Df.run,Bc,e1,sq,e']
noncomputable def Rs:Df:=⟨2,Ae,{.ife (.cmp .Eq (.v 0) (.v 1)) {.rais 107 {.v 0}} .nil,.ret (.H {.B .Sub (.B .Mult (.x (.v 0) (.int 1)) (.x (.v 1) (.int 2))) (.B .Mult (.x (.v 0) (.int 2)) (.x (.v 1) (.int 1))),.B .Sub (.B .Mult (.x (.v 0) (.int 2)) (.x (.v 1) (.int 0))) (.B .Mult (.x (.v 0) (.int 0)) (.x (.v 1) (.int 2))),.B .Sub (.B .Mult (.x (.v 0) (.int 0)) (.x (.v 1) (.int 1))) (.B .Mult (.x (.v 0) (.int 1)) (.x (.v 1) (.int 0)))})}⟩
def VY(Z:Z2)(a b:R3)(ha:B3 a)(hb:B3 b)(ne:a≠b):Rs.run Z [Ai Aa a,Ai Aa b]=.ok (Ai Aa (Z8 a b)):=by
 obtain⟨x0,x1,x2⟩:=FQ Aa a;obtain⟨y0,y1,y2⟩:=FQ Aa b;have k:∀ {u v},Bd 300 u->Bd 300 v->E5 u v=Aa:=λhu hv=>GB hu hv (by decide) (by decide)
 have f:∀ r:R3,Y8 5 (Ai Aa r)=Aa:=λ_=>rfl
 have e:U4 (Ai Aa a) (Ai Aa b)=Ae:=by rw[Hn];exact Bw ne
 simp[Rs,Df.run,Bc,f,e,x0,x1,x2,y0,y1,y2,k ha.2.1 hb.2.2,k ha.2.2 hb.2.1,k ha.2.2 hb.1,k ha.1 hb.2.2,k ha.1 hb.2.1,k ha.2.1 hb.1];rfl
def Lq(I:Rho->Prop)(f:Ag->D)(g:Ag->As D):∀(L:Ac Ag),(∀ m∈L,∀ U,I U->(∃ d,g m=Ab d/\body (f m) U=.ret d Ae)\/(g m=Af/\∃ U',body (f m) U=.next U'/\I U'))->∀ U,I U->(∃ d,L.findSome? g=Ab d/\CD body (L.map f) U=.ret d Ae)\/(L.findSome? g=Af/\∃ U',CD body (L.map f) U=.next U'/\I U')
 |[],_,U,i=>.inr ⟨rfl,U,rfl,i⟩
 |m::L,h,U,i=>by
  rcases h m (Ax ..) U i with ⟨d,e1,e2⟩|⟨e1,U',e2,i'⟩
  .refine .inl ⟨d,by rw[Hs,e1],?_⟩
   show (body (f m) U).turn _=_;rw[e2];rfl
  .rcases Lq I f g L (λm' h'=>h m' (Av _ h')) U' i' with ⟨d,a,b⟩|⟨a,r,b,c⟩
   .refine .inl ⟨d,by rw[Hs,e1];exact a,?_⟩
    show (body (f m) U).turn _=_;rw[e2];exact b
   .refine .inr ⟨by rw[Hs,e1];exact a,r,?_,c⟩
    show (body (f m) U).turn _=_;rw[e2];exact b
noncomputable def Y9(pts:Ac R3)(i:Ag):R3:=pts.getD i (0,0,0)
def inZ(hg:∀ t∈pts,Z4 p t)(h:i<pts.length):Z4 p (Y9 pts i):=by
 have e:Y9 pts i=pts[i]:=by simp[Y9,h]
 rw[e];exact hg _ (CI h)
def bZ(hp:P4 p)(hg:∀ t∈pts,Z4 p t)(h:i<pts.length):B3 (Y9 pts i):=(Cc hp (inZ hg h)).b3 (by decide)
def gu(h:i<pts.length):Dl (pts.map (Ai Aa)) (i:Ad)=.ok (Ai Aa (Y9 pts i)):=by
 have h':i<(pts.map (Ai Aa)).length:=by simpa using h
 rw[vE _ i h'];simp[Y9,h]
def HE(h:i<pts.length):BR (Au pts) (.int (i:Ad))=.ok (Ai Aa (Y9 pts i)):=gu h
def K5(n:Ag):Prop:=n<20000
def ul(hn:K5 n)(hj:j<n):De ((j:Ad)+1) (n:Ad)=.ok ((AK (n-(j+1))).map λm=>D.int ((j+1+m:Ag):Ad)):=by
 have hn':n<20000:=hn;unfold De;rw[AC (by omega)]
 unfold Dx;have e:((n:Ad)-((j:Ad)+1)).toNat=n-(j+1):=by omega
 rw[e]
 congr 1
def Zr:∀(xs:Ac D)(s:Ag),E6 (s:Ad) xs=(AK xs.length).map λm=>D.H [.int ((s+m:Ag):Ad),xs.getD m .O]
 |[],s=>rfl
 |x::xs,s=>by
  have ih:=Zr xs (s+1);rw[E6,BS,Fi,BA,Do];have e:((s:Ad)+1)=((s+1:Ag):Ad):=by omega
  rw[e,ih]
  congr 1
  apply CM
  intro m _;show D.H [.int ((s+1+m:Ag):Ad),xs.getD m .O]=D.H [.int ((s+(m+1):Ag):Ad),(x::xs).getD (m+1) .O];have e2:s+1+m=s+(m+1):=by omega
  rw[e2];rfl
noncomputable def ς(p:Ad)(pts:Ac R3)(i j k:Ag):As D:=if Ak (Y9 pts i) (Y9 pts j) (Y9 pts k)%p=0 then Ab (.H [Ai Aa (Y9 pts i),Ai Aa (Y9 pts j),Ai Aa (Y9 pts k)]) else Af
noncomputable def π(p:Ad)(pts:Ac R3)(i j:Ag):As D:=(AK (pts.length-(j+1))).findSome? λm=>ς p pts i j (j+1+m)
noncomputable def ο(p:Ad)(pts:Ac R3)(i:Ag):As D:=(AK (pts.length-(i+1))).findSome? λm=>π p pts i (i+1+m)
noncomputable def ü(p:Ad)(pts:Ac R3):As D:=(AK pts.length).findSome? (ο p pts)
def NR(h:GF Z U it=.ok xs):Y4 Z U (.cons (.fors t it body) .nil)=CD (Bu Z t body) xs U:=by rw[Mm,zi,Sy,h,Th]
def O3{j a l:Ag}(hn:K5 pts.length)(hj:j<pts.length)(h1:FT U a=.ok (.int (j:Ad)))(h2:FT U l=.ok (Au pts)):GF Z U (.rng2 (.B .Add (.v a) (.int 1)) (.bi .len (.cons (.v l) .nil)))=.ok ((AK (pts.length-(j+1))).map λm=>D.int ((j+1+m:Ag):Ad)):=by
 have e1:evE Z U (.B .Add (.v a) (.int 1))=.ok (.int ((j:Ad)+1)):=by
  show ((FT U a).bind λx=>R.bind (.ok (.int 1)) λy=>DD .Add x y)=_
  rw[h1];rfl
 have e2:evE Z U (.bi .len (.cons (.v l) .nil))=.ok (.int (pts.length:Ad)):=by
  show (((FT U l).bind λx=>R.bind (.ok []) λxs=>.ok (x::xs)).bind λxs=>Tm .len xs)=_
  rw[h2];show R.ok (D.int (((pts.map (Ai Aa)).length:Ag):Ad))=_;rw[AG]
 have e3:∀ x y:E,(∀ r,top U x r=r)->(∀ r,top U y r=r)->∀ i j:Ad,evE Z U x=.ok (.int i)->evE Z U y=.ok (.int j)->GF Z U (.rng2 x y)=De i j:=λx y tx ty i j hx hy=>by
  rw[rG,vJ,tx,ty,hx,hy];simp only[R.bind_ok,RQ]
 rw[e3 _ _ (λ_=>rfl) (λ_=>rfl) _ _ e1 e2]
 exact ul hn hj
section
variable{pts:Ac R3}
def mV(h:GR Z)(hp:P4 p)(hg:∀ t∈pts,Z4 p t){k:Ag}(hi:i<pts.length)(hj:j<pts.length)(hk:k<pts.length)(U:Rho)(I:∃ s,U=[si p,sh (Au pts),si i,sh (Ai Aa (Y9 pts i)),si j,s]):(∃ d,ς p pts i j k=Ab d/\Bu Z 5 KJ (.int (k:Ad)) U=.ret d Ae)\/(ς p pts i j k=Af/\∃ U',Bu Z 5 KJ (.int (k:Ad)) U=.next U'/\∃ s,U'=[si p,sh (Au pts),si i,sh (Ai Aa (Y9 pts i)),si j,s]):=by
 obtain⟨s,rfl⟩:=I;have e:=h p Aa _ _ _ hp.pos (bZ hp hg hi) (bZ hp hg hj) (bZ hp hg hk);by_cases z:Ak (Y9 pts i) (Y9 pts j) (Y9 pts k)%p=0
 .rw[z]at e;exact .inl ⟨_,AC z,by simp[Bu,KJ,HE hj,HE hk,e,Dy]⟩
 .exact .inr ⟨AH z,[si p,sh (Au pts),si i,sh (Ai Aa (Y9 pts i)),si j,si k],by simp[Bu,KJ,HE hj,HE hk,e,z],_,rfl⟩
def mW(h:GR Z)(hp:P4 p)(hg:∀ t∈pts,Z4 p t)(hn:K5 pts.length)(hi:i<pts.length)(hj:j<pts.length)(U:Rho)(I:∃ s t,U=[si p,sh (Au pts),si i,sh (Ai Aa (Y9 pts i)),s,t]):(∃ d,π p pts i j=Ab d/\Bu Z 4 Ln (.int (j:Ad)) U=.ret d Ae)\/(π p pts i j=Af/\∃ U',Bu Z 4 Ln (.int (j:Ad)) U=.next U'/\∃ s t,U'=[si p,sh (Au pts),si i,sh (Ai Aa (Y9 pts i)),s,t]):=by
 obtain⟨s,t,rfl⟩:=I;have e:Bu Z 4 Ln (.int (j:Ad)) [si p,sh (Au pts),si i,sh (Ai Aa (Y9 pts i)),s,t]=CD (Bu Z 5 KJ) ((AK (pts.length-(j+1))).map λm=>D.int ((j+1+m:Ag):Ad)) [si p,sh (Au pts),si i,sh (Ai Aa (Y9 pts i)),si j,t]:=by
  exact NR (O3 hn hj rfl rfl)
 rw[e];rcases Lq (body:=Bu Z 5 KJ) (λU=>∃ s,U=[si p,sh (Au pts),si i,sh (Ai Aa (Y9 pts i)),si j,s]) (λm=>D.int ((j+1+m:Ag):Ad)) (λm=>ς p pts i j (j+1+m)) (AK (pts.length-(j+1))) (λm hm U I=>mV h hp hg hi hj (by have:=A9.mp hm;omega) U I) [si p,sh (Au pts),si i,sh (Ai Aa (Y9 pts i)),si j,t] ⟨t,rfl⟩ with ⟨d,a,b⟩|⟨a,r,b,u,c⟩
 .exact .inl ⟨d,a,b⟩
 .exact .inr ⟨a,r,b,_,u,c⟩
def mX(h:GR Z)(hp:P4 p)(hg:∀ t∈pts,Z4 p t)(hn:K5 pts.length)(hi:i<pts.length)(U:Rho)(I:∃ a b s t,U=[si p,sh (Au pts),a,b,s,t]):(∃ d,ο p pts i=Ab d/\EI Z [2,3] IM (.H [.int ((0+i:Ag):Ad),(pts.map (Ai Aa)).getD i .O]) U=.ret d Ae)\/(ο p pts i=Af/\∃ U',EI Z [2,3] IM (.H [.int ((0+i:Ag):Ad),(pts.map (Ai Aa)).getD i .O]) U=.next U'/\∃ a b s t,U'=[si p,sh (Au pts),a,b,s,t]):=by
 obtain⟨a,b,s,t,rfl⟩:=I;have e0:(pts.map (Ai Aa)).getD i .O=Ai Aa (Y9 pts i):=by simp[Y9,hi]
 have e:EI Z [2,3] IM (.H [.int ((0+i:Ag):Ad),(pts.map (Ai Aa)).getD i .O]) [si p,sh (Au pts),a,b,s,t]=CD (Bu Z 4 Ln) ((AK (pts.length-(i+1))).map λm=>D.int ((i+1+m:Ag):Ad)) [si p,sh (Au pts),si i,sh (Ai Aa (Y9 pts i)),s,t]:=by
  have e':∀(x y:D),EI Z [2,3] IM (.H [x,y]) [si p,sh (Au pts),a,b,s,t]=Y4 Z [si p,sh (Au pts),sh x,sh y,s,t] IM:=λ_ _=>rfl
  rw[e0,Fx,e'];unfold IM;rw[NR (O3 hn hi rfl rfl)]
 rw[e];rcases Lq (body:=Bu Z 4 Ln) (λU=>∃ s t,U=[si p,sh (Au pts),si i,sh (Ai Aa (Y9 pts i)),s,t]) (λm=>D.int ((i+1+m:Ag):Ad)) (λm=>π p pts i (i+1+m)) (AK (pts.length-(i+1))) (λm hm U I=>mW h hp hg hn hi (by have:=A9.mp hm;omega) U I) [si p,sh (Au pts),si i,sh (Ai Aa (Y9 pts i)),s,t] ⟨s,t,rfl⟩ with ⟨d,a,b⟩|⟨a,r,b,u,v,c⟩
 .exact .inl ⟨d,a,b⟩
 .exact .inr ⟨a,r,b,_,_,u,v,c⟩
def uK(h:GR Z)(hp:P4 p)(hg:∀ t∈pts,Z4 p t)(hn:K5 pts.length):Mf.run Z [.int p,Au pts]=.ok ((ü p pts).getD .O):=by
 have en:=Zr (pts.map (Ai Aa)) 0;rw[AG]at en;have en':E6 0 (pts.map (Ai Aa))=(AK pts.length).map λm=>D.H [.int ((0+m:Ag):Ad),(pts.map (Ai Aa)).getD m .O]:=en
 have hE:GF Z [si p,sh (Au pts),Af,Af,Af,Af] (.enm (.v 1))=.ok ((AK pts.length).map λm=>D.H [.int ((0+m:Ag):Ad),(pts.map (Ai Aa)).getD m .O]):=by
  show R.ok (E6 0 (pts.map (Ai Aa)))=_;rw[en']
 rcases Lq (body:=EI Z [2,3] IM) (λU=>∃ a b s t,U=[si p,sh (Au pts),a,b,s,t]) (λm=>D.H [.int ((0+m:Ag):Ad),(pts.map (Ai Aa)).getD m .O]) (ο p pts) (AK pts.length) (λm hm U I=>mX h hp hg hn (A9.mp hm) U I) [si p,sh (Au pts),Af,Af,Af,Af] ⟨_,_,_,_,rfl⟩ with ⟨d,a,b⟩|⟨a,r,b,u1,u2,u3,u4,c⟩
 .have e:ü p pts=Ab d:=a;show (Y4 Z [si p,sh (Au pts),Af,Af,Af,Af] (.cons (.forT [2,3] (.enm (.v 1)) IM) (.cons (.ret .O) .nil))).ans Ae=_;rw[Mm,WP,hE,WJ,b,e];rfl
 .have e:ü p pts=Af:=a;subst c;show (Y4 Z [si p,sh (Au pts),Af,Af,Af,Af] (.cons (.forT [2,3] (.enm (.v 1)) IM) (.cons (.ret .O) .nil))).ans Ae=_;rw[Mm,WP,hE,WJ,b,e];rfl
noncomputable def Lp:Ss:={.ife (.cmp .Eq (.call 233 {.v 0,.v 4,.x (.v 1) (.v 5)}) (.int 0)) {.ret (.H {.x (.v 1) (.v 2),.x (.v 1) (.v 3),.x (.v 1) (.v 5)})} .nil}
noncomputable def KI:Ss:=(.cons (.asg 4 Ae (.call 232 (.cons (.v 0) (.cons (.x (.v 1) (.v 2)) (.cons (.x (.v 1) (.v 3)) .nil))))) (.cons (.fors 5 (.rng2 (.B .Add (.v 3) (.int 1)) (.bi .len (.cons (.v 1) .nil))) Lp) .nil))
noncomputable def Lo:Ss:={.fors 3 (.rng2 (.B .Add (.v 2) (.int 1)) (.bi .len {.v 1})) KI}
noncomputable def Rb:Df:=⟨6,Ae,{.fors 2 (.rng (.bi .len {.v 1})) Lo,.ret .O}⟩
def ao(hc:Jk Z)(hs:IQ Z)(hp:P4 p)(hg:∀ t∈pts,Z4 p t){k:Ag}(hi:i<pts.length)(hj:j<pts.length)(hk:k<pts.length):Z.F 233 [.int p,Ai Aa (ö p (Z8 (Y9 pts i) (Y9 pts j))),Ai Aa (Y9 pts k)]=.ok (.int (Ak (Y9 pts i) (Y9 pts j) (Y9 pts k)%p)):=by
 have e:=hs p Aa Aa (ö p (Z8 (Y9 pts i) (Y9 pts j))) (Y9 pts k) hp.pos ((Cc hp (N2 hp.pos _)).b3 (by decide)) (bZ hp hg hk)
 have q:Ay (ö p (Z8 (Y9 pts i) (Y9 pts j))) (Y9 pts k)%p=Ak (Y9 pts i) (Y9 pts j) (Y9 pts k)%p:=by
  have c:=F5 (Z5.md (p:=p) (a:=ö p (Z8 (Y9 pts i) (Y9 pts j))) _root_.rfl) (Z5.rfl (a:=Y9 pts k));have d:Ay (Z8 (Y9 pts i) (Y9 pts j)) (Y9 pts k)=Ak (Y9 pts i) (Y9 pts j) (Y9 pts k):=by unfold Ay Z8 Ak U0;grind
  rwa [d]at c
 rwa [q]at e
def lV(hc:Jk Z)(hs:IQ Z)(hp:P4 p)(hg:∀ t∈pts,Z4 p t){k:Ag}(hi:i<pts.length)(hj:j<pts.length)(hk:k<pts.length)(U:Rho)(I:∃ s,U=[si p,sh (Au pts),si i,si j,sh (Ai Aa (ö p (Z8 (Y9 pts i) (Y9 pts j)))),s]):(∃ d,ς p pts i j k=Ab d/\Bu Z 5 Lp (.int (k:Ad)) U=.ret d Ae)\/(ς p pts i j k=Af/\∃ U',Bu Z 5 Lp (.int (k:Ad)) U=.next U'/\∃ s,U'=[si p,sh (Au pts),si i,si j,sh (Ai Aa (ö p (Z8 (Y9 pts i) (Y9 pts j)))),s]):=by
 obtain⟨s,rfl⟩:=I;have e:=ao hc hs hp hg hi hj hk;by_cases z:Ak (Y9 pts i) (Y9 pts j) (Y9 pts k)%p=0
 .rw[z]at e;exact .inl ⟨_,AC z,by
   generalize Ai Aa (ö p (Z8 (Y9 pts i) (Y9 pts j)))=LN at *;simp[Bu,Lp,HE hi,HE hj,HE hk,e,Dy]⟩
 .exact .inr ⟨AH z,[si p,sh (Au pts),si i,si j,sh (Ai Aa (ö p (Z8 (Y9 pts i) (Y9 pts j)))),si k],by
   generalize Ai Aa (ö p (Z8 (Y9 pts i) (Y9 pts j)))=LN at *;simp[Bu,Lp,HE hi,HE hj,HE hk,e,z],_,rfl⟩
def lW(hc:Jk Z)(hs:IQ Z)(hp:P4 p)(hg:∀ t∈pts,Z4 p t)(hn:K5 pts.length)(hi:i<pts.length)(hj:j<pts.length)(U:Rho)(I:∃ s t u,U=[si p,sh (Au pts),si i,s,t,u]):(∃ d,π p pts i j=Ab d/\Bu Z 3 KI (.int (j:Ad)) U=.ret d Ae)\/(π p pts i j=Af/\∃ U',Bu Z 3 KI (.int (j:Ad)) U=.next U'/\∃ s t u,U'=[si p,sh (Au pts),si i,s,t,u]):=by
 obtain⟨s,t,u,rfl⟩:=I;have e1:=hc p Aa Aa (Y9 pts i) (Y9 pts j) hp.pos (bZ hp hg hi) (bZ hp hg hj);have e:Bu Z 3 KI (.int (j:Ad)) [si p,sh (Au pts),si i,s,t,u]=CD (Bu Z 5 Lp) ((AK (pts.length-(j+1))).map λm=>D.int ((j+1+m:Ag):Ad)) [si p,sh (Au pts),si i,si j,sh (Ai Aa (ö p (Z8 (Y9 pts i) (Y9 pts j)))),u]:=by
  have a1:Ú Z [si p,sh (Au pts),si i,si j,t,u] (.asg 4 Ae (.call 232 (.cons (.v 0) (.cons (.x (.v 1) (.v 2)) (.cons (.x (.v 1) (.v 3)) .nil)))))=.next [si p,sh (Au pts),si i,si j,sh (Ai Aa (ö p (Z8 (Y9 pts i) (Y9 pts j)))),u]:=by
   generalize Ai Aa (ö p (Z8 (Y9 pts i) (Y9 pts j)))=LN at *;simp[HE hi,HE hj,e1]
  show Y4 Z [si p,sh (Au pts),si i,si j,t,u] KI=_;unfold KI;rw[Mm,a1,zT];generalize Ai Aa (ö p (Z8 (Y9 pts i) (Y9 pts j)))=LN;exact NR (O3 hn hj rfl rfl)
 rw[e];rcases Lq (body:=Bu Z 5 Lp) (λU=>∃ s,U=[si p,sh (Au pts),si i,si j,sh (Ai Aa (ö p (Z8 (Y9 pts i) (Y9 pts j)))),s]) (λm=>D.int ((j+1+m:Ag):Ad)) (λm=>ς p pts i j (j+1+m)) (AK (pts.length-(j+1))) (λm hm U I=>lV hc hs hp hg hi hj (by have:=A9.mp hm;omega) U I) [si p,sh (Au pts),si i,si j,sh (Ai Aa (ö p (Z8 (Y9 pts i) (Y9 pts j)))),u] ⟨_,rfl⟩ with ⟨d,a,b⟩|⟨a,r,b,w,c⟩
 .exact .inl ⟨d,a,b⟩
 .exact .inr ⟨a,r,b,_,_,w,c⟩
def lX(hc:Jk Z)(hs:IQ Z)(hp:P4 p)(hg:∀ t∈pts,Z4 p t)(hn:K5 pts.length)(hi:i<pts.length)(U:Rho)(I:∃ r s t u,U=[si p,sh (Au pts),r,s,t,u]):(∃ d,ο p pts i=Ab d/\Bu Z 2 Lo (.int (0+(i:Ad))) U=.ret d Ae)\/(ο p pts i=Af/\∃ U',Bu Z 2 Lo (.int (0+(i:Ad))) U=.next U'/\∃ r s t u,U'=[si p,sh (Au pts),r,s,t,u]):=by
 obtain⟨r,s,t,u,rfl⟩:=I;rw[Dm];have e:Bu Z 2 Lo (.int (i:Ad)) [si p,sh (Au pts),r,s,t,u]=CD (Bu Z 3 KI) ((AK (pts.length-(i+1))).map λm=>D.int ((i+1+m:Ag):Ad)) [si p,sh (Au pts),si i,s,t,u]:=by
  exact NR (O3 hn hi rfl rfl)
 rw[e];rcases Lq (body:=Bu Z 3 KI) (λU=>∃ s t u,U=[si p,sh (Au pts),si i,s,t,u]) (λm=>D.int ((i+1+m:Ag):Ad)) (λm=>π p pts i (i+1+m)) (AK (pts.length-(i+1))) (λm hm U I=>lW hc hs hp hg hn hi (by have:=A9.mp hm;omega) U I) [si p,sh (Au pts),si i,s,t,u] ⟨_,_,_,rfl⟩ with ⟨d,a,b⟩|⟨a,r,b,w,x,y,c⟩
 .exact .inl ⟨d,a,b⟩
 .exact .inr ⟨a,r,b,_,w,x,y,c⟩
def gS{n:Ag}(hN:N=n)(l:Tm .len [T]=.ok (.int N))(h:N<=1000)(h0:0<=N):GF Z [si p,sh T,Af,Af,Af,Af] (.rng (.bi .len (.cons (.v 1) .nil)))=.ok (Dx 0 n):=by
 have rg:De 0 N=.ok (Dx 0 (N-0).toNat):=NC (by decide) (by decide) (by omega) (by omega)
 have q:(N-0).toNat=n:=by omega
 rw[q]at rg;generalize Dx 0 n=RR at *;have e:evE Z [si p,sh T,Af,Af,Af,Af] (.bi .len (.cons (.v 1) .nil))=.ok (.int N):=by simp[l]
 rw[vH,i9];simp only[pk,e,R.bind_ok,RQ];exact rg
def Hz(pts:Ac R3):Tm .len [Au pts]=.ok (.int pts.length):=by unfold Au;simp
def xL(hz:pts.length<=1000):GF Z [si p,sh (Au pts),Af,Af,Af,Af] (.rng (.bi .len (.cons (.v 1) .nil)))=.ok (Dx 0 pts.length):=gS rfl (Hz pts) (by omega) (by omega)
def sG(hc:Jk Z)(hs:IQ Z)(hp:P4 p)(hg:∀ t∈pts,Z4 p t)(hz:pts.length<=1000):Rb.run Z [.int p,Au pts]=.ok ((ü p pts).getD .O):=by
 have hn:K5 pts.length:=by show pts.length<20000;omega
 have r6:=xL (Z:=Z) (p:=p) hz;rw[show Dx 0 pts.length=(AK pts.length).map fun(i:Ag)=>D.int (0+(i:Ad)) by unfold Dx;rfl]at r6
 rcases Lq (body:=Bu Z 2 Lo) (λU=>∃ r s t u,U=[si p,sh (Au pts),r,s,t,u]) (fun(m:Ag)=>D.int (0+(m:Ad))) (ο p pts) (AK pts.length) (λm hm U I=>lX hc hs hp hg hn (A9.mp hm) U I) [si p,sh (Au pts),Af,Af,Af,Af] ⟨_,_,_,_,rfl⟩ with ⟨d,a,b⟩|⟨a,r,b,r1,r2,r3,r4,c⟩
 .have e:ü p pts=Ab d:=a;show (Y4 Z [si p,sh (Au pts),Af,Af,Af,Af] (.cons (.fors 2 (.rng (.bi .len (.cons (.v 1) .nil))) Lo) (.cons (.ret .O) .nil))).ans Ae=_;rw[Mm,Sy,r6,Th,b,e];rfl
 .have e:ü p pts=Af:=a;subst c;show (Y4 Z [si p,sh (Au pts),Af,Af,Af,Af] (.cons (.fors 2 (.rng (.bi .len (.cons (.v 1) .nil))) Lo) (.cons (.ret .O) .nil))).ans Ae=_;rw[Mm,Sy,r6,Th,b,e];rfl
end
noncomputable def Mj:Ss:={.ife (.cmp .In (.v 2) (.sl (.v 0) .O (.v 1))) {.rais 107 {.v 2}} .nil}
noncomputable def RP:Df:=⟨3,Ae,{.forT [1,2] (.enm (.v 0)) Mj}⟩
def yT(PT seen rest:Ac R3)(e:PT=seen++rest):Ý (Au PT) Af (Ab (seen.length:Ad))=.ok (Au seen):=by
 rw[PU PT (by omega),Fq,e,aJ]
 rfl
def qR(a:Ad)(n:Ag):Dx a (n+1)=.int a::Dx (a+1) n:=by
 unfold Dx;rw[Fi,BA,Do]
 congr 1
 .simp
 .refine CM λk _=>?_
  simp only[Function.comp]
  congr 1
  omega
noncomputable abbrev ow(l:Ac R3):Sl:=Ab (.L (l.map (Ai Aa)),Aa)
def WM{x:R3}:∀{rest seen left:Ac R3},x∈JA p seen rest left->f∈rest->x≠f
 |g::rest,seen,left,h,hf=>by
  rcases Aw.mp hf with rfl|hf
  .have k:=(BJ.mp (Sw (rest:=rest) h)).2;intro z;subst z;unfold Å at k;simp at k
  .exact WM (rest:=rest) h hf
noncomputable def oR:Df:=⟨2,Ae,{.asg 1 Ae (.B .Mod (.v 1) (.B .Add (.B .Add (.B .Mult (.v 0) (.v 0)) (.v 0)) (.int 1))),.ife (.cmp .Eq (.v 1) (.int 0)) {.ret (.H {.int 0,.int 0,.int 1})} .nil,.ife (.cmp .LtE (.v 1) (.v 0)) {.ret (.H {.int 0,.int 1,.B .Sub (.v 1) (.int 1)})} .nil,.ret (.H {.int 1,.B .FloorDiv (.B .Sub (.B .Sub (.v 1) (.v 0)) (.int 1)) (.v 0),.B .Mod (.B .Sub (.B .Sub (.v 1) (.v 0)) (.int 1)) (.v 0)})}⟩
def ND(x:R3)(l:Ac R3):Ci .NotIn (Ai Aa x) (Au l)=.ok (.bl (!decide (x∈l))):=by
 have h:=Lw x l;have h:(if (Y8 5 (Ai Aa x)&&(l.map (Ai Aa)).all (Y8 5))=Aa then R.ok (D.bl ((l.map (Ai Aa)).any λy=>U4 y (Ai Aa x))) else .bad)=_:=h
 show (if (Y8 5 (Ai Aa x)&&(l.map (Ai Aa)).all (Y8 5))=Aa then R.ok (D.bl (!(l.map (Ai Aa)).any λy=>U4 y (Ai Aa x))) else .bad)=_
 split at h
 .rename_i hc;rw[AC hc]
  injection h with h
  injection h with h
  rw[h]
 .cases h
def N3s(p:Ad)(L:Ac R3):Prop:=∀ x∈L,∀ y∈L,∀ z∈L,x≠y->x≠z->y≠z->Ak x y z%p≠0
def Zzk(h:ü p pts=Af){k:Ag}(h1:i<j)(h2:j<k)(h3:k<pts.length):Ak (Y9 pts i) (Y9 pts j) (Y9 pts k)%p≠0:=by
 unfold ü at h;rw[C7]at h;have a:=h i (A9.mpr (by omega))
 unfold ο at a;rw[C7]at a;have b:=a (j-(i+1)) (A9.mpr (by omega))
 rw[show i+1+(j-(i+1))=j by omega]at b
 unfold π at b;rw[C7]at b;have c:=b (k-(j+1)) (A9.mpr (by omega))
 rw[show j+1+(k-(j+1))=k by omega]at c
 unfold ς at c;split at c
 .cases c
 .assumption
def Zzl(h:∀ i j k,i<j->j<k->k<pts.length->Ak (Y9 pts i) (Y9 pts j) (Y9 pts k)%p≠0):ü p pts=Af:=by
 unfold ü;rw[C7];intro i hi;unfold ο;rw[C7];intro m hm;unfold π;rw[C7];intro n hn;have a:=A9.mp hi;have b:=A9.mp hm;have c:=A9.mp hn;unfold ς;rw[AH (h i (i+1+m) (i+1+m+1+n) (by omega) (by omega) (by omega))]
def Zzn(h:ü p pts=Ab d):∃ x∈pts,∃ y∈pts,∃ z∈pts,d=.H [Ai Aa x,Ai Aa y,Ai Aa z]:=by
 unfold ü at h;obtain⟨i,hi,h⟩:=CH h;unfold ο at h;obtain⟨m,hm,h⟩:=CH h;unfold π at h;obtain⟨n,hn,h⟩:=CH h;have a:=A9.mp hi;have b:=A9.mp hm;have c:=A9.mp hn;have mem:∀{k:Ag},k<pts.length->Y9 pts k∈pts:=λ{k} hk=>by
  have e:Y9 pts k=pts[k]:=by simp[Y9,hk]
  rw[e];exact CI hk
 unfold ς at h;split at h
 .cases h;exact⟨_,mem (by omega),_,mem (by omega),_,mem (by omega),rfl⟩
 .cases h
def J6{k:Ag}(hk:k<pts.length):Y9 pts k=pts[k]:=by simp[Y9,hk]
def Zzm(nd:pts.Nodup)(h:N3s p pts):ü p pts=Af:=Zzl λi j k h1 h2 h3=>by
 have ne:∀{a b:Ag}(ha:a<pts.length)(hb:b<pts.length),a<b->pts[a]≠pts[b]:=λ{a b} ha hb hab z=>by
  have:=(IB nd).mp z;omega
 rw[J6 (by omega),J6 (by omega),J6 h3]
 exact h _ (CI _) _ (CI _) _ (CI _) (ne _ _ h1) (ne _ _ (by omega)) (ne _ _ h2)
def ja{x:R3}(hx:x∈pts)(hy:y∈pts)(hz:z∈pts)(n1:x≠y)(n2:x≠z)(n3:y≠z)(h:Ak x y z%p=0):∃ d,ü p pts=Ab d:=by
 cases e:ü p pts with
 |some d=>exact⟨d,rfl⟩
 |none=>
  exfalso
  obtain⟨i,hi,rfl⟩:=Ed hx;obtain⟨j,hj,rfl⟩:=Ed hy;obtain⟨k,hk,rfl⟩:=Ed hz;have m1:i≠j:=λz=>n1 (by subst z;rfl)
  have m2:i≠k:=λz=>n2 (by subst z;rfl)
  have m3:j≠k:=λz=>n3 (by subst z;rfl)
  have nz:∀{a b c:Ag}(ha:a<pts.length)(hb:b<pts.length)(hc:c<pts.length),a<b->b<c->Ak pts[a] pts[b] pts[c]%p≠0:=λ{a b c} ha hb hc h1 h2=>by
   have q:=Zzk e h1 h2 hc
   rwa [J6 ha,J6 hb,J6 hc]at q
  have s1:∀ x y z:R3,Ak x y z=- Ak y x z:=λx y z=>by unfold Ak U0;grind
  have s2:∀ x y z:R3,Ak x y z=- Ak x z y:=λx y z=>by unfold Ak U0;grind
  have ng:∀{u:Ad},u%p=0->(-u)%p=0:=λ{u} hu=>by
   have:=ZL hu;exact ZM (ZK.mpr this)
  have o1:∀{x y z:R3},Ak x y z%p=0->Ak y x z%p=0:=λ{x y z} h=>by rw[s1];exact ng h
  have o2:∀{x y z:R3},Ak x y z%p=0->Ak x z y%p=0:=λ{x y z} h=>by rw[s2];exact ng h
  rcases Ge m1 with a|a<;>rcases Ge m2 with b|b<;>rcases Ge m3 with c|c
  .exact nz hi hj hk a c h
  .exact nz hi hk hj b c (o2 h)
  .omega
  .exact nz hk hi hj b a (o1 (o2 h))
  .exact nz hj hi hk a b (o1 h)
  .omega
  .exact nz hj hk hi c b (o2 (o1 h))
  .exact nz hk hj hi c a (o1 (o2 (o1 h)))
def kI(n:NF p r)(h:r.1%p=0/\r.2.1%p=0/\r.2.2%p=0):BV:=by
 have e:=n.2;simp[A4,Fr,h.1,h.2.1,h.2.2]at e
def N9(Z:Z2):Prop:=∀(p n:Ad),P4 p->Z.F 231 [.int p,.int n]=.ok (Ai Aa (ϥ p (n%(p*p+p+1))))
noncomputable def KG:Ss:={.ife (.cmp .Eq (.call 61 {.v 0,.v 4,.v 5,.v 2}) (.int 0)) {.ret (.H {.v 4,.v 5})} .nil}
noncomputable def J2:Ss:={.fors 5 (.e (.sl (.v 1) (.B .Add (.v 3) (.int 1)) .O)) KG}
noncomputable def OW:Df:=⟨6,Ae,{.forT [3,4] (.enm (.v 1)) J2,.ret .O}⟩
noncomputable def ϴ:Ac R3->Ac (R3×R3)
 |[]=>[]
 |a::r=>r.map (λb=>(a,b))++ϴ r
noncomputable def Jy(p:Ad)(x:R3)(q:R3×R3):Al:=decide (Ak q.1 q.2 x%p=0)
noncomputable def twD(q:R3×R3):D:=.H [Ai Aa q.1,Ai Aa q.2]
noncomputable def Ϝ(p:Ad)(pts:Ac R3)(x:R3):As (R3×R3):=(ϴ pts).find? (Jy p x)
def SV{a:R3}:∀{l:Ac R3},(a,b)∈ϴ l->a∈l/\b∈l
 |[],h=>by cases h
 |c::r,h=>by
  rcases C5.mp h with h|h
  .obtain⟨d,hd,e⟩:=A7.mp h;cases e;exact⟨Ax,Av _ hd⟩
  .exact⟨Av _ (SV h).1,Av _ (SV h).2⟩
noncomputable def Į(p:Ad):Ac R3->Ac R3->R3->Al
 |_,[],_=>Aa
 |seen,f::rest,x=>Å p seen f x&&Į p (seen++[f]) rest x
def WN(p:Ad):∀(rest seen left:Ac R3),JA p seen rest left=left.filter (Į p seen rest)
 |[],seen,left=>by
  show left=_;exact(Z_0.mpr λ_ _=>rfl).symm
 |f::rest,seen,left=>by
  show JA p (seen++[f]) rest (left.filter (Å p seen f))=_;rw[WN p rest,Z_1]
  congr 1
  funext x
  show _=(Å p seen f x&&Į p (seen++[f]) rest x);rw[Bool.and_comm]
def XM(p:Ad)(x:R3):∀(rest seen:Ac R3),Į p seen rest x=Aa↔x∉rest/\(∀ a∈seen,∀ f∈rest,Ak a f x%p≠0)/\∀ q∈ϴ rest,Jy p x q=Ae
 |[],seen=>by simp[Į,ϴ]
 |f::rest,seen=>by
  show (Å p seen f x&&Į p (seen++[f]) rest x)=Aa↔_;rw[Ap,XM p x rest (seen++[f])];unfold Å;simp only[Ap,Cz,E8,ZT,AW,List.mem_append,AQ,Aw,ϴ,A7,Jy,DR];constructor
  .rintro⟨⟨h1,h2⟩,h3,h4,h5⟩;refine⟨⟨h1,h3⟩,λa ha g hg=>?_,λq hq=>?_⟩
   .rcases hg with rfl|hg
    .exact h2 a ha
    .exact h4 a (.inl ha) g hg
   .rcases hq with ⟨b,hb,rfl⟩|hq
    .exact h4 f (.inr (.inl rfl)) b hb
    .exact h5 q hq
  .rintro⟨⟨h1,h3⟩,h4,h5⟩;refine⟨⟨h1,λa ha=>h4 a ha f (.inl rfl)⟩,h3,λa ha g hg=>?_,λq hq=>h5 q (.inr hq)⟩
   rcases ha with ha|rfl|ha
   .exact h4 a ha g (.inr hg)
   .exact h5 (a,g) (.inl ⟨g,hg,rfl⟩)
   .cases ha
noncomputable def Qu(p:Ad)(pts:Ac R3)(x:R3):Al:=!decide (x∈pts)&&(Ϝ p pts x).isNone
def Xs(p:Ad)(pts:Ac R3):Ja p pts=(Cr p).filter (Qu p pts):=by
 unfold Ja;rw[WN]
 congr 1
 funext x
 rw[Dj,XM];unfold Qu Ϝ;simp
section
variable{Z:Z2}{p:Ad}
def YZ(hc:Jk Z)(hs:IQ Z)(hp:P4 p){a x:R3}(ia:Z4 p a)(ib:Z4 p b)(ix:Z4 p x):Z.F 233 [.int p,Ai Aa (ö p (Z8 a b)),Ai Aa x]=.ok (.int (Ak a b x%p)):=by
 have e:=hs p Aa Aa (ö p (Z8 a b)) x hp.pos ((Cc hp (N2 hp.pos _)).b3 (by decide)) ((Cc hp ix).b3 (by decide))
 have q:Ay (ö p (Z8 a b)) x%p=Ak a b x%p:=by
  have c:=F5 (Z5.md (p:=p) (a:=ö p (Z8 a b)) _root_.rfl) (Z5.rfl (a:=x));have d:Ay (Z8 a b) x=Ak a b x:=by unfold Ay Z8 Ak U0;grind
  rwa [d]at c
 rwa [q]at e
def yq(h:N9 Z)(hp:P4 p){k:Ag}(hg:∀ n:Ag,(n:Ad)<p*p+p+1->cG Z U k q (.int (n:Ad))=.ok Aa/\cF Z U k e (.int (n:Ad))=Z.F 231 [.int p,.int (n:Ad)]):Bz (cG Z U k q) (cF Z U k e) (Dx 0 (p*p+p+1).toNat)=.ok ((Cr p).map (Ai Aa)):=by
 have N1:0<=p*p+p+1/\p*p+p+1<=1000:=by rcases hp with rfl|rfl|rfl|rfl<;>decide
 have key:∀ L:Ac Ag,(∀ k∈L,(k:Ad)<p*p+p+1)->Bz (cG Z U k q) (cF Z U k e) (L.map fun(k:Ag)=>D.int (0+(k:Ad)))=.ok ((L.map fun(n:Ag)=>ϥ p n).map (Ai Aa)):=by
  intro L
  induction L with
  |nil=>intro _;rfl
  |cons n L ih=>
   intro hL;have e1:=h p n hp;have hn:=hL n Ax;rw[AI (by omega) hn]at e1
   obtain⟨g1,g2⟩:=hg n hn;rw[e1]at g2;have ih':=ih λm hm=>hL m (Av _ hm)
   rw[BA,Dm];show (cG Z U k q (.int (n:Ad))).bind _=_;rw[g1,R.bind_ok,AC rfl,g2,R.bind_ok,show Bz _ _ (ID _ L)=_ from ih']
   rfl
 unfold Cr Dx;exact key _ λk hk=>by have:=A9.mp hk;omega
def mn{i:Ad}(e:Z.F 61 [.int p,A,Y_,X]=.ok (.int v)):Bu Z 5 KG Y_ [si p,sh T,sh X,si i,sh A,s5]=if v=0 then .ret (.H [A,Y_]) Ae else .next [si p,sh T,sh X,si i,sh A,sh Y_]:=by
 by_cases z:v=0
 .subst z;simp[Bu,KG,e,Dy]
 .simp[Bu,KG,e,z]
def X8(h:GR Z)(hp:P4 p){x a:R3}(ix:Z4 p x)(ia:Z4 p a){T:D}{i:Ad}:∀(rest:Ac R3)(s5:Sl),(∀ y∈rest,Z4 p y)->∃ Ϸ,CD (Bu Z 5 KG) (rest.map (Ai Aa)) [si p,sh T,sh (Ai Aa x),si i,sh (Ai Aa a),s5]=match (rest.map λb=>(a,b)).find? (Jy p x) with
  |some q=>.ret (twD q) Ae
  |none=>.next [si p,sh T,sh (Ai Aa x),si i,sh (Ai Aa a),Ϸ]
 |[],s5,_=>⟨s5,rfl⟩
 |y::rest,s5,hy=>by
  have b:∀ {r},Z4 p r->B3 r:=λhr=>(Cc hp hr).b3 (by decide)
  have st:=mn (T:=T) (i:=i) (s5:=s5) (h p Aa a y x hp.pos (b ia) (b (hy y Ax)) (b ix));rw[BA,BA,List.find?_cons];by_cases z:Ak a y x%p=0
  .have hh:Jy p x (a,y)=Aa:=Bo z;rw[hh];refine⟨s5,?_⟩;show (Bu Z 5 KG (Ai Aa y) _).turn _=_;rw[st,AC z];rfl
  .have hh:Jy p x (a,y)=Ae:=Bw z;rw[hh];obtain⟨Ϸ,ih⟩:=X8 h hp ix ia (T:=T) (i:=i) rest (sh (Ai Aa y)) λw hw=>hy w (Av _ hw)
   refine⟨Ϸ,?_⟩;show (Bu Z 5 KG (Ai Aa y) _).turn _=_;rw[st,AH z];exact ih
def ml{i:Ad}(sl:Ý T (Ab (i+1)) Af=.ok T')(sq:Ct T'=.ok L):EI Z [3,4] J2 (.H [.int i,A]) [si p,sh T,sh X,s3,s4,s5]=CD (Bu Z 5 KG) L [si p,sh T,sh X,si i,sh A,s5]:=by
 have e':EI Z [3,4] J2 (.H [.int i,A]) [si p,sh T,sh X,s3,s4,s5]=Y4 Z [si p,sh T,sh X,si i,sh A,s5] J2:=rfl;rw[e'];unfold J2;refine NR ?_;simp[sl,slE,sq]
def X7(h:GR Z)(hp:P4 p){PT:Ac R3}(np:∀ y∈PT,Z4 p y){x:R3}(ix:Z4 p x):∀(rest seen:Ac R3)(s3 s4 s5:Sl),PT=seen++rest->∃ ϕ ϵ Ϸ,CD (EI Z [3,4] J2) (E6 seen.length (rest.map (Ai Aa))) [si p,sh (Au PT),sh (Ai Aa x),s3,s4,s5]=match (ϴ rest).find? (Jy p x) with
  |some q=>.ret (twD q) Ae
  |none=>.next [si p,sh (Au PT),sh (Ai Aa x),ϕ,ϵ,Ϸ]
 |[],seen,s3,s4,s5,_=>⟨s3,s4,s5,rfl⟩
 |a::rest,seen,s3,s4,s5,e=>by
  have ia:Z4 p a:=np a (by rw[e];simp)
  have sl:Ý (Au PT) (Ab ((seen.length:Ad)+1)) Af=.ok (Au rest):=by
   have:=Xa PT (i:=(seen.length:Ad)+1) (by omega) (by rw[e];simp<;>omega)
   rw[this,show ((seen.length:Ad)+1).toNat=seen.length+1 by omega,e]
   congr 2
   rw[show seen++a::rest=(seen++[a])++rest by simp]
   exact List.drop_left' (by simp)
  obtain⟨t5,l0⟩:=X8 h hp ix ia (T:=Au PT) (i:=(seen.length:Ad)) rest s5 λy hy=>np y (by rw[e];simp[hy])
  have st:=ml (Z:=Z) (p:=p) (X:=Ai Aa x) (A:=Ai Aa a) (s3:=s3) (s4:=s4) (s5:=s5) (L:=rest.map (Ai Aa)) sl rfl;rw[show ϴ (a::rest)=rest.map (λb=>(a,b))++ϴ rest from rfl,List.find?_append]
  cases hf:(rest.map λb=>(a,b)).find? (Jy p x) with
  |some q=>
   rw[hf]at l0;refine⟨s3,s4,s5,?_⟩;show (EI Z [3,4] J2 (.H [.int seen.length,Ai Aa a]) _).turn _=_;rw[st,l0];rfl
  |none=>
   rw[hf]at l0;obtain⟨ϕ,ϵ,Ϸ,ih⟩:=X7 h hp np ix rest (seen++[a]) (si seen.length) (sh (Ai Aa a)) t5 (by rw[e];simp)
   refine⟨ϕ,ϵ,Ϸ,?_⟩;rw[BE,Er]at ih;show (EI Z [3,4] J2 (.H [.int seen.length,Ai Aa a]) _).turn _=_;rw[st,l0];exact ih
def T8(Z:Z2):Prop:=∀(p:Ad)(pts:Ac R3)(x:R3),P4 p->(∀ y∈pts,Z4 p y)->Z4 p x->Z.F 225 [.int p,Au pts,Ai Aa x]=.ok (((Ϝ p pts x).map twD).getD .O)
def uu(h:GR Z)(hp:P4 p)(np:∀ y∈pts,Z4 p y)(ix:Z4 p x):OW.run Z [.int p,Au pts,Ai Aa x]=.ok (((Ϝ p pts x).map twD).getD .O):=by
 obtain⟨s3,s4,s5,lp⟩:=X7 h hp np ix pts [] Af Af Af rfl;have sq:Ct (Au pts)=.ok (pts.map (Ai Aa)):=rfl;unfold Ϝ;have lp':CD (EI Z [3,4] J2) (E6 0 (pts.map (Ai Aa))) [si p,sh (Au pts),sh (Ai Aa x),Af,Af,Af]=_:=lp;generalize pts.map (Ai Aa)=M,Au pts=T,Ai Aa x=X at *;cases hf:(ϴ pts).find? (Jy p x) with
 |some q=>rw[hf]at lp';simp[OW,Df.run,Bc,sq,lp']
 |none=>rw[hf]at lp';simp[OW,Df.run,Bc,sq,lp']
end
noncomputable def OK:E:=(.cmp .NotIn (.v 2) (.v 1))
noncomputable def OM:E:=(.B .Add (.H {.v 2}) (.call 225 {.v 0,.v 1,.v 2}))
noncomputable def Tp:Df:=⟨3,Aa,{.ret (.comp OM 2 (.e (.call 69 {.v 0})) OK)}⟩
def KO{α:Type}(φ:α->D)(c:α->Al)(ψ:α->D):∀ L:Ac α,(∀ x∈L,g (φ x)=.ok (c x)/\(c x=Aa->f (φ x)=.ok (ψ x)))->Bz g f (L.map φ)=.ok ((L.filter c).map ψ)
 |[],_=>rfl
 |x::L,h=>by
  obtain⟨h1,h2⟩:=h x Ax;have ih:=KO φ c ψ L λy hy=>h y (Av _ hy)
  show (g (φ x)).bind _=_;rw[h1,R.bind_ok,EQ];cases e:c x with
  |true=>
   rw[AC rfl,h2 e,R.bind_ok,show Bz _ _ (ID _ L)=_ from ih]
   rfl
  |false=>exact ih
noncomputable def Ĵ(p:Ad)(pts:Ac R3)(x:R3):D:=match Ϝ p pts x with
  |some q=>.H [Ai Aa x,Ai Aa q.1,Ai Aa q.2]
  |none=>.O
noncomputable def Cj(p:Ad)(pts:Ac R3):Ac R3:=(Cr p).filter λx=>!decide (x∈pts)
noncomputable def LP(p:Ad)(pts:Ac R3):D:=.L ((Cj p pts).map (Ĵ p pts))
def zE{L R:Ac D}(ht:Z.F 69 [.int p]=.ok AL)(sq:Ct AL=.ok L)(cp:Bz (cG Z [si p,sh T,Af] 2 OK) (cF Z [si p,sh T,Af] 2 OM) L=.ok R):Tp.run Z [.int p,T]=.ok (.L R):=by
 simp[Tp,Df.run,Bc,ht,sq,cp,Dy]
def iB(ht:∀ p,P4 p->Z.F 69 [.int p]=.ok (Au (Cr p)))(h2:T8 Z)(hp:P4 p)(np:∀ x∈pts,NF p x)(ha:∀ x∈Cr p,x∉pts->∃ q,Ϝ p pts x=Ab q):Tp.run Z [.int p,Au pts]=.ok (LP p pts):=by
 refine zE (ht p hp) rfl (KO (Ai Aa) (λx=>!decide (x∈pts)) (Ĵ p pts) (Cr p) λx hx=>⟨?_,λhn=>?_⟩)
 .have n:=ND x pts;generalize Au pts=T,Ai Aa x=X at *;simp[cG,OK,n]
 .have hn:x∉pts:=by simpa using hn
  obtain⟨q,hq⟩:=ha x hx hn;have e:=h2 p pts x hp (λy hy=>(np y hy).1) ((FG hp).mp hx).1
  rw[hq]at e;have e:Z.F 225 [.int p,Au pts,Ai Aa x]=.ok (.H [Ai Aa q.1,Ai Aa q.2]):=e;have e3:Ĵ p pts x=.H [Ai Aa x,Ai Aa q.1,Ai Aa q.2]:=by unfold Ĵ;rw[hq]
  rw[e3];have sz:Dv 3=Aa:=rfl;generalize Au pts=T,Ai Aa x=X,Ai Aa q.1=A,Ai Aa q.2=B at *;simp[cF,OM,e,sz]
def Xk(nd:PT.Nodup):∀(rest seen:Ac R3)(s1 s2:Sl),PT=seen++rest->∃ U':Rho,CD (EI Z [1,2] Mj) (E6 seen.length (rest.map (Ai Aa))) [sh (Au PT),s1,s2]=.next U'
 |[],seen,s1,s2,_=>⟨_,rfl⟩
 |x::rest,seen,s1,s2,e=>by
  have s:=yT PT seen (x::rest) e;have c:=Lw x seen;have hm:x∉seen:=λz=>by
   rw[e]at nd;exact(Ft.mp nd).2.2 x z x (Ax ..) rfl
  rw[Bw hm]at c;obtain⟨U',ih⟩:=Xk nd rest (seen++[x]) (si seen.length) (sh (Ai Aa x)) (by rw[e];simp)
  refine⟨U',?_⟩;rw[BE,Er]at ih;rw[<-ih];show (EI Z [1,2] Mj (.H [.int seen.length,Ai Aa x]) _).turn _=_;have t:EI Z [1,2] Mj (.H [.int seen.length,Ai Aa x]) [sh (Au PT),s1,s2]=.next [sh (Au PT),si seen.length,sh (Ai Aa x)]:=by
   generalize Au PT=T,Au seen=T0,Ai Aa x=X at *;simp[EI,Mj,FH,F4,s,c,slE]
  rw[t];rfl
def Zb(pts:Ac R3)(nd:pts.Nodup):RP.run Z [Au pts]=.ok .O:=by
 obtain⟨U',e⟩:=Xk (Z:=Z) nd pts [] Af Af rfl;have sq:Ct (Au pts)=.ok (pts.map (Ai Aa)):=rfl;have e':CD (EI Z [1,2] Mj) (E6 0 (pts.map (Ai Aa))) [sh (Au pts),Af,Af]=_:=e;generalize pts.map (Ai Aa)=M,Au pts=T at *;simp[RP,Df.run,Bc,sq,e']
structure Fre (p:Ad) (l:Ac R3):Prop where
 nf:∀ x∈l,NF p x
 nd:l.Nodup
 z0:ü p l=Af
 ln:(l.length:Ad)<=p+1
def Xr(h:Ja p pts=[]):∀ x∈Cr p,x∉pts->∃ q,Ϝ p pts x=Ab q:=λx hx hn=>by
 rw[Xs]at h;have:=List.filter_eq_nil_iff.mp h x hx;unfold Qu at this;cases e:Ϝ p pts x with
 |some q=>exact⟨q,rfl⟩
 |none=>
  rw[e]at this;simp[hn]at this
def qp(hp:P4 p)(n:Ad):NF p (ϥ p (n%(p*p+p+1))):=by
 have N1:0<p*p+p+1:=by rcases hp with rfl|rfl|rfl|rfl<;>decide
 have b0:=A3 n (ZO N1);have b1:=AV n N1;refine(FG hp).mp (A7.mpr ⟨(n%(p*p+p+1)).toNat,A9.mpr (by omega),?_⟩)
 show ϥ p ((n%(p*p+p+1)).toNat:Ad)=_;rw[ZQ b0]
noncomputable def r11(y:Ag):Ac R3:=(AK 11).map fun(z:Ag)=>((1,(y:Ad),(z:Ad)):R3)
noncomputable def pl(p:Ad):C6:=⟨0,1,0,0,p-1,0⟩
def uH(h:PK Z)(p:Ad)(hp:P4 p):Q3.run Z [.int p]=.ok (BY (pl p)):=by
 have l1:A4 p [0,1,0,0,-1,0]=Ab 1:=by rcases hp with rfl|rfl|rfl|rfl<;>decide
 have i1:Em p 1 1:=by rcases hp with rfl|rfl|rfl|rfl<;>exact⟨by decide,by decide,by decide⟩
 have f1:Þ p 1 [0,1,0,0,-1,0]=(pl p).l:=by rcases hp with rfl|rfl|rfl|rfl<;>decide
 have e:=h p Aa _ 1 1 hp l1 i1;rw[f1]at e;have e':Z.F 122 [.int p,.H [.int 0,.int 1,.int 0,.int 0,.int (-1),.int 0]]=.ok (BY (pl p)):=e;generalize BY (pl p)=X at *;simp[Q3,Df.run,Bc,e']
def third{a:R3}(hp:P4 p)(na:NF p a)(nb:NF p b)(ne:a≠b):∃ c,Ak a b c%p≠0:=by
 refine B5 λn=>?_
 have h:∀ c,Ak a b c%p=0:=λc=>B5 λz=>n ⟨c,z⟩
 have e:∀ c,Ay (Z8 a b) c%p=0:=λc=>by rw[j4];exact h c
 have c0:=e (1,0,0);have c1:=e (0,1,0);have c2:=e (0,0,1);unfold Ay at c0 c1 c2;simp only[DK,CT,Int.add_zero,Dm]at c0 c1 c2;have z:Z5 p (Z8 a b) (0,0,0):=⟨by show _%p=0%p;rw[c0,Bp],by show _%p=0%p;rw[c1,Bp],by show _%p=0%p;rw[c2,Bp]⟩
 exact ne (KQ hp nb na (Mv hp z na.2 nb.2)).symm
noncomputable def ϰ(a:Ad)(A:C6)(b:Ad)(B:C6):C6:=⟨a*A.c0+b*B.c0,a*A.c1+b*B.c1,a*A.c2+b*B.c2,a*A.c3+b*B.c3,a*A.c4+b*B.c4,a*A.c5+b*B.c5⟩
noncomputable def l3(a:Ad)(A:C6)(b:Ad)(B:C6)(c:Ad)(G:C6):C6:=⟨a*A.c0+b*B.c0+c*G.c0,a*A.c1+b*B.c1+c*G.c1,a*A.c2+b*B.c2+c*G.c2,a*A.c3+b*B.c3+c*G.c3,a*A.c4+b*B.c4+c*G.c4,a*A.c5+b*B.c5+c*G.c5⟩
section
variable{L:C6}
def yp(hp:P4 p)(hx:NF p x)(hy:NF p y)(ne:x≠y):¬ Z5 p (Z8 x y) (0,0,0):=λh=>ne (KQ hp hx hy (Pr.symm hp (Mv hp h hx.2 hy.2)))
def kr(x y z:R3):bk0 (x.1,y.1,z.1) (x.2.1,y.2.1,z.2.1) (x.2.2,y.2.2,z.2.2)=Z8 y z/\bk1 (x.1,y.1,z.1) (x.2.1,y.2.1,z.2.1) (x.2.2,y.2.2,z.2.2)=Z8 z x/\bk2 (x.1,y.1,z.1) (x.2.1,y.2.1,z.2.1) (x.2.2,y.2.2,z.2.2)=Z8 x y:=by
 refine⟨?_,?_,?_⟩<;>simp only[bk0,bk1,bk2,BL,BG,BF,Z8]<;>refine Bq ?_ (Bq ?_ ?_)<;>simp only<;>grind
def vO(x y z:R3):Ak (x.1,y.1,z.1) (x.2.1,y.2.1,z.2.1) (x.2.2,y.2.2,z.2.2)=Ak x y z:=by
 unfold Ak U0;simp only;grind
def SQ(b0 b1 b2:Ad)(r0 r1 r2:R3):pb ⟨0,0,0,b0,b1,b2⟩ r0 r1 r2=l3 b0 (ý r0 r1) b1 (ý r0 r2) b2 (ý r1 r2):=by
 simp only[pb,l3,ý,vI,bI,Ay,ap,ò,ó,ú,BL,BG,BF]
 congr 1<;>grind
def rE(hx:vI Q x%p=0)(hy:vI Q y%p=0)(hz:vI Q z%p=0):KK p (ù (Ak x y z*Ak x y z) Q) (l3 (bI Q x y) (ý (Z8 y z) (Z8 z x)) (bI Q x z) (ý (Z8 y z) (Z8 x y)) (bI Q y z) (ý (Z8 z x) (Z8 x y))):=by
 obtain⟨e0,e1,e2⟩:=Yq (x.1,y.1,z.1) (x.2.1,y.2.1,z.2.1) (x.2.2,y.2.2,z.2.2);have h:=Zm Q (x.1,y.1,z.1) (x.2.1,y.2.1,z.2.1) (x.2.2,y.2.2,z.2.2) (bk0 (x.1,y.1,z.1) (x.2.1,y.2.1,z.2.1) (x.2.2,y.2.2,z.2.2)) (bk1 (x.1,y.1,z.1) (x.2.1,y.2.1,z.2.1) (x.2.2,y.2.2,z.2.2)) (bk2 (x.1,y.1,z.1) (x.2.1,y.2.1,z.2.1) (x.2.2,y.2.2,z.2.2));rw[e0,e1,e2,Zn,vO]at h;obtain⟨f0,f1,f2⟩:=kr x y z;rw[f0,f1,f2]at h;rw[<-h,<-SQ];refine Qg ?_ ⟨Cg.rfl,Cg.rfl,Cg.rfl⟩ ⟨Cg.rfl,Cg.rfl,Cg.rfl⟩ ⟨Cg.rfl,Cg.rfl,Cg.rfl⟩;have k:∀{n:Ad},n%p=0->Cg p n 0:=λ{n} h=>by show n%p=0%p;rw[h,Bp]
 exact⟨k hx,k hy,k hz,Cg.rfl,Cg.rfl,Cg.rfl⟩
def lR(x y z w:R3):AU (Ak x y z) w=(Ak w y z*x.1+Ak x w z*y.1+Ak x y w*z.1,Ak w y z*x.2.1+Ak x w z*y.2.1+Ak x y w*z.2.1,Ak w y z*x.2.2+Ak x w z*y.2.2+Ak x y w*z.2.2):=by
 unfold AU Ak U0;refine Bq ?_ (Bq ?_ ?_)<;>simp only<;>grind
def Zzj(x y z w:R3):AU (Ak x y z) (Z8 z w)=(Ak w y z*(Z8 z x).1-Ak x w z*(Z8 y z).1,Ak w y z*(Z8 z x).2.1-Ak x w z*(Z8 y z).2.1,Ak w y z*(Z8 z x).2.2-Ak x w z*(Z8 y z).2.2):=by
 unfold AU Ak U0 Z8;refine Bq ?_ (Bq ?_ ?_)<;>simp only<;>grind
def Zzo(x y z w:R3):AU (Ak x y z) (Z8 y w)=(Ak x y w*(Z8 y z).1-Ak w y z*(Z8 x y).1,Ak x y w*(Z8 y z).2.1-Ak w y z*(Z8 x y).2.1,Ak x y w*(Z8 y z).2.2-Ak w y z*(Z8 x y).2.2):=by
 unfold AU Ak U0 Z8;refine Bq ?_ (Bq ?_ ?_)<;>simp only<;>grind
def oM(x y z w:R3):ù (Ak x y z) (ý (Z8 x y) (Z8 z w))=ϰ (Ak w y z) (ý (Z8 z x) (Z8 x y)) (-Ak x w z) (ý (Z8 y z) (Z8 x y)):=by
 have e:=Zzj x y z w;unfold AU at e;simp only[Kh]at e;obtain⟨e0,e1,e2⟩:=e;generalize Ak x y z=d,Ak w y z=u0,Ak x w z=u1,Z8 z w=c,Z8 x y=r2,Z8 y z=r0,Z8 z x=r1 at *;simp only[ù,ϰ,ý]
 congr 1<;>grind
def oJ(x y z w:R3):ù (Ak x y z) (ý (Z8 x z) (Z8 y w))=ϰ (Ak w y z) (ý (Z8 z x) (Z8 x y)) (-Ak x y w) (ý (Z8 y z) (Z8 z x)):=by
 have e:=Zzo x y z w;have f:Z8 x z=AU (-1) (Z8 z x):=by
  unfold AU Z8;refine Bq ?_ (Bq ?_ ?_)<;>simp only<;>grind
 rw[f];unfold AU at e ⊢;simp only[Kh]at e;obtain⟨e0,e1,e2⟩:=e;generalize Ak x y z=d,Ak w y z=u0,Ak x y w=u2,Z8 y w=c,Z8 x y=r2,Z8 y z=r0,Z8 z x=r1 at *;simp only[ù,ϰ,ý]
 congr 1<;>grind
def z0(h:n%p=0):Cg p n 0:=by show n%p=0%p;rw[h,Bp]
def Æ(h:Cg p n 0):n%p=0:=by
 have:n%p=0%p:=h;rw[this,Bp]
def QI{a:Ad}(ha:Cg p a 0)(hb:Cg p b 0):Cg p (a*c-b*d) 0:=((ha.mul Cg.rfl).sub (hb.mul Cg.rfl)).trans (Cg.of (by rw[EN,EN];rfl))
def vh{a:Ad}(ha:Cg p a a')(hL:KK p L L')(hb:Cg p b b')(hM:KK p M M'):KK p (ϰ a L b M) (ϰ a' L' b' M'):=
 ⟨(ha.mul hL.1).add (hb.mul hM.1),(ha.mul hL.2.1).add (hb.mul hM.2.1),(ha.mul hL.2.2.1).add (hb.mul hM.2.2.1),(ha.mul hL.2.2.2.1).add (hb.mul hM.2.2.2.1),(ha.mul hL.2.2.2.2.1).add (hb.mul hM.2.2.2.2.1),(ha.mul hL.2.2.2.2.2).add (hb.mul hM.2.2.2.2.2)⟩
def vf(hp:P4 p)(lQ:A4 p Q.l=Ab l)(h:KK p Q ⟨0,0,0,0,0,0⟩):BV:=by
 have:A4 p Q.l=Af:=J5.mpr λn hn=>by
  simp only[C6.l,Aw,A2,Ca]at hn;obtain⟨h0,h1,h2,h3,h4,h5⟩:=h;rcases hn with rfl|rfl|rfl|rfl|rfl|rfl
  .exact Æ h0
  .exact Æ h1
  .exact Æ h2
  .exact Æ h3
  .exact Æ h4
  .exact Æ h5
 rw[this]at lQ;cases lQ
def yY(hp:P4 p)(dz:d%p≠0)(h:KK p (ù d Q) ⟨0,0,0,0,0,0⟩):KK p Q ⟨0,0,0,0,0,0⟩:=⟨z0 ((FP hp dz).mp (Æ h.1)),z0 ((FP hp dz).mp (Æ h.2.1)),z0 ((FP hp dz).mp (Æ h.2.2.1)),z0 ((FP hp dz).mp (Æ h.2.2.2.1)),z0 ((FP hp dz).mp (Æ h.2.2.2.2.1)),z0 ((FP hp dz).mp (Æ h.2.2.2.2.2))⟩
end
noncomputable def Ot:Ss:={.asg 3 Ae (.B .Add (.sl (.v 1) .O (.v 2)) (.sl (.v 1) (.B .Add (.v 2) (.int 1)) .O)),.ife (.and {.cmp .Eq (.call 61 {.v 0,.x (.v 3) (.int 0),.x (.v 3) (.int 1),.x (.v 3) (.int 2)}) (.int 0),.cmp .Eq (.call 61 {.v 0,.x (.v 3) (.int 0),.x (.v 3) (.int 1),.x (.v 3) (.int 3)}) (.int 0)}) {.ret (.bi .tuple {.v 3})} .nil}
noncomputable def OG:Df:=⟨4,Ae,{.fors 2 (.e (.H {.int 4,.int 3,.int 2,.int 1,.int 0})) Ot,.ret .O}⟩
noncomputable def Q1:Df:=⟨2,Ae,{.ret (.H {.B .Mult (.x (.v 0) (.int 0)) (.x (.v 1) (.int 0)),.B .Mult (.x (.v 0) (.int 1)) (.x (.v 1) (.int 1)),.B .Mult (.x (.v 0) (.int 2)) (.x (.v 1) (.int 2)),.B .Add (.B .Mult (.x (.v 0) (.int 0)) (.x (.v 1) (.int 1))) (.B .Mult (.x (.v 0) (.int 1)) (.x (.v 1) (.int 0))),.B .Add (.B .Mult (.x (.v 0) (.int 0)) (.x (.v 1) (.int 2))) (.B .Mult (.x (.v 0) (.int 2)) (.x (.v 1) (.int 0))),.B .Add (.B .Mult (.x (.v 0) (.int 1)) (.x (.v 1) (.int 2))) (.B .Mult (.x (.v 0) (.int 2)) (.x (.v 1) (.int 1)))})}⟩
noncomputable def Rm:E:=(.B .Sub (.B .Mult (.v 4) (.v 6)) (.B .Mult (.v 5) (.v 7)))
noncomputable def OF:Df:=⟨8,Ae,{.asg 2 Ae (.call 196 {.call 57 {.v 0,.x (.v 1) (.int 0),.x (.v 1) (.int 1)},.call 57 {.v 0,.x (.v 1) (.int 2),.x (.v 1) (.int 3)}}),.asg 3 Ae (.call 196 {.call 57 {.v 0,.x (.v 1) (.int 0),.x (.v 1) (.int 2)},.call 57 {.v 0,.x (.v 1) (.int 1),.x (.v 1) (.int 3)}}),.asg 4 Ae (.call 126 {.v 0,.v 3,.x (.v 1) (.int 4)}),.asg 5 Ae (.call 126 {.v 0,.v 2,.x (.v 1) (.int 4)}),.ret (.call 122 {.v 0,.compT Rm [6,7] (.zip (.v 2) (.v 3)) B6})}⟩
noncomputable def Ow:Df:=⟨3,Ae,{.ife (.cmp .NotEq (.bi .len {.v 1}) (.int 5)) {.rais 13 {.str (Ao "a curve is told by five points")}} .nil,.expr (.call 194 {.v 1}),.asg 2 Ae (.call 195 {.v 0,.v 1}),.ife (.cmp .IsNot (.v 2) .O) {.rais 118 {.v 2}} .nil,.ret (.call 197 {.v 0,.v 1})}⟩
section
variable{P4:D}
noncomputable def ik(P0 P1 P2 P3 P4:D):D:=.L [P0,P1,P2,P3,P4]
def NQ{k a:Ad}(c0:Ý PP Af (Ab k)=.ok (.L u))(c1:Ý PP (Ab (k+1)) Af=.ok (.L v))(ad:DD .Add (.L u) (.L v)=.ok (.L [q0,q1,q2,q3]))(e0:Z.F 61 [.int p,q0,q1,q2]=.ok (.int a))(e1:Z.F 61 [.int p,q0,q1,q3]=.ok (.int b))(h:¬ (a=0/\b=0)):Bu Z 2 Ot (.int k) [si p,sh PP,s2,s3]=.next [si p,sh PP,si k,sh (.L [q0,q1,q2,q3])]:=by
 have i0:BR (.L [q0,q1,q2,q3]) (.int 0)=.ok q0:=rfl;have i1:BR (.L [q0,q1,q2,q3]) (.int 1)=.ok q1:=rfl;have i2:BR (.L [q0,q1,q2,q3]) (.int 2)=.ok q2:=rfl;have i3:BR (.L [q0,q1,q2,q3]) (.int 3)=.ok q3:=rfl;generalize D.L [q0,q1,q2,q3]=FF,D.L u=U_,D.L v=V at *;by_cases ha:a=0
 .have hb:b≠0:=λz=>h ⟨ha,z⟩
  simp[Bu,Ot,c0,c1,ad,i0,i1,i2,i3,e0,e1,ha,hb]
 .simp[Bu,Ot,c0,c1,ad,i0,i1,i2,i3,e0,e1,ha]
def oD(e012:Z.F 61 [.int p,P0,P1,P2]=.ok (.int m012))(e013:Z.F 61 [.int p,P0,P1,P3]=.ok (.int m013))(e014:Z.F 61 [.int p,P0,P1,P4]=.ok (.int m014))(e023:Z.F 61 [.int p,P0,P2,P3]=.ok (.int m023))(e024:Z.F 61 [.int p,P0,P2,P4]=.ok (.int m024))(e123:Z.F 61 [.int p,P1,P2,P3]=.ok (.int m123))(e124:Z.F 61 [.int p,P1,P2,P4]=.ok (.int m124))(h4:¬ (m012=0/\m013=0))(h3:¬ (m012=0/\m014=0))(h2:¬ (m013=0/\m014=0))(h1:¬ (m023=0/\m024=0))(h0:¬ (m123=0/\m124=0)):OG.run Z [.int p,ik P0 P1 P2 P3 P4]=.ok .O:=by
 have t4:=fun(s2 s3:Sl)=>NQ (Z:=Z) (p:=p) (k:=4) (PP:=ik P0 P1 P2 P3 P4) (s2:=s2) (s3:=s3) rfl rfl rfl e012 e013 h4
 have t3:=fun(s2 s3:Sl)=>NQ (Z:=Z) (p:=p) (k:=3) (PP:=ik P0 P1 P2 P3 P4) (s2:=s2) (s3:=s3) rfl rfl rfl e012 e014 h3
 have t2:=fun(s2 s3:Sl)=>NQ (Z:=Z) (p:=p) (k:=2) (PP:=ik P0 P1 P2 P3 P4) (s2:=s2) (s3:=s3) rfl rfl rfl e013 e014 h2
 have t1:=fun(s2 s3:Sl)=>NQ (Z:=Z) (p:=p) (k:=1) (PP:=ik P0 P1 P2 P3 P4) (s2:=s2) (s3:=s3) rfl rfl rfl e023 e024 h1
 have t0:=fun(s2 s3:Sl)=>NQ (Z:=Z) (p:=p) (k:=0) (PP:=ik P0 P1 P2 P3 P4) (s2:=s2) (s3:=s3) rfl rfl rfl e123 e124 h0
 generalize ik P0 P1 P2 P3 P4=PP at *;simp[OG,Df.run,Bc,CD,t4,t3,t2,t1,t0]
def uw{R:D}(e1:Z.F 194 [ik P0 P1 P2 P3 P4]=.ok .O)(e2:Z.F 195 [.int p,ik P0 P1 P2 P3 P4]=.ok .O)(e3:Z.F 197 [.int p,ik P0 P1 P2 P3 P4]=.ok R):Ow.run Z [.int p,ik P0 P1 P2 P3 P4]=.ok R:=by
 have ln:Tm .len [ik P0 P1 P2 P3 P4]=.ok (.int 5):=rfl;generalize ik P0 P1 P2 P3 P4=PP at *;simp[Ow,Df.run,Bc,ln,e1,e2,e3]
end
def RA(a b c d e:R3):Au [a,b,c,d,e]=ik (Ai Aa a) (Ai Aa b) (Ai Aa c) (Ai Aa d) (Ai Aa e):=rfl
def Of(x y z:R3):Ay (Z8 x y) z=Ak x y z:=by
 unfold Ay Z8 Ak U0;grind
def YE(Z:Z2):Prop:=∀(p:Ad)(a b:R3),P4 p->Z4 p a->Z4 p b->Z.F 196 [Ai Aa a,Ai Aa b]=.ok (BY (ý a b))
def rl(Z:Z2)(p:Ad)(a b:R3)(hp:P4 p)(ia:Z4 p a)(ib:Z4 p b):Q1.run Z [Ai Aa a,Ai Aa b]=.ok (BY (ý a b)):=by
 have ba:=Cc hp ia;have bb:=Cc hp ib;have k:∀ {u v},Bd 10 u->Bd 10 v->E5 u v=Aa:=λhu hv=>GB hu hv (by decide) (by decide)
 obtain⟨x0,x1,x2⟩:=FQ Aa a;obtain⟨y0,y1,y2⟩:=FQ Aa b;simp[Q1,Df.run,Bc,x0,x1,x2,y0,y1,y2,k ba.1 bb.1,k ba.2.1 bb.2.1,k ba.2.2 bb.2.2,k ba.1 bb.2.1,k ba.2.1 bb.1,k ba.1 bb.2.2,k ba.2.2 bb.1,k ba.2.1 bb.2.2,k ba.2.2 bb.2.1];rfl
def PC{a:R3}(hp:P4 p)(ia:Z4 p a)(ib:Z4 p b):BC (ý a b):=by
 have hh:=hp.hi;have k:∀{x y:Ad},0<=x/\x<p->0<=y/\y<p->0<=x*y/\x*y<=100:=λ{x y} hx hy=>by
  refine⟨JG hx.1 hy.1,?_⟩;exact Int.le_trans (ZN (show x<=10 by omega) (show y<=10 by omega) hy.1 (by decide)) (by decide)
 have b1:∀{n:Ad},0<=n/\n<=100->Bd 10 n:=λh=>by unfold Bd;omega
 have b2:∀{m n:Ad},0<=m/\m<=100->0<=n/\n<=100->Bd 10 (m+n):=λh g=>by unfold Bd;omega
 obtain⟨a0,a1,a2⟩:=ia;obtain⟨b0,b1',b2'⟩:=ib;exact⟨b1 (k a0 b0),b1 (k a1 b1'),b1 (k a2 b2'),b2 (k a0 b1') (k a1 b0),b2 (k a0 b2') (k a2 b0),b2 (k a1 b2') (k a2 b1')⟩
def YC(Z:Z2):Prop:=∀(p:Ad)(C:C6)(x:R3),P4 p->BC C->Z4 p x->Z.F 126 [.int p,BY C,Ai Aa x]=.ok (.int (vI C x%p))
def ut(hr:IV Z)(p:Ad)(C:C6)(x:R3)(hp:P4 p)(bC:BC C)(ix:Z4 p x):NS.run Z [.int p,BY C,Ai Aa x]=.ok (.int (vI C x%p)):=by
 obtain⟨i0,i1,i2,i3,i4,i5⟩:=ix6 C;obtain⟨x0,x1,x2⟩:=FQ Aa x;have bx:=Cc hp ix;have k:∀ {u v},Bd 10 u->Bd 10 v->E5 u v=Aa:=λhu hv=>GB hu hv (by decide) (by decide)
 have k2:∀ {u v w},Bd 10 u->Bd 10 v->Bd 10 w->E5 (u*v) w=Aa:=λhu hv hw=>GB (hu.mul hv) hw (by decide) (by decide)
 simp[NS,Df.run,Bc,i0,i1,i2,i3,i4,i5,x0,x1,x2,k bC.b0 bx.1,k bC.b1 bx.2.1,k bC.b2 bx.2.2,k bC.b3 bx.1,k bC.b4 bx.1,k bC.b5 bx.2.1,k2 bC.b0 bx.1 bx.1,k2 bC.b1 bx.2.1 bx.2.1,k2 bC.b2 bx.2.2 bx.2.2,k2 bC.b3 bx.1 bx.2.1,k2 bC.b4 bx.1 bx.2.2,k2 bC.b5 bx.2.1 bx.2.2,hr p _ hp.pos];rfl
def yc{P4 A R:D}{L:C6}(bL:BC L)(bM:BC M)(bl:Bd 10 l)(bm:Bd 10 m)(e01:Z.F 57 [.int p,P0,P1]=.ok A)(e23:Z.F 57 [.int p,P2,P3]=.ok B)(eL:Z.F 196 [A,B]=.ok (BY L))(e02:Z.F 57 [.int p,P0,P2]=.ok A')(e13:Z.F 57 [.int p,P1,P3]=.ok B')(eM:Z.F 196 [A',B']=.ok (BY M))(vM:Z.F 126 [.int p,BY M,P4]=.ok (.int m))(vL:Z.F 126 [.int p,BY L,P4]=.ok (.int l))(ec:Z.F 122 [.int p,.L (ds (ϰ m L (-l) M).l)]=.ok R):OF.run Z [.int p,ik P0 P1 P2 P3 P4]=.ok R:=by
 have i0:BR (ik P0 P1 P2 P3 P4) (.int 0)=.ok P0:=rfl;have i1:BR (ik P0 P1 P2 P3 P4) (.int 1)=.ok P1:=rfl;have i2:BR (ik P0 P1 P2 P3 P4) (.int 2)=.ok P2:=rfl;have i3:BR (ik P0 P1 P2 P3 P4) (.int 3)=.ok P3:=rfl;have i4:BR (ik P0 P1 P2 P3 P4) (.int 4)=.ok P4:=rfl;have sL:Ct (BY L)=.ok (ds L.l):=rfl;have sM:Ct (BY M)=.ok (ds M.l):=rfl;have k:∀ {u v},Bd 10 u->Bd 10 v->E5 u v=Aa:=λhu hv=>GB hu hv (by decide) (by decide)
 have cp:∀(PP cL cM:D),Bz (Λ Z [si p,sh PP,sh cL,sh cM,si m,si l,Af,Af] [6,7] B6) (ϐ Z [si p,sh PP,sh cL,sh cM,si m,si l,Af,Af] [6,7] Rm) (EK (ds L.l) (ds M.l))=.ok (ds (ϰ m L (-l) M).l):=λPP cL cM=>by
  obtain⟨l0,l1,l2,l3,l4,l5⟩:=L;obtain⟨m0,m1,m2,m3,m4,m5⟩:=M;have n:∀ a b:Ad,m*a + -l*b=m*a-l*b:=λa b=>by rw[Int.neg_mul,Int.sub_eq_add_neg]
  simp[Bz,Λ,ϐ,EK,ds,C6.l,ϰ,Rm,B6,n,k bm bL.b0,k bm bL.b1,k bm bL.b2,k bm bL.b3,k bm bL.b4,k bm bL.b5,k bl bM.b0,k bl bM.b1,k bl bM.b2,k bl bM.b3,k bl bM.b4,k bl bM.b5]
 generalize ik P0 P1 P2 P3 P4=PP,ds (ϰ m L (-l) M).l=FF,ds L.l=LL,ds M.l=MM,BY L=cL,BY M=cM at *;simp[OF,Df.run,Bc,i0,i1,i2,i3,i4,e01,e23,eL,e02,e13,eM,vM,vL,sL,sM,cp,ec]
def wo{a:R3}(ha:Z5 p a a')(hb:Z5 p b b'):KK p (ý a b) (ý a' b'):=
 ⟨ha.1.mul hb.1,ha.2.1.mul hb.2.1,ha.2.2.mul hb.2.2,(ha.1.mul hb.2.1).add (ha.2.1.mul hb.1),(ha.1.mul hb.2.2).add (ha.2.2.mul hb.1),(ha.2.1.mul hb.2.2).add (ha.2.2.mul hb.2.1)⟩
def Xi(hp:P4 p){a:R3}(ha:Pr p a a')(hb:Pr p b b'):ë p (ý a b) (ý a' b'):=by
 obtain⟨d,dz,e⟩:=ha;obtain⟨d',Ŭ,e'⟩:=hb;refine⟨d*d',B4 hp dz Ŭ,(wo e e').trans (KK.of ?_)⟩;unfold ý ù AU
 congr 1<;>grind
def yd(hp:P4 p){L:C6}(hL:ë p L' L)(hM:ë p M' M)(v:R3):ë p (ϰ (vI M' v%p) L' (-(vI L' v%p)) M') (ϰ (vI M v) L (-vI L v) M):=by
 obtain⟨d,dz,e⟩:=hL;obtain⟨d',Ŭ,e'⟩:=hM;refine⟨d*d',B4 hp dz Ŭ,?_⟩;have r:Z5 p v v:=⟨Cg.rfl,Cg.rfl,Cg.rfl⟩;have q:=Jr e r;have q':=Jr e' r;rw[Pq]at q q';have neg:∀{a b:Ad},Cg p a b->Cg p (-a) (-b):=λ{a b} h=>by
  have:=(Cg.rfl (p:=p) (a:=0)).sub h
  rwa [ZR,ZR]at this
 refine(vh ((Cg.md rfl).trans q') e (neg ((Cg.md rfl).trans q)) e').trans (KK.of ?_);generalize vI M v=m;generalize vI L v=l;unfold ϰ ù
 congr 1<;>grind
def tH(hp:P4 p){E:C6}(lC:A4 p C.l=Ab l)(h:ë p E C):∃ l',A4 p E.l=Ab l':=by
 cases e:A4 p E.l with
 |some l'=>exact⟨l',rfl⟩
 |none=>
  exfalso
  obtain⟨d,dz,q⟩:=h;have z:=J5.mp e;have k:∀{n:Ad},n∈E.l->Cg p n 0:=λhn=>z0 (z _ hn)
  have q2:KK p E ⟨0,0,0,0,0,0⟩:=⟨k (by simp[C6.l]),k (by simp[C6.l]),k (by simp[C6.l]),k (by simp[C6.l]),k (by simp[C6.l]),k (by simp[C6.l])⟩
  exact vf hp lC (yY hp dz (q.symm.trans q2))
noncomputable def Fc(a b c d e:R3):C6:=ϰ (vI (ý (Z8 a c) (Z8 b d)) e) (ý (Z8 a b) (Z8 c d)) (-vI (ý (Z8 a b) (Z8 c d)) e) (ý (Z8 a c) (Z8 b d))
def vP(x y n:R3):Z8 (Z8 x y) n=(Ay n x*y.1-Ay n y*x.1,Ay n x*y.2.1-Ay n y*x.2.1,Ay n x*y.2.2-Ay n y*x.2.2):=by
 unfold Z8 Ay;refine Bq ?_ (Bq ?_ ?_)<;>simp only<;>grind
def par(hp:P4 p)(h1:Z5 p (Z8 r n) (0,0,0))(h2:Z5 p (Z8 r a) (0,0,0))(rz:¬ Z5 p r (0,0,0))(nz:¬ Z5 p n (0,0,0))(e:Ay n z%p=0):Ay a z%p=0:=by
 obtain⟨f0,f1,f2⟩:=h1;obtain⟨g0,g1,g2⟩:=h2;simp only[Z8]at f0 f1 f2 g0 g1 g2;have sw:∀{x y:Ad},Cg p (x-y) 0->Cg p x y:=λ{x y} h=>(Cg.of (by omega)).trans ((h.add (Cg.rfl (a:=y))).trans (Cg.of (by omega)))
 have d1:=sw f0;have d2:=sw f1;have d3:=sw f2;have c1:=sw g0;have c2:=sw g1;have c3:=sw g2
 have key:∀ ri ni ai:Ad,Cg p (ri*n.1) (r.1*ni)->Cg p (ri*n.2.1) (r.2.1*ni)->Cg p (ri*n.2.2) (r.2.2*ni)->Cg p (ri*a.1) (r.1*ai)->Cg p (ri*a.2.1) (r.2.1*ai)->Cg p (ri*a.2.2) (r.2.2*ai)->ni%p≠0->Ay a z%p=0:=λri ni ai k0 k1 k2 l0 l1 l2 hz=>by
  have rn:ri%p≠0:=λq=>rz ⟨?_,?_,?_⟩
  .have s1:Cg p (ni*Ay r z) 0:=by
    have t:=(((k0.mul (Cg.rfl (a:=z.1))).add (k1.mul (Cg.rfl (a:=z.2.1)))).add (k2.mul (Cg.rfl (a:=z.2.2)))).symm;refine(Cg.of ?_).trans (t.trans ((Cg.of ?_).trans (((Cg.rfl (a:=ri)).mul (z0 e)).trans (Cg.of (CT _)))))
    .unfold Ay;clear e k0 k1 k2 l0 l1 l2 t c1 c2 c3 d1 d2 d3 f0 f1 f2 g0 g1 g2 sw;grind
    .unfold Ay;clear e k0 k1 k2 l0 l1 l2 t c1 c2 c3 d1 d2 d3 f0 f1 f2 g0 g1 g2 sw;grind
   have s2:=z0 ((FP hp hz).mp (Æ s1));have s3:Cg p (ri*Ay a z) 0:=by
    have t:=(((l0.mul (Cg.rfl (a:=z.1))).add (l1.mul (Cg.rfl (a:=z.2.1)))).add (l2.mul (Cg.rfl (a:=z.2.2))));refine(Cg.of ?_).trans (t.trans ((Cg.of ?_).trans (((Cg.rfl (a:=ai)).mul s2).trans (Cg.of (CT _)))))
    .unfold Ay;clear e k0 k1 k2 l0 l1 l2 t c1 c2 c3 d1 d2 d3 f0 f1 f2 g0 g1 g2 sw s1 s2;grind
    .unfold Ay;clear e k0 k1 k2 l0 l1 l2 t c1 c2 c3 d1 d2 d3 f0 f1 f2 g0 g1 g2 sw s1 s2;grind
   exact(FP hp rn).mp (Æ s3)
  all_goals
   refine z0 ((FP hp hz).mp (Æ ?_))
  .exact(Cg.of (Cd _ _)).trans (k0.symm.trans (((z0 q).mul Cg.rfl).trans (Cg.of (EN _))))
  .exact(Cg.of (Cd _ _)).trans (k1.symm.trans (((z0 q).mul Cg.rfl).trans (Cg.of (EN _))))
  .exact(Cg.of (Cd _ _)).trans (k2.symm.trans (((z0 q).mul Cg.rfl).trans (Cg.of (EN _))))
 by_cases n0:n.1%p=0
 .by_cases n1:n.2.1%p=0
  .have n2:n.2.2%p≠0:=λq=>nz ⟨z0 n0,z0 n1,z0 q⟩
   exact key r.2.2 n.2.2 a.2.2 d2 d1.symm Cg.rfl c2 c1.symm Cg.rfl n2
  .exact key r.2.1 n.2.1 a.2.1 d3.symm Cg.rfl d1 c3.symm Cg.rfl c1 n1
 .exact key r.1 n.1 a.1 Cg.rfl d3 d2.symm Cg.rfl c3 c2.symm n0
def UR(h1:Ay n x%p=0)(h2:Ay n y%p=0):Z5 p (Z8 (Z8 x y) n) (0,0,0):=by
 rw[vP];exact⟨QI (z0 h1) (z0 h2),QI (z0 h1) (z0 h2),QI (z0 h1) (z0 h2)⟩
def oy(hp:P4 p)(hx:NF p x)(hy:NF p y)(ne:x≠y)(nz:¬ Z5 p n (0,0,0))(n1:Ay n x%p=0)(n2:Ay n y%p=0)(a1:Ay a x%p=0)(a2:Ay a y%p=0)(e:Ay n z%p=0):Ay a z%p=0:=
 par hp (UR n1 n2) (UR a1 a2) (yp hp hx hy ne) nz e
def sW(hp:P4 p)(hx:NF p x)(hy:NF p y)(ne:x≠y)(nz:¬ Z5 p n (0,0,0))(n1:Ay n x%p=0)(n2:Ay n y%p=0)(e:Ay n u%p=0):Ak x y u%p=0:=by
 rw[<-Of];obtain⟨h1,h2⟩:=ig x y;exact oy hp hx hy ne nz n1 n2 (by rw[h1];exact Bp p) (by rw[h2];exact Bp p) e
structure N3 (p:Ad) (pts:Ac R3):Prop where
 nd:pts.Nodup
 nf:∀ x∈pts,NF p x
 n3:∀ x y u,x∈pts->y∈pts->u∈pts->x≠y->x≠u->y≠u->Ak x y u%p≠0
def N3.perm{a:Ac R3}(h:N3 p a)(e:b.Perm a):N3 p b:=⟨e.nodup_iff.mpr h.nd,λx hx=>h.nf x (e.mem_iff.mp hx),λx y u hx hy hu=>h.n3 x y u (e.mem_iff.mp hx) (e.mem_iff.mp hy) (e.mem_iff.mp hu)⟩
def N3.sub{a:Ac R3}(h:N3 p a)(e:b.Sublist a):N3 p b:=⟨e.nodup h.nd,λx hx=>h.nf x (e.subset hx),λx y u hx hy hu=>h.n3 x y u (e.subset hx) (e.subset hy) (e.subset hu)⟩
noncomputable def Mo:Df:=⟨3,Ae,{.ife (.cmp .Lt (.bi .len {.v 1}) (.int 5)) {.asg 2 Ae (.call 123 {.v 0}),.ret (.call 133 {.v 0,.v 2,.call 112 {.v 0,.call 128 {.v 0,.v 2},.v 1}})} .nil,.ret (.call 198 {.v 0,.sl (.v 1) .O (.int 5)})}⟩
def n3Z(nd:pts.Nodup)(nf:∀ x∈pts,NF p x)(h:ü p pts=Af):N3 p pts:=⟨nd,nf,λx y u hx hy hu n1 n2 n3 z=>by
 obtain⟨d,e⟩:=ja hx hy hu n1 n2 n3 z;rw[h]at e;cases e⟩
def mO{l:Ac α}(h:l.length=4):∃ a b c d,l=[a,b,c,d]:=by
  match l,h with
  |[a,b,c,d],_=>exact⟨a,b,c,d,rfl⟩
def mM{l:Ac α}(h:l.length=5):∃ a b c d e,l=[a,b,c,d,e]:=by
  match l,h with
  |[a,b,c,d,e],_=>exact⟨a,b,c,d,e,rfl⟩
def ui{T R:D}(ln:Tm .len [T]=.ok (.int n))(h:n<5)(e1:Z.F 123 [.int p]=.ok cC)(e2:Z.F 128 [.int p,cC]=.ok PT)(e3:Z.F 112 [.int p,PT,T]=.ok M)(e4:Z.F 133 [.int p,cC,M]=.ok R):Mo.run Z [.int p,T]=.ok R:=by
 simp[Mo,Df.run,Bc,ln,h,e1,e2,e3,e4]
def ug{T R:D}(ln:Tm .len [T]=.ok (.int n))(h:¬ n<5)(sl:Ý T Af (Ab 5)=.ok T5)(e:Z.F 198 [.int p,T5]=.ok R):Mo.run Z [.int p,T]=.ok R:=by
 simp[Mo,Df.run,Bc,ln,h,sl,slE,e]
def jl(hp:P4 p){a:R3}(na:NF p a)(nb:NF p b)(ne:a≠b):NF p (OV p (Z8 a b))/\Pr p (OV p (Z8 a b)) (Z8 a b):=by
 cases el:A4 p (Fr (Z8 a b)) with
 |none=>exact absurd (SY hp nb.1 na.1 nb.2 na.2 (Mv hp (SJ el) na.2 nb.2)).symm ne
 |some l=>exact Mr hp el
noncomputable def ŗ(p:Ad)(a:R3):Ac R3:=(Cr p).filter λm=>decide (Ay a m%p=0)
def Xl(hp:P4 p)(na:NF p a):((ŗ p a).length:Ad)=p+1:=by
 have h:∀ x∈Cr p,((ŗ p x).length:Ad)=p+1:=by
  rcases hp with rfl|rfl|rfl|rfl<;>decide+kernel
 exact h a ((FG hp).mpr na)
def VA{α:Type}[DecidableEq α](R:α->α->Prop)(sy:∀ a b,R a b->R b a):∀(n:Ag)(k:Ac α),k.length<=n->k.Nodup->(∀ a∈k,∃ b∈k,b≠a/\R a b)->(∀ a b c,a∈k->b∈k->c∈k->b≠a->c≠a->R a b->R a c->b=c)->k.length%2=0
 |_,[],_,_,_,_=>rfl
 |0,a::k,h,_,_,_=>by simp at h
 |n+1,a::k,h,nd,ex,un=>by
  obtain⟨n1,n2⟩:=BO.mp nd;obtain⟨b,hb,ba,rab⟩:=ex a Ax;have Ϟ:b∈k:=(Aw.mp hb).resolve_left ba;have l1:(k.erase b).length=k.length-1:=B9 Ϟ;have l0:0<k.length:=Z_7 Ϟ;have sub:∀ x,x∈k.erase b->x∈k:=λx hx=>List.mem_of_mem_erase hx
  have nb:∀ x,x∈k.erase b->x≠b:=λx hx=>((B8 n2).mp hx).1
  have ih:=VA R sy n (k.erase b) (by rw[BS]at h;omega) (n2.erase b) (λc hc=>by
   have hck:=Av a (sub c hc);have ca:c≠a:=λe=>n1 (e ▸ sub c hc)
   obtain⟨d,hd,dc,ı⟩:=ex c hck;have da:d≠a:=λe=>by
    subst e;exact nb c hc (un d c b hd hck hb (A8 dc) ba (sy _ _ ı) rab)
   have db:d≠b:=λe=>by
    subst e;exact ca (un d c a hd hck Ax (A8 dc) (A8 ba) (sy _ _ ı) (sy _ _ rab))
   exact⟨d,(B8 n2).mpr ⟨db,(Aw.mp hd).resolve_left da⟩,dc,ı⟩) (λx y z hx hy hz=>un x y z (Av _ (sub x hx)) (Av _ (sub y hy)) (Av _ (sub z hz)))
  rw[BS];omega
def PN(a b c:R3):Ak a c b=-Ak a b c:=by unfold Ak U0;grind
def YX(a b c:R3):Ak c a b=Ak a b c:=by unfold Ak U0;grind
def Qs{x:Ad}(h:x%p=0):-x%p=0:=ZM (ZK.mpr (ZL h))
def Yz(hp:P4 p)(h:N3 p l):(l.length:Ad)≠p+2:=λhl=>by
 obtain⟨Q,hQ,nQ⟩:∃ Q∈Cr p,Q∉l:=by
  refine B5 λz=>?_
  have le:=Pe (V9 hp) (λx hx=>B5 λy=>z ⟨x,hx,y⟩)
  have e:(Cr p).length=(p*p+p+1).toNat:=by unfold Cr;rw[AG,Fs]
  rw[e]at le;rcases hp with rfl|rfl|rfl|rfl<;>omega
 have nfQ:=(FG hp).mp hQ;have z0:(0:Ad)%p=0:=Bp p;have ne:∀ a∈l,Q≠a:=λa ha e=>nQ (e ▸ ha)
 have key:∀ a∈l,∃ b∈l,b≠a/\Ak Q a b%p=0:=λa ha=>by
  have na:=h.nf a ha;obtain⟨m1,m2⟩:=jl hp nfQ na (ne a ha);have er:∀ b,b∈l.erase a->b≠a/\b∈l:=λb hb=>(B8 h.nd).mp hb
  have pj:∀ b,b∈l.erase a->NF p (OV p (Z8 a b))/\Pr p (OV p (Z8 a b)) (Z8 a b):=λb hb=>jl hp na (h.nf b (er b hb).2) (A8 (er b hb).1)
  have on:∀ b,b∈l.erase a->Ay b (OV p (Z8 a b))%p=0:=λb hb=>(Jt hp (pj b hb).2).mpr (by rw[(Ph a b).2];exact z0)
  have kn:((l.erase a).map λb=>OV p (Z8 a b)).Nodup:=aF.mpr ((h.nd.erase a).imp_of_mem λ{b c} hb hc bc e=>by
   refine h.n3 a b c ha (er b hb).2 (er c hc).2 (A8 (er b hb).1) (A8 (er c hc).1) bc ?_;rw[<-Jt hp (pj b hb).2,e];exact on c hc)
  have ks:∀ m∈(l.erase a).map λb=>OV p (Z8 a b),m∈ŗ p a:=λm hm=>by
   obtain⟨b,hb,rfl⟩:=A7.mp hm;exact BJ.mpr ⟨(FG hp).mpr (pj b hb).1,Bo ((Jt hp (pj b hb).2).mpr (by rw[(Ph a b).1];exact z0))⟩
  have mt:OV p (Z8 Q a)∈ŗ p a:=BJ.mpr ⟨(FG hp).mpr m1,Bo ((Jt hp m2).mpr (by rw[(Ph Q a).2];exact z0))⟩
  have hk:OV p (Z8 Q a)∈(l.erase a).map λb=>OV p (Z8 a b):=B5 λz=>by
   have le:=Pe (BO.mpr ⟨z,kn⟩) (l2:=ŗ p a) λx hx=>by
    rcases Aw.mp hx with rfl|hx
    .exact mt
    .exact ks x hx
   rw[BS,AG,B9 ha]at le;have:=Xl hp na;have:=hp.lo;omega
  obtain⟨b,hb,e⟩:=A7.mp hk;refine⟨b,(er b hb).2,(er b hb).1,?_⟩;rw[<-Jt hp m2,<-e];exact on b hb
 have ev:=VA (λa b=>Ak Q a b%p=0) (λa b r=>by rw[PN];exact Qs r) l.length l (AT _) h.nd key (λa b c ha hb hc ba ca r1 r2=>B5 λbc=>by
  obtain⟨m1,m2⟩:=jl hp nfQ (h.nf a ha) (ne a ha);refine h.n3 a b c ha hb hc (A8 ba) (A8 ca) bc (sW hp (h.nf a ha) (h.nf b hb) (A8 ba) (n:=OV p (Z8 Q a)) (λz=>kI m1 ⟨JR (b:=(0:Ad)%p) z.1 z0,JR (b:=(0:Ad)%p) z.2.1 z0,JR (b:=(0:Ad)%p) z.2.2 z0⟩) ?_ ?_ ?_)
  .rw[IR,Jt hp m2,(Ph Q a).2];exact z0
  .rw[IR,Jt hp m2];exact r1
  .rw[IR,Jt hp m2];exact r2)
 rcases hp with rfl|rfl|rfl|rfl<;>omega
noncomputable def J8:Df:=⟨4,Ae,{.expr (.call 194 {.v 1}),.asg 2 Ae (.call 65 {.v 0,.v 1}),.ife (.cmp .IsNot (.v 2) .O) {.ret (.H {.str (Ao "line"),.v 2})} .nil,.ife (.cmp .Eq (.bi .len {.v 1}) (.B .Add (.v 0) (.int 1))) {.ret (.H {.str (Ao "curve"),.call 224 {.v 0,.v 1}})} .nil,.asg 3 Ae (.call 223 {.v 0,.v 1}),.ife (.cmp .Gt (.bi .len {.v 3}) (.int 0)) {.ret (.H {.str (Ao "more"),.x (.v 3) (.int 0)})} .nil,.ret (.H {.str (Ao "ends"),.call 226 {.v 0,.v 1}})}⟩
def Yw{a:R3}:∀{l:Ac R3},a∈l->b∈l->a≠b->(a,b)∈ϴ l\/(b,a)∈ϴ l
 |[],ha,_,_=>by cases ha
 |c::r,ha,hb,ne=>by
  rcases Aw.mp ha with rfl|ha'
  .rcases Aw.mp hb with rfl|Ϟ
   .exact absurd rfl ne
   .exact .inl (EE _ (A7.mpr ⟨b,Ϟ,rfl⟩))
  .rcases Aw.mp hb with rfl|Ϟ
   .exact .inr (EE _ (A7.mpr ⟨a,ha',rfl⟩))
   .exact(Yw ha' Ϟ ne).imp (BH _) (BH _)
def i6(h:x∈Ja p l)(a b:R3)(ha:a∈l)(hb:b∈l)(ne:a≠b):Ak a b x%p≠0:=λz=>by
 rw[Xs]at h;have k:=(BJ.mp h).2;unfold Qu at k;rw[Ap,Option.isNone_iff_eq_none]at k;have k2:=List.find?_eq_none.mp k.2;rcases Yw ha hb ne with m|m
 .exact k2 _ m (Bo z)
 .refine k2 _ m (Bo ?_);show Ak b a x%p=0;rw[<-YX,PN,YX];exact Qs z
def ak(h:Z.F 194 [T]=.ok .O)(e:Z.F 65 [.int p,T]=.ok .O)(ln:Tm .len [T]=.ok (.int n))(hn:n=p+1)(ec:Z.F 224 [.int p,T]=.ok C):J8.run Z [.int p,T]=.ok (.H [.str (Ao "curve"),C]):=by
 subst hn;simp[J8,Df.run,Bc,h,e,ln,ec]
def aj{L:D}(h:Z.F 194 [T]=.ok .O)(e:Z.F 65 [.int p,T]=.ok .O)(ln:Tm .len [T]=.ok (.int n))(hn:¬ n=p+1)(ef:Z.F 223 [.int p,T]=.ok L)(lm:Tm .len [L]=.ok (.int 0))(ee:Z.F 226 [.int p,T]=.ok X):J8.run Z [.int p,T]=.ok (.H [.str (Ao "ends"),X]):=by
 simp[J8,Df.run,Bc,h,e,ln,hn,ef,lm,ee]
noncomputable def Ü(l:Ac Ad):Ad:=l.foldr (· * ·) 1
def V4{x:Ad}:∀{l:Ac Ad},x∈l->Ü l=x*Ü (l.erase x)
 |y::l,h=>by
  by_cases e:y=x
  .subst e;rw[List.erase_cons_head];rfl
  .have hx:x∈l:=(Aw.mp h).resolve_left (λz=>e z.symm)
   rw[List.erase_cons_tail (by simpa using e)]
   show y*Ü l=x*(y*Ü (l.erase x));rw[V4 hx];grind
def Wj:∀{l1 l2:Ac Ad},l1.Nodup->(∀ x∈l1,x∈l2)->l1.length=l2.length->Ü l1=Ü l2
 |[],l2,_,_,e=>by rw[List.length_eq_zero_iff.mp e.symm]
 |x::l1,l2,nd,h,e=>by
  obtain⟨n1,n2⟩:=BO.mp nd;have hx:=h x Ax;rw[V4 hx,<-Wj (l2:=l2.erase x) n2 (λy hy=>(G8 (fun(e:y=x)=>n1 (e ▸ hy))).mpr (h y (Av _ hy))) (by rw[B9 hx];rw[BS]at e;omega)]
  rfl
noncomputable def nzL(p:Ad):Ac Ad:=(AK (p-1).toNat).map fun(n:Ag)=>(n:Ad)+1
def jb(hp:P4 p){L:Ac Ad}(nd:L.Nodup)(len:(L.length:Ad)=p-1)(h:∀ x∈L,0<=x/\x<p/\x≠0):Cg p (Ü L) (-1):=by
 have l2:(nzL p).length=(p-1).toNat:=by unfold nzL;rw[AG,Fs]
 rw[Wj nd (l2:=nzL p) (λx hx=>by
  obtain⟨h0,h1,h2⟩:=h x hx;exact A7.mpr ⟨(x-1).toNat,A9.mpr (by omega),by omega⟩) (by omega)]
 unfold Cg;rcases hp with rfl|rfl|rfl|rfl<;>decide
def Zu(hp:P4 p):∃ i:Ad->Ad,∀ n,n%p≠0->Cg p (n*i n) 1:=by
 refine⟨λn=>open Classical in if h:n%p≠0 then Iz (Hm hp h) else 0,λn h=>?_⟩
 have s:=DW (Hm hp h);show (n*dite _ _ _)%p=1%p;rw[dif_pos h,s.2.2,AI (by decide) (by have:=hp.lo;omega)]
def TM{x:Ad}(h:Cg p x y):(x-y)%p=0:=Int.emod_eq_emod_iff_emod_sub_eq_zero.mp h
def LI{x:Ad}(h:Cg p y 1):Cg p (x*y) x:=(Cg.rfl.mul h).trans (Cg.of (DK x))
def Yv{α:Type}{f g s:α->Ad}:∀(R:Ac α),(∀ x∈R,Cg p (s x*g x) (f x))->Cg p (Ü (R.map s)*Ü (R.map g)) (Ü (R.map f))
 |[],_=>Cg.rfl
 |x::R,h=>by
  have ih:=Yv R λy hy=>h y (Av _ hy)
  exact(Cg.of (by show s x*Ü (R.map s)*(g x*Ü (R.map g))=s x*g x*(Ü (R.map s)*Ü (R.map g));grind)).trans ((h x Ax).mul ih)
def Tz(hp:P4 p){R:Ac α}(len:(R.length:Ad)=p-2){f g:α->Ad}(hf:∀ x∈R,f x%p≠0)(hg:∀ x∈R,g x%p≠0)(hd:R.Pairwise λx y=>(f x*g y-g x*f y)%p≠0)(hu:u%p≠0)(hv:v%p≠0)(ą:∀ x∈R,(u*f x+v*g x)%p≠0):Cg p (v*Ü (R.map f)) (u*Ü (R.map g)):=by
 obtain⟨i,hi⟩:=Zu hp;have p0:=hp.pos;have nzi:∀ n,n%p≠0->i n%p≠0:=λn hn z=>by
  have e:n*i n%p=1%p:=hi n hn;rw[Be,z,CT,Bp,AI (by decide) (by have:=hp.lo;omega)]at e
  exact absurd e (by decide)
 have md:∀ n,Cg p (n%p) n:=λn=>AY n (BD p)
 have rng:∀ n,n%p≠0->0<=n%p/\n%p<p/\n%p≠0:=λn z=>⟨A3 _ (by omega),AV _ p0,z⟩
 have nk:(-v*i u%p)∉R.map λx=>f x*i (g x)%p:=λm=>by
  obtain⟨x,hx,e⟩:=A7.mp m;have e:Cg p (f x*i (g x)) (-v*i u):=e;have h1:Cg p (u*f x) (-v*g x):=(LI (hi (g x) (hg x hx))).symm.trans ((Cg.of (by grind:u*f x*(g x*i (g x))=u*g x*(f x*i (g x)))).trans ((Cg.rfl.mul e).trans ((Cg.of (by grind:u*g x*(-v*i u)=-v*g x*(u*i u))).trans (LI (hi u hu)))))
  have h2:=TM h1;rw[show u*f x - -v*g x=u*f x+v*g x by grind]at h2
  exact ą x hx h2
 have nd:(R.map λx=>f x*i (g x)%p).Nodup:=aF.mpr (hd.imp_of_mem λ{x y} hx hy h e=>by
  have e:Cg p (f x*i (g x)) (f y*i (g y)):=e;refine h (TM ?_);exact(LI (hi (g x) (hg x hx))).symm.trans ((Cg.of (by grind:f x*g y*(g x*i (g x))=g x*g y*(f x*i (g x)))).trans ((Cg.rfl.mul e).trans ((Cg.of (by grind:g x*g y*(f y*i (g y))=g x*f y*(g y*i (g y)))).trans (LI (hi (g y) (hg y hy)))))))
 have w:=jb hp (L:=(-v*i u%p)::R.map λx=>f x*i (g x)%p) (BO.mpr ⟨nk,nd⟩) (by rw[BS,AG];omega) (λx hx=>by
  rcases Aw.mp hx with rfl|hx
  .exact rng _ (B4 hp (by rw[<-Int.neg_one_mul];exact B4 hp hp.m1 hv) (nzi u hu))
  .obtain⟨y,hy,rfl⟩:=A7.mp hx;exact rng _ (B4 hp (hf y hy) (nzi _ (hg y hy))))
 have q:=Yv (p:=p) (f:=f) (g:=g) (s:=λx=>f x*i (g x)%p) R λx hx=>((md _).mul Cg.rfl).trans ((Cg.of (by grind:f x*i (g x)*g x=f x*(g x*i (g x)))).trans (LI (hi (g x) (hg x hx))))
 have w:Cg p (-v*i u%p*Ü (R.map λx=>f x*i (g x)%p)) (-1):=w
 generalize Ü (R.map λx=>f x*i (g x)%p)=S,Ü (R.map f)=F,Ü (R.map g)=G at *
 have w2:Cg p (-v*i u*S) (-1):=((md _).symm.mul Cg.rfl).trans w;have a1:Cg p (v*F) (v*(S*G)):=Cg.rfl.mul q.symm;have a2:Cg p (v*(S*G)) (v*(S*G)*(u*i u)):=(LI (hi u hu)).symm;have a3:v*(S*G)*(u*i u)=-(u*G)*(-v*i u*S):=by grind
 exact a1.trans (a2.trans ((Cg.of a3).trans ((Cg.rfl.mul w2).trans (Cg.of (by grind)))))
def Tan(p:Ad)(l:Ac R3)(a m:R3):Prop:=Ay m a%p=0/\∀ b∈l,b≠a->Ay m b%p≠0
def Ps(hp:P4 p)(h:N3 p l)(len:(l.length:Ad)=p+1)(ha:a∈l):∃ m,Tan p l a m:=by
 have na:=h.nf a ha;have z0:(0:Ad)%p=0:=Bp p;have er:∀ b,b∈l.erase a->b≠a/\b∈l:=λb hb=>(B8 h.nd).mp hb
 obtain⟨m,hm,nm⟩:∃ m∈ŗ p a,m∉(l.erase a).map λb=>OV p (Z8 a b):=by
  refine B5 λz=>?_
  have le:(ŗ p a).length<=((l.erase a).map λb=>OV p (Z8 a b)).length:=Pe ((V9 hp).filter _) (λx hx=>B5 λy=>z ⟨x,hx,y⟩)
  rw[AG,B9 ha]at le;have:=Xl hp na;have:=hp.pos;omega
 obtain⟨m1,m2⟩:=BJ.mp hm;have m2:=By m2;have nfm:=(FG hp).mp m1;refine⟨m,by rw[IR];exact m2,λb hb ba e=>nm ?_⟩
 obtain⟨j1,j2⟩:=jl hp na (h.nf b hb) (A8 ba);refine A7.mpr ⟨b,(B8 h.nd).mpr ⟨ba,hb⟩,KQ hp j1 nfm ?_⟩;refine Mv hp ?_ nfm.2 j1.2;obtain⟨d,_,q0,q1,q2⟩:=j2;have ea:Cg p (Ay a m) 0:=OvC.z0 m2;have eb:Cg p (Ay m b) 0:=OvC.z0 e;have k:∀ x y:Ad,Cg p (d*(x*Ay m b-y*Ay a m)) 0:=λx y=>(Cg.rfl.mul ((Cg.rfl.mul eb).sub (Cg.rfl.mul ea))).trans (Cg.of (by simp))
 generalize OV p (Z8 a b)=n at *;unfold AU at q0 q1 q2;simp only at q0 q1 q2;refine⟨((Cg.rfl.mul q2).sub (Cg.rfl.mul q1)).trans ((Cg.of ?_).trans (k a.1 b.1)),((Cg.rfl.mul q0).sub (Cg.rfl.mul q2)).trans ((Cg.of ?_).trans (k a.2.1 b.2.1)),((Cg.rfl.mul q1).sub (Cg.rfl.mul q0)).trans ((Cg.of ?_).trans (k a.2.2 b.2.2))⟩<;>(unfold Z8 Ay;simp only;clear k ea eb q0 q1 q2;grind)
def LQ(a b c x t:R3):Ak a b c*Ay t x=Ak x b c*Ay t a+Ak a x c*Ay t b+Ak a b x*Ay t c:=by
 unfold Ak U0 Ay;grind
def gp1(a b c x y:R3):Ak a x c*Ak a b y-Ak a b x*Ak a y c=Ak a b c*Ak a x y:=by unfold Ak U0;grind
def gp2(a b c x y:R3):Ak a b x*Ak y b c-Ak x b c*Ak a b y=Ak a b c*Ak b x y:=by unfold Ak U0;grind
def gp3(a b c x y:R3):Ak x b c*Ak a y c-Ak a x c*Ak y b c=Ak a b c*Ak c x y:=by unfold Ak U0;grind
def Ud(hp:P4 p)(h:N3 p l)(len:(l.length:Ad)=p+1){a:R3}(ha:a∈l)(hb:b∈l)(hc:c∈l)(ab:a≠b)(ac:a≠c)(bc:b≠c)(Ta:Tan p l a ta)(Tb:Tan p l b tb)(Tc:Tan p l c tc):Cg p (Ay ta c*Ay tb a*Ay tc b) (Ay ta b*Ay tb c*Ay tc a):=by
 have dz:=h.n3 a b c ha hb hc ab ac bc;obtain⟨R,nd,hR,hl⟩:∃ R:Ac R3,R.Nodup/\(∀ x∈R,x∈l/\x≠a/\x≠b/\x≠c)/\(R.length:Ad)=p-2:=by
  refine⟨((l.erase a).erase b).erase c,((h.nd.erase a).erase b).erase c,λx hx=>?_,?_⟩
  .obtain⟨x3,hx⟩:=(B8 ((h.nd.erase a).erase b)).mp hx;obtain⟨x2,hx⟩:=(B8 (h.nd.erase a)).mp hx;obtain⟨x1,hx⟩:=(B8 h.nd).mp hx;exact⟨hx,x1,x2,x3⟩
  .have b1:b∈l.erase a:=(B8 h.nd).mpr ⟨A8 ab,hb⟩;have c1:c∈(l.erase a).erase b:=(B8 (h.nd.erase a)).mpr ⟨A8 bc,(B8 h.nd).mpr ⟨A8 ac,hc⟩⟩;rw[B9 c1,B9 b1,B9 ha];have:=hp.lo;omega
 have z1:∀ x∈R,Ak x b c%p≠0:=λx hx=>h.n3 x b c (hR x hx).1 hb hc (hR x hx).2.2.1 (hR x hx).2.2.2 bc
 have z2:∀ x∈R,Ak a x c%p≠0:=λx hx=>h.n3 a x c ha (hR x hx).1 hc (A8 (hR x hx).2.1) ac (hR x hx).2.2.2
 have z3:∀ x∈R,Ak a b x%p≠0:=λx hx=>h.n3 a b x ha hb (hR x hx).1 ab (A8 (hR x hx).2.1) (A8 (hR x hx).2.2.1)
 have pw:∀{e:R3},e∈l->(∀ x∈R,x≠e)->R.Pairwise λx y=>Ak a b c*Ak e x y%p≠0:=λ{e} he ne=>nd.imp_of_mem λ{x y} hx hy xy=>B4 hp dz (h.n3 e x y he (hR x hx).1 (hR y hy).1 (A8 (ne x hx)) (A8 (ne y hy)) xy)
 have cut:∀{s:Ad}{x y:Ad},s%p=0->Cg p (x*s+y) y:=λ{s x y} hs=>((Cg.rfl.mul (OvC.z0 hs)).add Cg.rfl).trans (Cg.of (by rw[CT,Dm]))
 have s1:=Tz hp hl z2 z3 ((pw ha λx hx=>(hR x hx).2.1).imp λ{x y} q=>by rw[gp1];exact q) (Ta.2 b hb (A8 ab)) (Ta.2 c hc (A8 ac)) λx hx=>by
  refine HF (Cg.trans (Cg.trans (Cg.of ?_) (cut (x:=Ak x b c) (y:=Ak a x c*Ay ta b+Ak a b x*Ay ta c) Ta.1).symm) (Cg.of ?_)) (B4 hp dz (Ta.2 x (hR x hx).1 (hR x hx).2.1))
  .grind
  .rw[LQ a b c x ta];omega
 have s2:=Tz hp hl z3 z1 ((pw hb λx hx=>(hR x hx).2.2.1).imp λ{x y} q=>by rw[gp2];exact q) (Tb.2 c hc (A8 bc)) (Tb.2 a ha ab) λx hx=>by
  refine HF (Cg.trans (Cg.trans (Cg.of ?_) (cut (x:=Ak a x c) (y:=Ak x b c*Ay tb a+Ak a b x*Ay tb c) Tb.1).symm) (Cg.of ?_)) (B4 hp dz (Tb.2 x (hR x hx).1 (hR x hx).2.2.1))
  .grind
  .rw[LQ a b c x tb];omega
 have s3:=Tz hp hl z1 z2 ((pw hc λx hx=>(hR x hx).2.2.2).imp λ{x y} q=>by rw[gp3];exact q) (Tc.2 a ha ac) (Tc.2 b hb bc) λx hx=>by
  refine HF (Cg.trans (Cg.trans (Cg.of ?_) (cut (x:=Ak a b x) (y:=Ak x b c*Ay tc a+Ak a x c*Ay tc b) Tc.1).symm) (Cg.of ?_)) (B4 hp dz (Tc.2 x (hR x hx).1 (hR x hx).2.2.2))
  .grind
  .rw[LQ a b c x tc];omega
 have pz:∀{f:R3->Ad}(S:Ac R3),(∀ x∈S,f x%p≠0)->Ü (S.map f)%p≠0:=λ{f} S=>by
  induction S with
  |nil=>intro _;show (1:Ad)%p≠0;rw[AI (by decide) (by have:=hp.lo;omega)];decide
  |cons x S ih=>exact λhS=>B4 hp (hS x Ax) (ih λy hy=>hS y (Av _ hy))
 have y1:=pz R z1;have y2:=pz R z2;have y3:=pz R z3;have m:=(s1.mul s2).mul s3;generalize Ü (R.map λx=>Ak x b c)=P1,Ü (R.map λx=>Ak a x c)=P2,Ü (R.map λx=>Ak a b x)=P3 at *
 have m2:(P1*P2*P3*(Ay ta c*Ay tb a*Ay tc b-Ay ta b*Ay tb c*Ay tc a))%p=0:=by
  have:=TM m;rw[<-this]
  congr 1
  grind
 exact Int.emod_eq_emod_iff_emod_sub_eq_zero.mpr ((FP hp (Ä hp y1 y2 y3)).mp m2)
noncomputable def sgK(a b c ta tb tc:R3):C6:=⟨0,0,0,Ay ta b*Ay tb a*Ay tc a,Ay ta c*Ay tb a*Ay tc a,Ay ta b*Ay tb c*Ay tc a⟩
noncomputable def ν(a b c ta tb tc:R3):C6:=pb (sgK a b c ta tb tc) (Z8 b c) (Z8 c a) (Z8 a b)
def TF(a b c ta tb tc x:R3):vI (ν a b c ta tb tc) x=Ay ta b*Ay tb a*Ay tc a*(Ak x b c*Ak a x c)+Ay ta c*Ay tb a*Ay tc a*(Ak x b c*Ak a b x)+Ay ta b*Ay tb c*Ay tc a*(Ak a x c*Ak a b x):=by
 have e1:Ay (Z8 b c) x=Ak x b c:=by unfold Ay Z8 Ak U0;simp only;grind
 have e2:Ay (Z8 c a) x=Ak a x c:=by unfold Ay Z8 Ak U0;simp only;grind
 have e3:Ay (Z8 a b) x=Ak a b x:=by unfold Ay Z8 Ak U0;simp only;grind
 unfold ν;rw[Uf];unfold ap;rw[e1,e2,e3];unfold vI sgK;simp only;grind
def nv(a b c ta tb tc:R3):Ak (ò (ν a b c ta tb tc)) (ó (ν a b c ta tb tc)) (ú (ν a b c ta tb tc))=(Ak a b c*Ak a b c)*(Ak a b c*Ak a b c)*(2*((Ay ta b*Ay tb a*Ay tc a)*(Ay ta c*Ay tb a*Ay tc a)*(Ay ta b*Ay tb c*Ay tc a))):=by
 unfold ν;rw[TW,show Ak (Z8 b c) (Z8 c a) (Z8 a b)=Ak a b c*Ak a b c by unfold Ak U0 Z8;simp only;grind]
 congr 1
 unfold sgK;generalize Ay ta b*Ay tb a*Ay tc a=u;generalize Ay ta c*Ay tb a*Ay tc a=v;generalize Ay ta b*Ay tb c*Ay tc a=w;unfold ò ó ú Ak U0;simp only;grind
def Ĥ(x u:R3):Ak x x u=0/\Ak x u x=0/\Ak u x x=0:=by
 unfold Ak U0;refine⟨?_,?_,?_⟩<;>grind
def o0{D:Ad}(hp:P4 p)(d0:D*tPP=c1*tPa+c2*tPb+c3*tPc)(hP:Cg p tPP 0)(da:Cg p (D*taP) (c2*ab+c3*ac))(db:Cg p (D*tbP) (c1*ba+c3*bc))(dc:Cg p (D*tcP) (c1*ca+c2*cb))(h1:Cg p (taP*ba*tPb) (ab*tbP*tPa))(h2:Cg p (taP*ca*tPc) (ac*tcP*tPa))(h3:Cg p (ac*ba*cb) (ab*bc*ca))(z:tPa%p≠0):(ab*ba*ca*(c1*c2)+ac*ba*ca*(c1*c3)+ab*bc*ca*(c2*c3))%p=0:=by
 have e0:Cg p (c1*tPa+c2*tPb+c3*tPc) 0:=(Cg.of d0.symm).trans ((Cg.rfl.mul hP).trans (Cg.of (CT D)));have e1:Cg p (taP*ba*ca*(c1*tPa+c2*tPb+c3*tPc)) 0:=(Cg.rfl.mul e0).trans (Cg.of (CT _));have e2:Cg p (tPa*(c1*taP*ba*ca+c2*ca*(ab*tbP)+c3*ba*(ac*tcP))) 0:=by
  refine Cg.trans (Cg.trans (Cg.of ?_) (((Cg.rfl (a:=c1*tPa*taP*ba*ca)).add (Cg.rfl (a:=c2*ca) |>.mul h1.symm)).add (Cg.rfl (a:=c3*ba) |>.mul h2.symm))) (Cg.trans (Cg.of ?_) e1)<;>(clear e0 e1 h1 h2 h3 da db dc d0 hP;grind)
 have e3:=(FP hp z).mp (Æ e2);have e4:Cg p (D*(c1*taP*ba*ca+c2*ca*(ab*tbP)+c3*ba*(ac*tcP))) 0:=(Cg.rfl.mul (OvC.z0 e3)).trans (Cg.of (CT D));have e5:Cg p (c1*ba*ca*(c2*ab+c3*ac)+c2*ca*ab*(c1*ba+c3*bc)+c3*ba*ac*(c1*ca+c2*cb)) 0:=by
  refine Cg.trans (((Cg.rfl.mul da.symm).add (Cg.rfl.mul db.symm)).add (Cg.rfl.mul dc.symm)) (Cg.trans (Cg.of ?_) e4)
  clear e0 e1 e2 e3 e4 h1 h2 h3 da db dc d0 hP;grind
 have e6:Cg p (2*(ab*ba*ca*(c1*c2)+ac*ba*ca*(c1*c3)+ab*bc*ca*(c2*c3))) 0:=by
  refine Cg.trans (Cg.trans (Cg.of ?_) ((Cg.rfl (a:=c1*ba*ca*(c2*ab+c3*ac)+c2*ca*ab*(c1*ba+c3*bc)+c3*ba*ac*(c1*ca))).add (Cg.rfl (a:=c2*c3) |>.mul h3.symm))) (Cg.trans (Cg.of ?_) e5)<;>(clear e0 e1 e2 e3 e4 e5 h1 h2 h3 da db dc d0 hP;grind)
 exact(FP hp (by rcases hp with rfl|rfl|rfl|rfl<;>decide)).mp (Æ e6)
def iG(hp:P4 p)(h:N3 p l)(len:(l.length:Ad)=p+1){a:R3}(ha:a∈l)(hb:b∈l)(hc:c∈l)(ab:a≠b)(ac:a≠c)(bc:b≠c):∃ C α β γ,ï p C/\A4 p C.l=Ab 1/\Ϛ p C/\(∀ x∈l,vI C x%p=0)/\α%p≠0/\ë p C (pb ⟨0,0,0,α,β,γ⟩ (Z8 b c) (Z8 c a) (Z8 a b))/\∀ x∈l,(α*(Ak x b c*Ak a x c)+β*(Ak x b c*Ak a b x)+γ*(Ak a x c*Ak a b x))%p=0:=by
 obtain⟨ta,Ta⟩:=Ps hp h len ha;obtain⟨tb,Tb⟩:=Ps hp h len hb;obtain⟨tc,Tc⟩:=Ps hp h len hc;have dz:=h.n3 a b c ha hb hc ab ac bc;have on:∀ x∈l,vI (ν a b c ta tb tc) x%p=0:=λx hx=>by
  rw[TF];by_cases xa:x=a
  .subst xa;rw[(Ĥ x c).1,(Ĥ x b).2.1];simp
  by_cases xb:x=b
  .subst xb;rw[(Ĥ x c).1,(Ĥ x a).2.2];simp
  by_cases xc:x=c
  .subst xc;rw[(Ĥ x b).2.1,(Ĥ x a).2.2];simp
  obtain⟨tx,Tx⟩:=Ps hp h len hx;have cut:∀{s:Ad}{x y:Ad},s%p=0->Cg p (x*s+y) y:=λ{s x y} hs=>((Cg.rfl.mul (OvC.z0 hs)).add Cg.rfl).trans (Cg.of (by rw[CT,Dm]))
  refine o0 hp (LQ a b c x tx) (OvC.z0 Tx.1) ((Cg.of ?_).trans (cut (x:=Ak x b c) Ta.1)) ((Cg.of ?_).trans (cut (x:=Ak a x c) Tb.1)) ((Cg.of ?_).trans (cut (x:=Ak a b x) Tc.1)) (Ud hp h len ha hb hx ab (A8 xa) (A8 xb) Ta Tb Tx) (Ud hp h len ha hc hx ac (A8 xa) (A8 xc) Ta Tc Tx) (Ud hp h len ha hb hc ab ac bc Ta Tb Tc) (Tx.2 a ha (A8 xa))
  .rw[LQ a b c x ta];omega
  .rw[LQ a b c x tb];omega
  .rw[LQ a b c x tc];omega
 have nz:∃ k,A4 p (ν a b c ta tb tc).l=Ab k:=by
  cases q:A4 p (ν a b c ta tb tc).l with
  |some k=>exact⟨k,rfl⟩
  |none=>
   exfalso
   have z:=J5.mp q;have k:∀{n:Ad},n∈(ν a b c ta tb tc).l->Cg p n 0:=λhn=>OvC.z0 (z _ hn)
   have q2:KK p (ν a b c ta tb tc) ⟨0,0,0,0,0,0⟩:=⟨k (by simp[C6.l]),k (by simp[C6.l]),k (by simp[C6.l]),k (by simp[C6.l]),k (by simp[C6.l]),k (by simp[C6.l])⟩
   have v:=Jr (x:=(a.1+b.1,a.2.1+b.2.1,a.2.2+b.2.2)) (x':=(a.1+b.1,a.2.1+b.2.1,a.2.2+b.2.2)) q2 ⟨Cg.rfl,Cg.rfl,Cg.rfl⟩;rw[TF]at v;have e1:Ak (a.1+b.1,a.2.1+b.2.1,a.2.2+b.2.2) b c=Ak a b c:=by unfold Ak U0;simp only;grind
   have e2:Ak a (a.1+b.1,a.2.1+b.2.1,a.2.2+b.2.2) c=Ak a b c:=by unfold Ak U0;simp only;grind
   have e3:Ak a b (a.1+b.1,a.2.1+b.2.1,a.2.2+b.2.2)=0:=by unfold Ak U0;simp only;grind
   rw[e1,e2,e3]at v;refine B4 hp (Ä hp (Ta.2 b hb (A8 ab)) (Tb.2 a ha ab) (Tc.2 a ha ac)) (B4 hp dz dz) (Æ ((Cg.of ?_).trans (v.trans (Cg.of ?_))))
   .simp
   .unfold vI;simp
 obtain⟨k,el⟩:=nz;obtain⟨t,D,it,eD,iD,lD,pD⟩:=Uz hp el;refine⟨D,_,_,_,iD,lD,SK hp pD ?_,λx hx=>?_,Ä hp (Ta.2 b hb (A8 ab)) (Tb.2 a ha ab) (Tc.2 a ha ac),pD,λx hx=>by rw[<-TF];exact on x hx⟩
 .have tz:=Ta.2 b hb (A8 ab);have tz':=Ta.2 c hc (A8 ac);have uz:=Tb.2 a ha ab;have uz':=Tb.2 c hc (A8 bc);have vz:=Tc.2 a ha ac;rw[nv];exact B4 hp (B4 hp (B4 hp dz dz) (B4 hp dz dz)) (B4 hp (by rcases hp with rfl|rfl|rfl|rfl<;>decide) (Ä hp (Ä hp tz uz vz) (Ä hp tz' uz vz) (Ä hp tz uz' vz)))
 obtain⟨d,dz,q⟩:=pD;have q:=Jr (x:=x) (x':=x) q ⟨Cg.rfl,Cg.rfl,Cg.rfl⟩;rw[Pq]at q;rw[show vI D x%p=_ from q]
 exact(FP hp dz).mpr (on x hx)
def MQ{D A α i:Ad}(hL:D*l=d1*G + -d2*B)(hM:D*m=d1*G + -d3*A)(ω:D*Le=e3*(d1*e2-d2*e1))(ϊ:D*Me=e2*(d1*e3-d3*e1))(hd:Cg p (α*(d1*d2)+β*(d1*d3)+γ*(d2*d3)) 0)(he:Cg p (α*(e1*e2)+β*(e1*e3)+γ*(e2*e3)) 0)(hi:Cg p (α*(D*D)*i) 1):Cg p (Me*l + -Le*m) (i*(d3*e3*(d1*e2-d2*e1))*(α*A+β*B+γ*G)):=by
 have e1':α*(D*D)*(Me*l + -Le*m)=α*((D*Me)*(D*l)-(D*Le)*(D*m)):=by clear hd he hi hL hM ω ϊ;grind
 rw[hL,hM,ω,ϊ]at e1';generalize hu:α*(d1*d2)+β*(d1*d3)+γ*(d2*d3)=vu,hw:α*(e1*e2)+β*(e1*e3)+γ*(e2*e3)=vw at *;have e2':α*(D*D)*(Me*l + -Le*m)=d3*e3*(d1*e2-d2*e1)*(α*A+β*B+γ*G)-((B*(e2*e3)-G*(e1*e3))*vu+(G*(d1*d3)-B*(d2*d3))*vw):=by
  rw[e1',<-hu,<-hw];clear hd he hi hL hM ω ϊ e1' hu hw;grind
 have e3':Cg p (α*(D*D)*(Me*l + -Le*m)) (d3*e3*(d1*e2-d2*e1)*(α*A+β*B+γ*G)):=(Cg.of e2').trans ((Cg.rfl.sub ((Cg.rfl.mul hd).add (Cg.rfl.mul he))).trans (Cg.of (by simp)))
 exact(LI hi).symm.trans ((Cg.of (by clear hd he hi hL hM ω ϊ e1' e2' e3' hu hw;grind)).trans ((Cg.rfl (a:=i).mul e3').trans (Cg.of (by clear hd he hi hL hM ω ϊ e1' e2' e3' hu hw;grind))))
def yb(hp:P4 p){a:R3}{α:Ad}(az:α%p≠0)(dz:Ak a b c%p≠0)(nd:Ak a b d%p≠0)(ne:Ak a b e%p≠0)(nc:Ak c d e%p≠0)(hd:(α*(Ak d b c*Ak a d c)+β*(Ak d b c*Ak a b d)+γ*(Ak a d c*Ak a b d))%p=0)(he:(α*(Ak e b c*Ak a e c)+β*(Ak e b c*Ak a b e)+γ*(Ak a e c*Ak a b e))%p=0):ë p (Fc a b c d e) (pb ⟨0,0,0,α,β,γ⟩ (Z8 b c) (Z8 c a) (Z8 a b)):=by
 obtain⟨iv,hiv⟩:=Zu hp;have hi:=hiv _ (B4 hp az (B4 hp dz dz));have iz:iv (α*(Ak a b c*Ak a b c))%p≠0:=λz=>by
  have q:_%p=1%p:=hi;rw[Be,z,CT,Bp,AI (by decide) (by have:=hp.lo;omega)]at q
  exact absurd q (by decide)
 have gz:Ak d b c*Ak a e c-Ak a d c*Ak e b c=Ak a b c*Ak c d e:=gp3 a b c d e;refine⟨iv (α*(Ak a b c*Ak a b c))*(Ak a b d*Ak a b e*(Ak d b c*Ak a e c-Ak a d c*Ak e b c)),B4 hp iz (B4 hp (B4 hp nd ne) (by rw[gz];exact B4 hp dz nc)),?_⟩
 have ω:Ak a b c*vI (ý (Z8 a b) (Z8 c d)) e=Ak a b e*(Ak d b c*Ak a e c-Ak a d c*Ak e b c):=by
  rw[Yh,Of,Of,gz];grind
 have ϊ:Ak a b c*vI (ý (Z8 a c) (Z8 b d)) e=Ak a e c*(Ak d b c*Ak a b e-Ak a b d*Ak e b c):=by
  have g2:=gp2 a b c d e;have sw:Ak a c e=-Ak a e c:=by unfold Ak U0;grind
  rw[Yh,Of,Of,sw];generalize Ak a b c=D,Ak a b d=d3,Ak e b c=e1,Ak d b c=d1,Ak a b e=e3,Ak b d e=g at *;grind
 have L:=oM a b c d;have M:=oJ a b c d;rw[SQ];unfold Fc;generalize vI (ý (Z8 a c) (Z8 b d)) e=Me,vI (ý (Z8 a b) (Z8 c d)) e=Le,ý (Z8 a b) (Z8 c d)=Lc,ý (Z8 a c) (Z8 b d)=Mc,ý (Z8 c a) (Z8 a b)=G,ý (Z8 b c) (Z8 c a)=A,ý (Z8 b c) (Z8 a b)=B at *;simp only[ù,ϰ,C6.mk.injEq]at L M;obtain⟨l0,l1,l2,l3',l4,l5⟩:=L;obtain⟨m0,m1,m2,m3,m4,m5⟩:=M;exact⟨MQ l0 m0 ω ϊ (z0 hd) (z0 he) hi,MQ l1 m1 ω ϊ (z0 hd) (z0 he) hi,MQ l2 m2 ω ϊ (z0 hd) (z0 he) hi,MQ l3' m3 ω ϊ (z0 hd) (z0 he) hi,MQ l4 m4 ω ϊ (z0 hd) (z0 he) hi,MQ l5 m5 ω ϊ (z0 hd) (z0 he) hi⟩
def nd5{a b c d e:α}(h:[a,b,c,d,e].Nodup):(a≠b/\a≠c/\a≠d/\a≠e)/\(b≠c/\b≠d/\b≠e)/\(c≠d/\c≠e)/\d≠e:=by
 simpa only[BO,Aw,A2,Ca,DR,Waa,Hv,LS] using h
def hV(hm:GR Z){a:R3}(hp:P4 p)(h:N3 p [a,b,c,d,e]):OG.run Z [.int p,Au [a,b,c,d,e]]=.ok .O:=by
 obtain⟨⟨ϔ,ι,ş,n04⟩,⟨Γ,Ŷ,n14⟩,⟨ŷ,n24⟩,n34⟩:=nd5 h.nd;have m:∀{x y z:R3},x∈[a,b,c,d,e]->y∈[a,b,c,d,e]->z∈[a,b,c,d,e]->Z.F 61 [.int p,Ai Aa x,Ai Aa y,Ai Aa z]=.ok (.int (Ak x y z%p)):=λhx hy hz=>hm p Aa _ _ _ hp.pos ((Cc hp (h.nf _ hx).1).b3 (by decide)) ((Cc hp (h.nf _ hy).1).b3 (by decide)) ((Cc hp (h.nf _ hz).1).b3 (by decide))
 have z:∀{x y u:R3}{q:Prop},x∈[a,b,c,d,e]->y∈[a,b,c,d,e]->u∈[a,b,c,d,e]->x≠y->x≠u->y≠u->¬ (Ak x y u%p=0/\q):=λhx hy hu n1 n2 n3 w=>h.n3 _ _ _ hx hy hu n1 n2 n3 w.1
 have ma:a∈[a,b,c,d,e]:=by simp
 have mb:b∈[a,b,c,d,e]:=by simp
 have mc:c∈[a,b,c,d,e]:=by simp
 have md:d∈[a,b,c,d,e]:=by simp
 have me:e∈[a,b,c,d,e]:=by simp
 rw[RA];exact oD (m ma mb mc) (m ma mb md) (m ma mb me) (m ma mc md) (m ma mc me) (m mb mc md) (m mb mc me) (z ma mb mc ϔ ι Γ) (z ma mb mc ϔ ι Γ) (z ma mb md ϔ ş Ŷ) (z ma mc md ι ş ŷ) (z mb mc md Γ Ŷ ŷ)
def iA(hj:PH Z)(hl:YE Z)(hv:YC Z)(hc:PK Z){a:R3}(hp:P4 p)(iC:ï p C)(lC:A4 p C.l=Ab 1)(h:N3 p [a,b,c,d,e])(fp:ë p (Fc a b c d e) C):OF.run Z [.int p,Au [a,b,c,d,e]]=.ok (BY C):=by
 obtain⟨⟨ϔ,ι,ş,n04⟩,⟨Γ,Ŷ,n14⟩,⟨ŷ,n24⟩,n34⟩:=nd5 h.nd;have na:=h.nf a (by simp)
 have nb:=h.nf b (by simp)
 have nc:=h.nf c (by simp)
 have nd:=h.nf d (by simp)
 have ne:=h.nf e (by simp)
 obtain⟨y01,i01,_,p01,e01⟩:=hj p a b hp na.1 nb.1 na.2 nb.2 ϔ;obtain⟨y23,i23,_,p23,e23⟩:=hj p c d hp nc.1 nd.1 nc.2 nd.2 ŷ;obtain⟨y02,i02,_,p02,e02⟩:=hj p a c hp na.1 nc.1 na.2 nc.2 ι;obtain⟨y13,i13,_,p13,e13⟩:=hj p b d hp nb.1 nd.1 nb.2 nd.2 Ŷ;have pr:=(yd hp (Xi hp p01 p23) (Xi hp p02 p13) e).trans hp fp;obtain⟨l,el⟩:=tH hp lC pr;obtain⟨t,D,it,eD,iD,lD,pD⟩:=Uz hp el;have ec:=hc p Ae _ l t hp el it;rw[eD]at ec;have eq:=rO hp iD iC lD lC (pD.trans hp pr);subst eq;have bd:∀ n:Ad,Bd 10 (n%p):=λn=>KY hp (A3 _ (by have:=hp.pos;omega)) (AV _ hp.pos)
 rw[RA];exact yc (PC hp i01 i23) (PC hp i02 i13) (bd _) (bd _) e01 e23 (hl p _ _ hp i01 i23) e02 e13 (hl p _ _ hp i02 i13) (hv p _ _ hp (PC hp i02 i13) ne.1) (hv p _ _ hp (PC hp i01 i23) ne.1) ec
def jh(Z:Z2):Prop:=∀(p:Ad)(C:C6)(a b c d e:R3),P4 p->ï p C->A4 p C.l=Ab 1->N3 p [a,b,c,d,e]->ë p (Fc a b c d e) C->Z.F 198 [.int p,Au [a,b,c,d,e]]=.ok (BY C)
def zp(hp:P4 p)(h:Ig p f0 f1 f2 f3):Ĺ p (ß p f0 f1 f2 f3) (à p f0 f1 f2 f3) (á p f0 f1 f2 f3) Μ Ν e2R e3R f0 f1 f2 f3:=by
 obtain⟨h1,h2,h3,h4⟩:=h;have k0:Ak f3 f1 f2%p≠0:=by rw[show Ak f3 f1 f2=Ak f1 f2 f3 by unfold Ak U0;grind];exact h4
 have k1:Ak f0 f3 f2%p≠0:=by rw[show Ak f0 f3 f2=-1*Ak f0 f2 f3 by unfold Ak U0;grind];exact B4 hp hp.m1 h3
 refine⟨Pr.symm hp ⟨fk0 p f0 f1 f2 f3,ML k0,Z5.of ?_⟩,Pr.symm hp ⟨fk1 p f0 f1 f2 f3,ML k1,Z5.of ?_⟩,Pr.symm hp ⟨fk2 p f0 f1 f2 f3,ML h2,Z5.of ?_⟩,Pr.symm hp ⟨Ak f0 f1 f2,h1,?_⟩⟩
 .unfold ap ß à á BL BG BF ϝ Ξ Τ Μ Ay AU;simp
 .unfold ap ß à á BL BG BF ϝ Ξ Τ Ν Ay AU;simp
 .unfold ap ß à á BL BG BF ϝ Ξ Τ e2R Ay AU;simp
 .have w:=lR f0 f1 f2 f3;rw[w];have m0:Cg p (fk0 p f0 f1 f2 f3) (Ak f3 f1 f2):=Cg.md rfl;have m1:Cg p (fk1 p f0 f1 f2 f3) (Ak f0 f3 f2):=Cg.md rfl;have m2:Cg p (fk2 p f0 f1 f2 f3) (Ak f0 f1 f3):=Cg.md rfl;unfold ap ß à á BL BG BF ϝ Ξ Τ e3R Ay AU;simp only[DK];exact⟨((m0.mul Cg.rfl).add (m1.mul Cg.rfl)).add (m2.mul Cg.rfl),((m0.mul Cg.rfl).add (m1.mul Cg.rfl)).add (m2.mul Cg.rfl),((m0.mul Cg.rfl).add (m1.mul Cg.rfl)).add (m2.mul Cg.rfl)⟩
def XU(hp:P4 p)(h:Ig p f0 f1 f2 f3):∃ a b c,U7 p a b c/\Ĺ p a b c Μ Ν e2R e3R f0 f1 f2 f3:=by
 obtain⟨l,t,_,_,tz,gd,l1⟩:=Vw hp (Uy hp h);obtain⟨q0,q1,q2,q3⟩:=zp hp h;have k:∀ x,Pr p (ap (ß p f0 f1 f2 f3) (à p f0 f1 f2 f3) (á p f0 f1 f2 f3) x) (ap (Z3 p t (ß p f0 f1 f2 f3)) (Z3 p t (à p f0 f1 f2 f3)) (Z3 p t (á p f0 f1 f2 f3)) x):=λx=>Pr.symm hp (Pr.tab tz (FI p t _) (FI p t _) (FI p t _))
 exact⟨_,_,_,gd,q0.trans hp (k _),q1.trans hp (k _),q2.trans hp (k _),q3.trans hp (k _)⟩
def uI(hk:UH Z)(hf:QM Z)(hb:PL Z)(ha:Tu Z)(hp:P4 p)(F:ğ p f0 f1 f2 f3)(G:ğ p g0 g1 g2 g3):∃ a b c,U7 p a b c/\Ĺ p a b c f0 f1 f2 f3 g0 g1 g2 g3/\Mg.run Z [.int p,EW f0 f1 f2 f3,EW g0 g1 g2 g3]=.ok (Cu a b c):=by
 obtain⟨a,b,c,T,L⟩:=XU hp F.gen;obtain⟨a',b',c',T',L'⟩:=XU hp G.gen;obtain⟨x,y,z,gT,l1,Ld⟩:=kK hp T T' L L';refine⟨x,y,z,gT,Ld,?_⟩;obtain⟨⟨d0,n0,h0⟩,⟨d1,n1,h1⟩,⟨d2,n2,h2⟩,⟨d3,n3,h3⟩⟩:=Ld;exact xU hk hf hb ha gT.p4 gT.ia gT.ib gT.ic gT.nz l1 F.i0 F.i1 F.i2 F.i3 F.gen G.i0 G.i1 G.i2 G.i3 n0 n1 n2 n3 h0 h1 h2 h3
structure HC74 (Z:Z2):Prop where
 pc:∀ p,P4 p->Z.F 123 [.int p]=.ok (BY (pl p))
 po:∀ p C,P4 p->ï p C->Z.F 128 [.int p,BY C]=.ok (Au (Kb p C))
 mv:∀(p:Ad)(f0 f1 f2 f3 g0 g1 g2 g3:R3),P4 p->ğ p f0 f1 f2 f3->ğ p g0 g1 g2 g3->∃ a b c,U7 p a b c/\Ĺ p a b c f0 f1 f2 f3 g0 g1 g2 g3/\Z.F 112 [.int p,EW f0 f1 f2 f3,EW g0 g1 g2 g3]=.ok (Cu a b c)
 md:∀(p:Ad)(C:C6)(a b c:R3),ï p C->A4 p C.l=Ab 1->U7 p a b c->∃ E:C6,ï p E/\A4 p E.l=Ab 1/\ë p E (pb C (bk0 a b c) (bk1 a b c) (bk2 a b c))/\Z.F 133 [.int p,BY C,Cu a b c]=.ok (BY E)
 th:jh Z
def qh(h:HC74 Z)(hp:P4 p)(n3:N3 p pts)(hl:(pts.length:Ad)=p+1):∃ C:C6,ï p C/\A4 p C.l=Ab 1/\Ϛ p C/\(∀ x∈pts,vI C x%p=0)/\Mo.run Z [.int p,Au pts]=.ok (BY C):=by
 have ln:=Hz pts;by_cases p3:p=3
 .subst p3;obtain⟨a,b,c,d,rfl⟩:=mO (l:=pts) (by omega)
  have nd:=n3.nd;simp only[BO,Aw,A2,Ca,DR,Waa,Hv,LS]at nd;obtain⟨⟨ϔ,ι,ş⟩,⟨Γ,Ŷ⟩,ŷ⟩:=nd;have G:ğ 3 a b c d:=⟨(n3.nf _ (by simp)).1,(n3.nf _ (by simp)).1,(n3.nf _ (by simp)).1,(n3.nf _ (by simp)).1,n3.n3 _ _ _ (by simp) (by simp) (by simp) ϔ ι Γ,n3.n3 _ _ _ (by simp) (by simp) (by simp) ϔ ş Ŷ,n3.n3 _ _ _ (by simp) (by simp) (by simp) ι ş ŷ,n3.n3 _ _ _ (by simp) (by simp) (by simp) Γ Ŷ ŷ⟩
  have F:ğ 3 (0,0,1) (1,0,0) (1,1,1) (1,2,1):=⟨by unfold Z4;decide,by unfold Z4;decide,by unfold Z4;decide,by unfold Z4;decide,by unfold Ig;decide⟩
  have iC:ï 3 (pl 3):=by unfold ï;decide
  have lC:A4 3 (pl 3).l=Ab 1:=by decide
  have wC:Ϛ 3 (pl 3):=by unfold Ϛ;decide
  have po:=h.po 3 (pl 3) hp iC;rw[show Kb 3 (pl 3)=[(0,0,1),(1,0,0),(1,1,1),(1,2,1)] by decide]at po
  obtain⟨x,y,z,gT,L,mv⟩:=h.mv 3 _ _ _ _ _ _ _ _ hp F G;obtain⟨E,iE,lE,pE,md⟩:=h.md 3 (pl 3) x y z iC lC gT;have zB:Ak (bk0 x y z) (bk1 x y z) (bk2 x y z)%3≠0:=by rw[MF];exact B4 hp gT.nz gT.nz
  have on:∀{f g:R3},vI (pl 3) f%3=0->Pr 3 g (ap x y z f)->vI E g%3=0:=λ{f g} hf hg=>by
   rw[Y_5 hp hg];obtain⟨d,dz,q⟩:=pE;have q:=Jr (x:=ap x y z f) (x':=ap x y z f) q ⟨Cg.rfl,Cg.rfl,Cg.rfl⟩;rw[Pq]at q;rw[show vI E (ap x y z f)%3=_ from q]
   refine(FP hp dz).mpr ?_;rw[Uf,Qk];exact(Y_5 hp ⟨Ak x y z,gT.nz,Z5.rfl⟩).mpr hf
  refine⟨E,iE,lE,SK hp pE (jc hp zB wC),λu hu=>?_,ui ln (by simp) (h.pc 3 hp) po mv md⟩
  simp only[Aw,A2,Ca]at hu;rcases hu with rfl|rfl|rfl|rfl
  .exact on (by decide) L.h0
  .exact on (by decide) L.h1
  .exact on (by decide) L.h2
  .exact on (by decide) L.h3
 .have p5:5<=p:=by rcases hp with rfl|rfl|rfl|rfl<;>omega
  have sl:=PU pts (i:=5) (by decide)
  obtain⟨a,b,c,d,e,e5⟩:=mM (l:=pts.take 5) (by rw[ER];omega)
  have s5:N3 p [a,b,c,d,e]:=by rw[<-e5];exact n3.sub (Gy 5 pts)
  have mm:∀ x∈[a,b,c,d,e],x∈pts:=λx hx=>aE (e5 ▸ hx)
  obtain⟨⟨ϔ,ι,ş,n04⟩,⟨Γ,Ŷ,n14⟩,⟨ŷ,n24⟩,n34⟩:=nd5 s5.nd;have ma:=mm a (by simp)
  have mb:=mm b (by simp)
  have mc:=mm c (by simp)
  have md:=mm d (by simp)
  have me:=mm e (by simp)
  obtain⟨C,α,β,γ,iC,lC,wC,on,az,pC,q⟩:=iG hp n3 hl ma mb mc ϔ ι Γ;have th:=h.th p C _ _ _ _ _ hp iC lC s5 ((yb hp az (n3.n3 _ _ _ ma mb mc ϔ ι Γ) (n3.n3 _ _ _ ma mb md ϔ ş Ŷ) (n3.n3 _ _ _ ma mb me ϔ n04 n14) (n3.n3 _ _ _ mc md me ŷ n24 n34) (q d md) (q e me)).trans hp (ë.symm hp pC));rw[<-e5]at th;exact⟨C,iC,lC,wC,on,ug ln (by omega) sl th⟩
noncomputable def Rr:Df:=⟨8,Ae,{.asgT [2,3,4,5,6,7] (.v 1),.ret (.L {.L {.B .Mod (.B .Mult (.int 2) (.v 2)) (.v 0),.v 5,.v 6},.L {.v 5,.B .Mod (.B .Mult (.int 2) (.v 3)) (.v 0),.v 7},.L {.v 6,.v 7,.B .Mod (.B .Mult (.int 2) (.v 4)) (.v 0)}})}⟩
noncomputable def QW:E:=(.B .Mult (.v 7) (.v 8))
noncomputable def Ra:Df:=⟨9,Ae,{.asgT [3,4,5] (.v 2),.asg 6 Ae (.H {.B .Mult (.v 3) (.v 3),.B .Mult (.v 4) (.v 4),.B .Mult (.v 5) (.v 5),.B .Mult (.v 3) (.v 4),.B .Mult (.v 3) (.v 5),.B .Mult (.v 4) (.v 5)}),.ret (.B .Mod (.bi .sum {.compT QW [7,8] (.zip (.v 1) (.v 6)) B6}) (.v 0))}⟩
noncomputable def Om:E:=(.cmp .Eq (.call 247 {.v 0,.v 2,.v 4}) (.int 0))
noncomputable def L8:Df:=⟨5,Ae,{.ife (.or {.cmp .NotEq (.bi .len {.v 1}) (.B .Add (.v 0) (.int 1)),.no (.call 237 {.v 0,.v 2,.int 6})}) {.ret (.bl Ae)} .nil,.asg 3 Ae (.call 246 {.v 0,.v 2}),.ife (.cmp .Eq (.call 233 {.v 0,.call 232 {.v 0,.x (.v 3) (.int 0),.x (.v 3) (.int 1)},.x (.v 3) (.int 2)}) (.int 0)) {.ret (.bl Ae)} .nil,.ret (.bi .all {.comp Om 4 (.e (.v 1)) B6})}⟩
def sU{g:α->Ad}:∀{l:Ac α},IY (l.map g)=Aa->∀ x∈l,∀ y∈l,g x=g y->x=y:=by
 intro l
 induction l with
 |nil=>intro _ x hx;cases hx
 |cons a r ih=>
  intro h x hx y hy e;obtain⟨h1,h2⟩:=(Ap _ _).mp (show (!(r.map g).contains (g a)&&IY (r.map g))=Aa from h)
  have na:∀ z∈r,g z≠g a:=λz hz q=>by
   have:(r.map g).contains (g a)=Aa:=List.contains_iff_mem.mpr (q ▸ aD hz);rw[this]at h1;cases h1
  rcases Aw.mp hx with ŝ|ŝ<;>rcases Aw.mp hy with Ć|Ć
  .exact ŝ.trans Ć.symm
  .exact absurd (ŝ ▸ e).symm (na y Ć)
  .exact absurd (Ć ▸ e) (na x ŝ)
  .exact ih h2 x ŝ y Ć e
noncomputable def ų(x:R3):Ad:=GV [x.1,x.2.1,x.2.2]
def zg(hp:P4 p):IY ((Cr p).map ų)=Aa:=by
 rcases hp with rfl|rfl|rfl|rfl<;>decide+kernel
def wg(hp:P4 p){x:R3}(hx:NF p x)(hy:NF p y)(hu:NF p u)(n1:x≠y)(n2:x≠u)(n3:y≠u):Tm .lset [.H [Ai Aa x,Ai Aa y,Ai Aa u]]=.ok (.int 3):=by
 have θ:∀{x y:R3},NF p x->NF p y->x≠y->ų x≠ų y:=λ{x y} hx hy ne z=>ne (sU (zg hp) x ((FG hp).mpr hx) y ((FG hp).mpr hy) z)
 have h1:=θ hx hy n1;have h2:=θ hx hu n2;have h3:=θ hy hu n3;have k:IY [ų x,ų y,ų u]=Aa:=by
  simp[IY,h1,h2,h3]
 show (if (Aa&&IY [ų x,ų y,ų u])=Aa then R.ok (D.int 3) else R.bad)=_
 rw[k];rfl
def Ye(nd:pts.Nodup)(h:ü p pts=Ab d):∃ x y z,x∈pts/\y∈pts/\z∈pts/\x≠y/\x≠z/\y≠z/\Ak x y z%p=0/\d=.H [Ai Aa x,Ai Aa y,Ai Aa z]:=by
 unfold ü at h;obtain⟨i,hi,h⟩:=CH h;unfold ο at h;obtain⟨m,hm,h⟩:=CH h;unfold π at h;obtain⟨n,hn,h⟩:=CH h;have a:=A9.mp hi;have b:=A9.mp hm;have c:=A9.mp hn;have mem:∀{k:Ag},k<pts.length->Y9 pts k∈pts:=λ{k} hk=>by
  rw[J6 hk];exact CI hk
 have ne:∀{k l:Ag},k<l->l<pts.length->Y9 pts k≠Y9 pts l:=λ{k l} h1 h2 z=>by
  rw[J6 (by omega),J6 h2]at z
  have:=(IB nd).mp z;omega
 unfold ς at h;split at h
 .rename_i z;cases h;exact⟨_,_,_,mem (by omega),mem (by omega),mem (by omega),ne (by omega) (by omega),ne (by omega) (by omega),ne (by omega) (by omega),z,rfl⟩
 .cases h
def Uc(Z:Z2):Prop:=∀(p:Ad)(x:R3),P4 p->NF p x->Z.F 237 [.int p,Ai Aa x,.int 3]=.ok (.bl Aa)
def XA(gx:∀ x,g x=.ok Aa)(h1:f X=.ok (.bl Aa))(h2:f Y_=.ok (.bl Aa))(h3:f Z_=.ok (.bl Aa)):Bz g f [X,Y_,Z_]=.ok [.bl Aa,.bl Aa,.bl Aa]:=by
 simp[Bz,gx,h1,h2,h3]
noncomputable def ϧ(p:Ad)(C:C6):R3:=(2*C.c0%p,C.c3,C.c4)
noncomputable def Ϩ(p:Ad)(C:C6):R3:=(C.c3,2*C.c1%p,C.c5)
noncomputable def ϗ(p:Ad)(C:C6):R3:=(C.c4,C.c5,2*C.c2%p)
def jg(Z:Z2):Prop:=∀(p:Ad)(C:C6),P4 p->Z.F 246 [.int p,BY C]=.ok (FR (ϧ p C) (Ϩ p C) (ϗ p C))
def xO(C:C6)(hp:P4 p):Rr.run Z [.int p,BY C]=.ok (FR (ϧ p C) (Ϩ p C) (ϗ p C)):=by
 obtain⟨c0,c1,c2,c3,c4,c5⟩:=C;have p0:=hp.pos;have m:∀ x,Ey 2 x=Aa:=λx=>IT (by decide) (by decide)
 have as:∀ U:Rho,LK [2,3,4,5,6,7] (BY ⟨c0,c1,c2,c3,c4,c5⟩) U=.ok ((((((U.set 2 (si c0)).set 3 (si c1)).set 4 (si c2)).set 5 (si c3)).set 6 (si c4)).set 7 (si c5)):=λ_=>rfl
 have e:FR (ϧ p ⟨c0,c1,c2,c3,c4,c5⟩) (Ϩ p ⟨c0,c1,c2,c3,c4,c5⟩) (ϗ p ⟨c0,c1,c2,c3,c4,c5⟩)=.L [.L [.int (2*c0%p),.int c3,.int c4],.L [.int c3,.int (2*c1%p),.int c5],.L [.int c4,.int c5,.int (2*c2%p)]]:=rfl;rw[e];generalize BY ⟨c0,c1,c2,c3,c4,c5⟩=X at *;simp[Rr,Df.run,Bc,as,m,p0]
def jm(Z:Z2):Prop:=∀(p:Ad)(C:C6)(x:R3),P4 p->ï p C->Z4 p x->Z.F 247 [.int p,BY C,Ai Aa x]=.ok (.int (vI C x%p))
def xW(C:C6)(x:R3)(hp:P4 p)(iC:ï p C)(ix:Z4 p x):Ra.run Z [.int p,BY C,Ai Aa x]=.ok (.int (vI C x%p)):=by
 have p0:=hp.pos;have bC:=iC.b hp;have bx:=Cc hp ix;have k:∀ {u v},Bd 10 u->Bd 10 v->E5 u v=Aa:=λhu hv=>GB hu hv (by decide) (by decide)
 have k2:∀ {u v w},Bd 10 u->Bd 10 v->Bd 10 w->E5 u (v*w)=Aa:=λhu hv hw=>GB hu (hv.mul hw) (by decide) (by decide)
 obtain⟨c0,c1,c2,c3,c4,c5⟩:=C;obtain⟨x0,x1,x2⟩:=x;have q00:=k bx.1 bx.1;have q11:=k bx.2.1 bx.2.1;have q22:=k bx.2.2 bx.2.2;have q01:=k bx.1 bx.2.1;have q02:=k bx.1 bx.2.2;have q12:=k bx.2.1 bx.2.2;have m0:=k2 bC.b0 bx.1 bx.1;have m1:=k2 bC.b1 bx.2.1 bx.2.1;have m2:=k2 bC.b2 bx.2.2 bx.2.2;have m3:=k2 bC.b3 bx.1 bx.2.1;have m4:=k2 bC.b4 bx.1 bx.2.2;have m5:=k2 bC.b5 bx.2.1 bx.2.2;simp only at q00 q11 q22 q01 q02 q12 m0 m1 m2 m3 m4 m5;have sC:Ct (BY ⟨c0,c1,c2,c3,c4,c5⟩)=.ok [.int c0,.int c1,.int c2,.int c3,.int c4,.int c5]:=rfl;have as:∀ U:Rho,LK [3,4,5] (Ai Aa (x0,x1,x2)) U=.ok (((U.set 3 (si x0)).set 4 (si x1)).set 5 (si x2)):=λ_=>rfl
 have ev:vI ⟨c0,c1,c2,c3,c4,c5⟩ (x0,x1,x2)=c0*(x0*x0)+c1*(x1*x1)+c2*(x2*x2)+c3*(x0*x1)+c4*(x0*x2)+c5*(x1*x2):=by
  unfold vI;simp only;grind
 rw[ev];generalize BY ⟨c0,c1,c2,c3,c4,c5⟩=cC,Ai Aa (x0,x1,x2)=xx,hz0:x0*x0=z0,hz1:x1*x1=z1,hz2:x2*x2=z2,hz3:x0*x1=z3,hz4:x0*x2=z4,hz5:x1*x2=z5 at *;have cp:Bz (Λ Z [si p,sh cC,sh xx,si x0,si x1,si x2,sh (.H [.int z0,.int z1,.int z2,.int z3,.int z4,.int z5]),Af,Af] [7,8] B6) (ϐ Z [si p,sh cC,sh xx,si x0,si x1,si x2,sh (.H [.int z0,.int z1,.int z2,.int z3,.int z4,.int z5]),Af,Af] [7,8] QW) (EK [.int c0,.int c1,.int c2,.int c3,.int c4,.int c5] [.int z0,.int z1,.int z2,.int z3,.int z4,.int z5])=.ok [.int (c0*z0),.int (c1*z1),.int (c2*z2),.int (c3*z3),.int (c4*z4),.int (c5*z5)]:=by
  simp[Bz,Λ,ϐ,EK,QW,B6,m0,m1,m2,m3,m4,m5]
 generalize hs:c0*z0+c1*z1+c2*z2+c3*z3+c4*z4+c5*z5=s;have sm:HH 0 [.int (c0*z0),.int (c1*z1),.int (c2*z2),.int (c3*z3),.int (c4*z4),.int (c5*z5)]=.ok s:=by rw[<-hs];simp[HH]
 simp[Ra,Df.run,Bc,as,q00,q11,q22,q01,q02,q12,hz0,hz1,hz2,hz3,hz4,hz5,sC,cp,sm,p0]
def uh{T L:D}(ln:Tm .len [T]=.ok (.int n))(hn:n=p+1)(ef:Z.F 237 [.int p,C,.int 6]=.ok (.bl Aa))(et:Z.F 246 [.int p,C]=.ok RW)(x0:BR RW (.int 0)=.ok R0)(x1:BR RW (.int 1)=.ok R1)(x2:BR RW (.int 2)=.ok R2)(ec:Z.F 232 [.int p,R0,R1]=.ok L)(es:Z.F 233 [.int p,L,R2]=.ok (.int v))(vz:v≠0)(sq:Ct T=.ok xs)(cp:Bz (cG Z [si p,sh T,sh C,sh RW,Af] 4 B6) (cF Z [si p,sh T,sh C,sh RW,Af] 4 Om) xs=.ok BB)(al:Gj BB=.ok Aa):L8.run Z [.int p,T,C]=.ok (.bl Aa):=by
 subst hn;simp[L8,Df.run,Bc,ln,ef,et,x0,x1,x2,ec,es,vz,sq,cp,al]
def PD(L:Ac α):Gj (L.map λ_=>D.bl Aa)=.ok Aa:=by
 induction L with
 |nil=>rfl
 |cons x L ih=>rw[BA];show (Gj (L.map λ_=>D.bl Aa)).bind _=_;rw[ih];rfl
def yB(hf:X1 Z)(ht:jg Z)(hv:jm Z)(hc:Jk Z)(hs:IQ Z)(hp:P4 p)(np:∀ x∈pts,NF p x)(hl:(pts.length:Ad)=p+1)(iC:ï p C)(lC:A4 p C.l=Ab 1)(wC:Ϛ p C)(on:∀ x∈pts,vI C x%p=0):L8.run Z [.int p,Au pts,BY C]=.ok (.bl Aa):=by
 have p0:=hp.pos;have ef:Z.F 237 [.int p,BY C,.int 6]=.ok (.bl Aa):=hf p C.l p0 iC lC;have et:=ht p C hp;have md:∀ n:Ad,0<=n%p/\n%p<p:=λn=>⟨A3 _ (by omega),AV _ p0⟩
 have i3:=iC C.c3 (by simp[C6.l])
 have i4:=iC C.c4 (by simp[C6.l])
 have i5:=iC C.c5 (by simp[C6.l])
 have b0:B3 (ϧ p C):=(Cc hp (show Z4 p (ϧ p C) from ⟨md _,i3,i4⟩)).b3 (by decide)
 have b1:B3 (Ϩ p C):=(Cc hp (show Z4 p (Ϩ p C) from ⟨i3,md _,i5⟩)).b3 (by decide)
 have b2:B3 (ϗ p C):=(Cc hp (show Z4 p (ϗ p C) from ⟨i4,i5,md _⟩)).b3 (by decide)
 have ec:=hc p Ae Ae (ϧ p C) (Ϩ p C) p0 b0 b1;have es:=hs p Aa Ae (ö p (Z8 (ϧ p C) (Ϩ p C))) (ϗ p C) p0 ((Cc hp (N2 p0 _)).b3 (by decide)) b2
 have q:Ay (ö p (Z8 (ϧ p C) (Ϩ p C))) (ϗ p C)%p≠0:=by
  have c:=F5 (Z5.md (p:=p) (a:=ö p (Z8 (ϧ p C) (Ϩ p C))) _root_.rfl) (Z5.rfl (a:=ϗ p C));have d:Ay (Z8 (ϧ p C) (Ϩ p C)) (ϗ p C)=Ak (ϧ p C) (Ϩ p C) (ϗ p C):=by unfold Ay Z8 Ak U0;grind
  rw[d]at c;have m:∀ n:Ad,Cg p (n%p) n:=λn=>AY n (BD p)
  exact HF (c.trans (KP (a':=ò C) (b':=ó C) (c':=ú C) ⟨m _,Cg.rfl,Cg.rfl⟩ ⟨Cg.rfl,m _,Cg.rfl⟩ ⟨Cg.rfl,Cg.rfl,m _⟩)) wC
 have cp:=KO (g:=cG Z [si p,sh (Au pts),sh (BY C),sh (FR (ϧ p C) (Ϩ p C) (ϗ p C)),Af] 4 B6) (f:=cF Z [si p,sh (Au pts),sh (BY C),sh (FR (ϧ p C) (Ϩ p C) (ϗ p C)),Af] 4 Om) (Ai Aa) (λ_=>Aa) (λ_=>D.bl Aa) pts λx hx=>⟨rfl,λ_=>by
  have e:=hv p C x hp iC (np x hx).1;rw[on x hx]at e;generalize Au pts=T;generalize BY C=cC at *;generalize FR (ϧ p C) (Ϩ p C) (ϗ p C)=RR;generalize Ai Aa x=X at *;simp[cF,Om,e]⟩
 exact uh (Hz pts) hl ef et rfl rfl rfl ec es q rfl cp (PD _)
def uo{pts:Ac R3}(hz:pts.length<=1000):De 0 (pts.length:Ad)=.ok (Dx 0 pts.length):=by
 have k:∀(N:Ad)(n:Ag),N=n->N<=1000->De 0 N=.ok (Dx 0 n):=λN n h1 h2=>by
  have:=NC (lo:=0) (hi:=N) (by decide) (by decide) (by omega) (by omega)
  rwa [G5,show N.toNat=n by omega]at this
 exact k _ _ rfl (by omega)
def Yx{a:R3}:∀{l:Ac R3},l.Nodup->(a,b)∈ϴ l->a≠b
 |[],_,h=>by cases h
 |c::r,nd,h=>by
  obtain⟨n1,n2⟩:=BO.mp nd;rcases C5.mp (show (a,b)∈r.map (λb=>(c,b))++ϴ r from h) with h|h
  .obtain⟨d,hd,e⟩:=A7.mp h
   injection e with e1 e2
   subst e1 e2;exact λz=>n1 (z ▸ hd)
  .exact Yx n2 h
def S6{α:Type}(f g:α->D):∀ L:Ac α,EK (L.map f) (L.map g)=L.map λx=>D.H [f x,g x]
 |[]=>rfl
 |x::L=>by rw[BA,BA,BA,EK,S6 f g L]
structure HL74 (Z:Z2) (ns:Ac Ad):Prop where
 tb:ji Z ns
 ov:Zyv Z
 ord:jk Z ns
 mix:KR Z 228 ns
 pt:N9 Z
noncomputable def Sd:Df:=⟨2,Ae,{.ret (.and {.isi (.v 1) [.int],.no (.isi (.v 1) [.bool]),.cmp2 .LtE .Lt (.int 0) (.v 1) (.v 0)})}⟩
noncomputable def OJ:Df:=⟨2,Ae,{.ret (.and {.isi (.v 0) [.tuple],.cmp .Eq (.bi .len {.v 0}) (.v 1)})}⟩
noncomputable def OE:E:=(.call 323 {.v 0,.v 3})
noncomputable def O7:Df:=⟨4,Ae,{.ife (.no (.call 324 {.v 1,.v 2})) {.ret (.bl Ae)} .nil,.ife (.no (.bi .all {.comp OE 3 (.e (.v 1)) B6})) {.ret (.bl Ae)} .nil,.ret (.and {.bi .any {.v 1},.cmp .Eq (.call 17 {.v 0,.v 1}) (.v 1)})}⟩
noncomputable def O6:Df:=⟨3,Ae,{.ret (.and {.call 325 {.v 0,.v 2,.int 3},.cmp .In (.v 2) (.v 1)})}⟩
noncomputable def Nu:E:=(.call 326 {.v 0,.v 1,.v 3})
noncomputable def Nx:Df:=⟨4,Ae,{.ife (.or {.no (.call 324 {.v 2,.int 3}),.no (.bi .all {.comp Nu 3 (.e (.v 2)) B6})}) {.ret (.bl Ae)} .nil,.ife (.or {.cmp .Eq (.x (.v 2) (.int 0)) (.x (.v 2) (.int 1)),.cmp .Eq (.x (.v 2) (.int 0)) (.x (.v 2) (.int 2)),.cmp .Eq (.x (.v 2) (.int 1)) (.x (.v 2) (.int 2))}) {.ret (.bl Ae)} .nil,.ret (.cmp .Eq (.call 61 {.v 0,.x (.v 2) (.int 0),.x (.v 2) (.int 1),.x (.v 2) (.int 2)}) (.int 0))}⟩
noncomputable def Oy:Df:=⟨3,Ae,{.ret (.and {.call 325 {.v 0,.v 2,.int 6},.call 136 {.v 0,.v 2},.cmp .Eq (.call 128 {.v 0,.v 2}) (.bi .sorted {.v 1})})}⟩
noncomputable def Op:Df:=⟨3,Ae,{.ret (.and {.call 325 {.v 0,.v 2,.int 3},.cmp .NotIn (.v 2) (.v 1),.cmp .Is (.call 65 {.v 0,.B .Add (.v 1) (.L {.v 2})}) .O})}⟩
noncomputable def OD:Df:=⟨4,Ae,{.ife (.or {.no (.call 324 {.v 3,.int 3}),.no (.call 325 {.v 0,.x (.v 3) (.int 0),.int 3}),.cmp .NotEq (.x (.v 3) (.int 0)) (.v 2)}) {.ret (.bl Ae)} .nil,.ife (.or {.no (.call 326 {.v 0,.v 1,.x (.v 3) (.int 1)}),.no (.call 326 {.v 0,.v 1,.x (.v 3) (.int 2)}),.cmp .Eq (.x (.v 3) (.int 1)) (.x (.v 3) (.int 2))}) {.ret (.bl Ae)} .nil,.ret (.cmp .Eq (.call 61 {.v 0,.x (.v 3) (.int 0),.x (.v 3) (.int 1),.x (.v 3) (.int 2)}) (.int 0))}⟩
noncomputable def KF:E:=(.cmp .NotIn (.v 4) (.v 1))
noncomputable def Mb:E:=(.v 4)
noncomputable def Ou:E:=(.call 330 {.v 0,.v 1,.v 5,.v 6})
noncomputable def Mi:Df:=⟨7,Ae,{.ife (.or {.no (.isi (.v 2) [.list]),.cmp .Gt (.bi .len {.v 1}) (.v 0),.cmp .IsNot (.call 65 {.v 0,.v 1}) .O}) {.ret (.bl Ae)} .nil,.asg 3 Ae (.comp Mb 4 (.e (.call 69 {.v 0})) KF),.ret (.and {.cmp .Eq (.bi .len {.v 2}) (.bi .len {.v 3}),.bi .all {.compT Ou [5,6] (.zip (.v 3) (.v 2)) B6}})}⟩
noncomputable def SF:Df:=⟨3,Ae,{.ife (.or {.no (.call 324 {.v 2,.int 2}),.no (.isi (.x (.v 2) (.int 0)) [.str])}) {.ret (.bl Ae)} .nil,.ife (.cmp .Eq (.x (.v 2) (.int 0)) (.str (Ao "line"))) {.ret (.call 327 {.v 0,.v 1,.x (.v 2) (.int 1)})} .nil,.ife (.cmp .Eq (.x (.v 2) (.int 0)) (.str (Ao "curve"))) {.ret (.call 328 {.v 0,.v 1,.x (.v 2) (.int 1)})} .nil,.ife (.cmp .Eq (.x (.v 2) (.int 0)) (.str (Ao "more"))) {.ret (.call 329 {.v 0,.v 1,.x (.v 2) (.int 1)})} .nil,.ife (.cmp .Eq (.x (.v 2) (.int 0)) (.str (Ao "ends"))) {.ret (.call 331 {.v 0,.v 1,.x (.v 2) (.int 1)})} .nil,.ret (.bl Ae)}⟩
noncomputable def Nt:E:=(.call 237 {.v 0,.v 3,.int 3})
noncomputable def Nr:E:=(.cmp .In (.v 4) (.v 1))
noncomputable def Nw:Df:=⟨5,Ae,{.ife (.or {.no (.isi (.v 2) [.tuple]),.cmp .NotEq (.bi .len {.v 2}) (.int 3),.no (.bi .all {.comp Nt 3 (.e (.v 2)) B6})}) {.ret (.bl Ae)} .nil,.ife (.or {.cmp .NotEq (.bi .lset {.v 2}) (.int 3),.no (.bi .all {.comp Nr 4 (.e (.v 2)) B6})}) {.ret (.bl Ae)} .nil,.ret (.cmp .Eq (.call 233 {.v 0,.call 232 {.v 0,.x (.v 2) (.int 0),.x (.v 2) (.int 1)},.x (.v 2) (.int 2)}) (.int 0))}⟩
noncomputable def Np:E:=(.call 237 {.v 0,.v 4,.int 3})
noncomputable def OH:Df:=⟨5,Ae,{.ife (.or {.no (.isi (.v 3) [.tuple]),.cmp .NotEq (.bi .len {.v 3}) (.int 3),.no (.bi .all {.comp Np 4 (.e (.v 3)) B6})}) {.ret (.bl Ae)} .nil,.ife (.or {.cmp .NotEq (.x (.v 3) (.int 0)) (.v 2),.cmp .NotIn (.x (.v 3) (.int 1)) (.v 1),.cmp .NotIn (.x (.v 3) (.int 2)) (.v 1),.cmp .Eq (.x (.v 3) (.int 1)) (.x (.v 3) (.int 2))}) {.ret (.bl Ae)} .nil,.ret (.cmp .Eq (.call 233 {.v 0,.call 232 {.v 0,.x (.v 3) (.int 1),.x (.v 3) (.int 2)},.v 2}) (.int 0))}⟩
noncomputable def OI:E:=(.call 231 {.v 0,.v 3})
noncomputable def OT:Df:=⟨5,Ae,{.asg 2 Ae (.comp OI 3 (.rng (.B .Add (.B .Add (.B .Mult (.v 0) (.v 0)) (.v 0)) (.int 1))) B6),.ret (.comp Mb 4 (.e (.v 2)) KF)}⟩
noncomputable def Os:E:=(.call 334 {.v 0,.v 1,.v 6,.v 7})
noncomputable def IK:Df:=⟨8,Ae,{.ife (.or {.no (.isi (.v 2) [.tuple]),.cmp .NotEq (.bi .len {.v 2}) (.int 2),.no (.isi (.x (.v 2) (.int 0)) [.str])}) {.ret (.bl Ae)} .nil,.asgT [3,4] (.v 2),.ife (.cmp .Eq (.v 3) (.str (Ao "line"))) {.ret (.call 333 {.v 0,.v 1,.v 4})} .nil,.ife (.cmp .Eq (.v 3) (.str (Ao "curve"))) {.ret (.call 248 {.v 0,.v 1,.v 4})} .nil,.ife (.cmp .Eq (.v 3) (.str (Ao "more"))) {.ife (.or {.no (.call 237 {.v 0,.v 4,.int 3}),.cmp .In (.v 4) (.v 1)}) {.ret (.bl Ae)} .nil,.ret (.cmp .Is (.call 234 {.v 0,.B .Add (.v 1) (.L {.v 4})}) .O)} .nil,.ife (.or {.cmp .NotEq (.v 3) (.str (Ao "ends")),.no (.isi (.v 4) [.list]),.cmp .Gt (.bi .len {.v 1}) (.v 0),.cmp .IsNot (.call 234 {.v 0,.v 1}) .O}) {.ret (.bl Ae)} .nil,.asg 5 Ae (.call 335 {.v 0,.v 1}),.ife (.cmp .NotEq (.bi .len {.v 4}) (.bi .len {.v 5})) {.ret (.bl Ae)} .nil,.ret (.bi .all {.compT Os [6,7] (.zip (.v 5) (.v 4)) B6})}⟩
noncomputable def HA:Ss:={.asg 5 Ae (.call 231 {.v 0,.call 228 {.v 1,.B .Add (.int 40) (.v 4)}}),.ife (.and {.cmp .NotIn (.v 5) (.v 2),.or {.cmp .Eq (.v 3) (.int 3),.cmp .Is (.call 234 {.v 0,.B .Add (.v 2) (.L {.v 5})}) .O}}) {.app 2 (.v 5)} .nil}
noncomputable def KH:Df:=⟨6,Ae,{.asg 2 Aa (.call 251 {.v 1,.int 20,.call 290 {.v 0,.call 250 {.v 0,.v 1,.int 3}}}),.asg 3 Ae (.B .Mod (.call 228 {.v 1,.int 1}) (.int 4)),.ife (.cmp .Eq (.v 3) (.int 1)) {.asg 2 Aa (.sl (.v 2) .O (.B .Mod (.call 228 {.v 1,.int 2}) (.B .Add (.v 0) (.int 1))))} .nil,.ife (.cmp .Eq (.v 3) (.int 2)) {.asg 2 Aa (.L .nil)} .nil,.fors 4 (.rng (.x (.L {.int 0,.int 0,.int 18,.int 3}) (.v 3))) HA,.ret (.v 2)}⟩
noncomputable def Nz:Df:=⟨1,Ae,{.ife (.cmp .Eq (.x (.v 0) (.int 0)) (.str (Ao "ends"))) {.ret (.H {.str (Ao "ends"),.bi .list {.x (.v 0) (.int 1)}})} .nil,.ret (.v 0)}⟩
noncomputable def Nv:E:=(.H {.x (.v 9) (.int 0),.x (.v 9) (.int 2),.x (.v 9) (.int 1)})
noncomputable def Ls:Ss:={.asg 6 Ae (.bi .list {.v 2}),.asg 7 Ae (.call 338 {.v 5}),.ife (.or {.cmp .IsNot (.call 332 {.v 1,.v 6,.v 5}) (.bl Aa),.cmp .NotEq (.v 6) (.v 2),.cmp .NotEq (.v 5) (.v 7)}) {.ret (.bl Ae)} .nil,.ife (.cmp .IsNot (.call 332 {.v 1,.bi .rvs {.v 2},.v 5}) (.bl Aa)) {.ret (.bl Ae)} .nil,.ife (.cmp .Gt (.bi .len {.v 2}) (.int 0)) {.asg 8 Ae (.call 332 {.v 1,.sl (.v 2) .O (.un .USub (.int 1)),.v 5}),.ife (.or {.no (.isi (.v 8) [.bool]),.cmp .NotEq (.v 8) (.call 336 {.v 1,.sl (.v 2) .O (.un .USub (.int 1)),.v 5})}) {.ret (.bl Ae)} .nil} .nil}
noncomputable def HX:Df:=⟨10,Ae,{.asg 1 Ae (.call 229 {.v 0}),.asg 2 Ae (.call 337 {.v 1,.v 0}),.asg 3 Ae (.call 227 {.v 1,.bi .list {.v 2}}),.ife (.no (.call 336 {.v 1,.v 2,.v 3})) {.ret (.bl Ae)} .nil,.asg 4 Aa (.L {.v 3}),.ife (.cmp .Eq (.x (.v 3) (.int 0)) (.str (Ao "line"))) {.app 4 (.H {.str (Ao "line"),.H {.x (.x (.v 3) (.int 1)) (.int 2),.x (.x (.v 3) (.int 1)) (.int 0),.x (.x (.v 3) (.int 1)) (.int 1)}})} .nil,.ife (.cmp .Eq (.x (.v 3) (.int 0)) (.str (Ao "ends"))) {.app 4 (.H {.str (Ao "ends"),.comp Nv 9 (.e (.x (.v 3) (.int 1))) B6})} .nil,.rel 4,.fors 5 (.e (.v 4)) Ls,.ret (.bl Aa)}⟩
def YG(Z:Z2):Prop:=∀ p x:Ad,0<=x->x<p->Z.F 323 [.int p,.int x]=.ok (.bl Aa)
def sv(p x:Ad)(h0:0<=x)(h1:x<p):Sd.run Z [.int p,.int x]=.ok (.bl Aa):=by
 simp[Sd,Df.run,Bc,Ø,h0,h1]
def PJ(Z:Z2):Prop:=∀(xs:Ac D)(n:Ad),Z.F 324 [.H xs,.int n]=.ok (.bl (decide ((xs.length:Ad)=n)))
def sr(xs:Ac D)(n:Ad):OJ.run Z [.H xs,.int n]=.ok (.bl (decide ((xs.length:Ad)=n))):=by
 by_cases h:(xs.length:Ad)=n
 .simp[OJ,Df.run,Bc,Ø,h]
 .simp[OJ,Df.run,Bc,Ø,h]
def WZ:∀ xs:Ac Ad,(∀ x∈xs,g (.int x)=.ok Aa/\f (.int x)=.ok (.bl Aa))->Bz g f (ds xs)=.ok (xs.map λ_=>D.bl Aa)
 |[],_=>rfl
 |x::xs,h=>by
  obtain⟨h1,h2⟩:=h x (Ax ..);have ih:=WZ xs λm hm=>h m (Av _ hm)
  show (g (.int x)).bind _=_;rw[h1,R.bind_ok,AC rfl,h2,R.bind_ok,show Bz g f (ID _ xs)=_ from ih]
  rfl
def zf{X:Ac D}(e1:Z.F 324 [.H X,.int n]=.ok (.bl Aa))(c:Bz (cG Z [si p,sh (.H X),si n,Af] 3 B6) (cF Z [si p,sh (.H X),si n,Af] 3 OE) X=.ok B)(al:Tm .all [.L B]=.ok (.bl Aa))(an:Tm .any [.H X]=.ok (.bl Aa))(e2:Z.F 17 [.int p,.H X]=.ok (.H X))(f:Y8 5 (.H X)=Aa)(q:U4 (.H X) (.H X)=Aa):O7.run Z [.int p,.H X,.int n]=.ok (.bl Aa):=by
 simp[O7,Df.run,Bc,e1,c,al,an,e2,f,q]
def WX:∀ xs:Ac Ad,F6 (ds xs)=.ok (xs.any λx=>decide (x≠0))
 |[]=>rfl
 |x::xs=>by
  have ih:=WX xs;show (Fl (.int x)).bind _=_;have e:Fl (.int x)=.ok (decide (x≠0)):=by
   show R.ok _=_
   congr 1
   by_cases h:x=0
   .subst h;rfl
   .simp[h]
  rw[e,R.bind_ok,show F6 (ID _ xs)=_ from ih]
  rfl
def vA(hx:∀ x∈xs,0<=x/\x<p)(hl:A4 p xs=Ab 1):(1:Ad)∈xs:=by
 rw[Sn xs hx]at hl;exact(BJ.mp (List.mem_of_head? hl)).1
def MG(Z:Z2):Prop:=∀(p:Ad)(xs:Ac Ad),P4 p->(∀ x∈xs,0<=x/\x<p)->A4 p xs=Ab 1->xs.length<=10->Z.F 325 [.int p,.H (ds xs),.int xs.length]=.ok (.bl Aa)
def t9(h1:YG Z)(h2:PJ Z)(hf:NN Z)(xs:Ac Ad)(hp:P4 p)(hx:∀ x∈xs,0<=x/\x<p)(hl:A4 p xs=Ab 1):O7.run Z [.int p,.H (ds xs),.int xs.length]=.ok (.bl Aa):=by
 have lo:=hp.lo;have p1:1<p:=by omega
 have e1:=h2 (ds xs) xs.length;rw[Bo (by simp[ds])]at e1
 have c:Bz (cG Z [si p,sh (.H (ds xs)),si xs.length,Af] 3 B6) (cF Z [si p,sh (.H (ds xs)),si xs.length,Af] 3 OE) (ds xs)=.ok (xs.map λ_=>D.bl Aa):=by
  refine WZ xs λx m=>⟨rfl,?_⟩
  have e:=h1 p x (hx x m).1 (hx x m).2;generalize D.H (ds xs)=T;generalize (xs.length:Ad)=N;simp[cF,OE,e]
 have al:Tm .all [.L (xs.map λ_=>D.bl Aa)]=.ok (.bl Aa):=by
  show (Gj (xs.map λ_=>D.bl Aa)).bind _=_
  rw[PD];rfl
 have an:Tm .any [.H (ds xs)]=.ok (.bl Aa):=by
  show (F6 (ds xs)).bind _=_;rw[WX,EO.mpr ⟨1,vA hx hl,by decide⟩]
  rfl
 have e2:=hf p Aa xs 1 1 hp hl ⟨HL _,p1,AI (by omega) (by omega)⟩
 have fm:Þ p 1 xs=xs:=by
  unfold Þ
  conv=>rhs;rw[<-aC xs]
  refine CM λx m=>?_
  rw[CW,AY _ (BD p),AI (hx x m).1 (hx x m).2];rfl
 rw[fm]at e2;have f:Y8 5 (.H (ds xs))=Aa:=by
  show (ds xs).all (Y8 4)=Aa;refine DT.mpr λd hd=>?_
  obtain⟨x,_,rfl⟩:=A7.mp hd;rfl
 exact zf e1 c al an e2 f (Sz 5 _ f)
def Ub(Z:Z2):Prop:=∀(p:Ad)(l:Ac R3)(x:R3),P4 p->NF p x->Z.F 326 [.int p,Au l,Ai Aa x]=.ok (.bl (decide (x∈l)))
def ze(e1:Z.F 325 [.int p,X,.int 3]=.ok (.bl Aa))(e2:Ci .In X T=.ok (.bl b)):O6.run Z [.int p,T,X]=.ok (.bl b):=by
 simp[O6,Df.run,Bc,e1,e2]
def UA(hf:MG Z)(hp:P4 p)(nx:NF p x):Z.F 325 [.int p,Ai Aa x,.int 3]=.ok (.bl Aa):=by
 obtain⟨⟨i1,i2,i3⟩,l⟩:=nx;refine hf p (Fr x) hp (λv hv=>?_) l (show 3<=10 by decide)
 rcases Aw.mp hv with rfl|hv
 .exact i1
 rcases Aw.mp hv with rfl|hv
 .exact i2
 rcases Aw.mp hv with rfl|hv
 .exact i3
 cases hv
def t7(hf:MG Z)(hp:P4 p)(l:Ac R3)(x:R3)(nx:NF p x):O6.run Z [.int p,Au l,Ai Aa x]=.ok (.bl (decide (x∈l))):=ze (UA hf hp nx) (Lw x l)
def XD{a:Al}(gx:∀ x,g x=.ok Aa)(h1:f X=.ok (.bl a))(h2:f Y_=.ok (.bl b))(h3:f Z_=.ok (.bl c)):Bz g f [X,Y_,Z_]=.ok [.bl a,.bl b,.bl c]:=by
 simp[Bz,gx,h1,h2,h3]
def Y_2(a b c:Al):Tm .all [.L [.bl a,.bl b,.bl c]]=.ok (.bl (a&&b&&c)):=by
 cases a<;>cases b<;>cases c<;>rfl
def wj(e1:Z.F 324 [.H [X,Y_,Z_],.int 3]=.ok (.bl Aa))(c1:Bz (cG Z [si p,sh T,sh (.H [X,Y_,Z_]),Af] 3 B6) (cF Z [si p,sh T,sh (.H [X,Y_,Z_]),Af] 3 Nu) [X,Y_,Z_]=.ok B)(al:Tm .all [.L B]=.ok (.bl b))(fX:Y8 5 X=Aa)(fY:Y8 5 Y_=Aa)(fZ:Y8 5 Z_=Aa)(n1:U4 X Y_=Ae)(n2:U4 X Z_=Ae)(n3:U4 Y_ Z_=Ae)(em:Z.F 61 [.int p,X,Y_,Z_]=.ok (.int 0)):Nx.run Z [.int p,T,.H [X,Y_,Z_]]=.ok (.bl b):=by
 have x0:BR (.H [X,Y_,Z_]) (.int 0)=.ok X:=rfl;have x1:BR (.H [X,Y_,Z_]) (.int 1)=.ok Y_:=rfl;have x2:BR (.H [X,Y_,Z_]) (.int 2)=.ok Z_:=rfl;have sq:Ct (.H [X,Y_,Z_])=.ok [X,Y_,Z_]:=rfl;generalize D.H [X,Y_,Z_]=W at *;cases b
 .simp[Nx,Df.run,Bc,e1,sq,c1,al]
 .simp[Nx,Df.run,Bc,e1,sq,c1,al,x0,x1,x2,fX,fY,fZ,n1,n2,n3,em]
def rh(h2:PJ Z)(hh:Ub Z)(hm:GR Z)(hp:P4 p)(l:Ac R3){x:R3}(nx:NF p x)(ny:NF p y)(nz:NF p z)(n1:x≠y)(n2:x≠z)(n3:y≠z)(dz:Ak x y z%p=0):Nx.run Z [.int p,Au l,.H [Ai Aa x,Ai Aa y,Ai Aa z]]=.ok (.bl (decide (x∈l)&&decide (y∈l)&&decide (z∈l))):=by
 have e1:=h2 [Ai Aa x,Ai Aa y,Ai Aa z] 3;rw[Bo (show (([Ai Aa x,Ai Aa y,Ai Aa z].length:Ag):Ad)=3 from rfl)]at e1
 have i1:=hh p l x hp nx;have i2:=hh p l y hp ny;have i3:=hh p l z hp nz;have bx:=(Cc hp nx.1).b3 (n:=10) (by decide)
 have bY:=(Cc hp ny.1).b3 (n:=10) (by decide)
 have bz:=(Cc hp nz.1).b3 (n:=10) (by decide)
 have em:=hm p Aa x y z hp.pos bx bY bz;rw[dz]at em;have q1:U4 (Ai Aa x) (Ai Aa y)=Ae:=by rw[Hn];exact Bw n1
 have q2:U4 (Ai Aa x) (Ai Aa z)=Ae:=by rw[Hn];exact Bw n2
 have q3:U4 (Ai Aa y) (Ai Aa z)=Ae:=by rw[Hn];exact Bw n3
 have fl:∀ r:R3,Y8 5 (Ai Aa r)=Aa:=λ_=>rfl
 have f1:=fl x;have f2:=fl y;have f3:=fl z;generalize decide (x∈l)=a,decide (y∈l)=b,decide (z∈l)=c,Au l=T,Ai Aa x=X,Ai Aa y=Y_,Ai Aa z=Z_ at *;refine wj e1 (XD (λ_=>rfl) ?_ ?_ ?_) (Y_2 a b c) f1 f2 f3 q1 q2 q3 em
 .simp[cF,Nu,i1]
 .simp[cF,Nu,i2]
 .simp[cF,Nu,i3]
def wa(e1:Z.F 325 [.int p,X,.int 3]=.ok (.bl Aa))(f1:Y8 5 X=Aa)(f2:∀ x,x∈L->Y8 5 x=Aa)(e2:∀ x,x∈L->U4 x X=Ae)(z:Dv (L.length+1)=Aa)(e3:Z.F 65 [.int p,.L (L++[X])]=.ok .O):Op.run Z [.int p,.L L,X]=.ok (.bl Aa):=by
 simp[Op,Df.run,Bc,e1,z,e3,f1];rw[AC f2,AC e2]
def KS(Z:Z2)(i:Ag):Prop:=∀(p:Ad)(pts:Ac R3),P4 p->(∀ x∈pts,NF p x)->pts.length<=1000->Z.F i [.int p,Au pts]=.ok ((ü p pts).getD .O)
def ra(hf:MG Z)(ht:KS Z 65)(hp:P4 p)(l:Ac R3)(x:R3)(nx:NF p x)(nf:∀ y∈l,NF p y)(hx:x∉l)(hz:ü p (l++[x])=Af)(hl:l.length<=100):Op.run Z [.int p,Au l,Ai Aa x]=.ok (.bl Aa):=by
 have e3:=ht p (l++[x]) hp (λy hy=>by
  rcases C5.mp hy with h|h
  .exact nf y h
  .rw[AQ.mp h];exact nx) (by rw[BE];simp;omega)
 rw[hz]at e3;have e4:Au (l++[x])=.L (l.map (Ai Aa)++[Ai Aa x]):=by unfold Au;rw[D4];rfl
 rw[e4]at e3;refine wa (UA hf hp nx) rfl (λd hd=>?_) (λd hd=>?_) (LU.mpr (by rw[AG];omega)) e3
 .obtain⟨y,_,rfl⟩:=A7.mp hd;rfl
 .obtain⟨y,hy,rfl⟩:=A7.mp hd;rw[Hn];exact Bw λe=>hx (e ▸ hy)
def Wh:∀ a b:Ac R3,U4 (Au a) (Au b)=decide (a=b)
 |[],[]=>rfl
 |[],_::_=>rfl
 |_::_,[]=>rfl
 |x::a,y::b=>by
  have ih:My (a.map (Ai Aa)) (b.map (Ai Aa))=decide (a=b):=Wh a b;show (U4 (Ai Aa x) (Ai Aa y)&&My (a.map (Ai Aa)) (b.map (Ai Aa)))=_;rw[ih,Hn];by_cases h1:x=y
  .by_cases h2:a=b
   .simp[h1,h2]
   .simp[h1,h2]
  .simp[h1]
def yn(e1:Z.F 325 [.int p,C,.int 6]=.ok (.bl Aa))(e2:Z.F 136 [.int p,C]=.ok (.bl Aa))(e3:Z.F 128 [.int p,C]=.ok X)(so:Tm .sorted [T]=.ok Y_)(f1:Y8 5 X=Aa)(f2:Y8 5 Y_=Aa)(q:U4 X Y_=b):Oy.run Z [.int p,T,C]=.ok (.bl b):=by
 simp[Oy,Df.run,Bc,e1,e2,e3,so,f1,f2,q]
def u9(hf:MG Z)(hw:vX Z)(ho:jj Z)(hp:P4 p)(l:Ac R3)(iC:ï p C)(lC:A4 p C.l=Ab 1)(wC:Ak (ò C) (ó C) (ú C)%p≠0)(nf:∀ y∈l,NF p y)(nd:l.Nodup)(Î:l.length<64):Oy.run Z [.int p,Au l,BY C]=.ok (.bl (decide (Kb p C=(Cr p).filter λx=>decide (x∈l)))):=by
 have so:Tm .sorted [Au l]=.ok (Au ((Cr p).filter λx=>decide (x∈l))):=by
  show (IS (l.map (Ai Aa))).bind _=_;rw[ZzW hp nf nd Î];rfl
 have fl:∀ a:Ac R3,Y8 5 (Au a)=Aa:=λa=>(Ti a).1
 exact yn (hf p C.l hp iC lC (show 6<=10 by decide)) (hw p C hp iC wC) (ho p C hp iC) so (fl _) (fl _) (Wh _ _)
def Zyt(Z:Z2):Prop:=∀(p:Ad)(l:Ac R3)(x a b:R3),P4 p->NF p x->NF p a->NF p b->a∈l->b∈l->a≠b->Ak x a b%p=0->Z.F 330 [.int p,Au l,Ai Aa x,.H [Ai Aa x,Ai Aa a,Ai Aa b]]=.ok (.bl Aa)
def uj(e1:Z.F 324 [.H [X,A,B],.int 3]=.ok (.bl Aa))(e2:Z.F 325 [.int p,X,.int 3]=.ok (.bl Aa))(i1:Z.F 326 [.int p,T,A]=.ok (.bl Aa))(i2:Z.F 326 [.int p,T,B]=.ok (.bl Aa))(fX:Y8 5 X=Aa)(fA:Y8 5 A=Aa)(fB:Y8 5 B=Aa)(q0:U4 X X=Aa)(q1:U4 A B=Ae)(em:Z.F 61 [.int p,X,A,B]=.ok (.int 0)):OD.run Z [.int p,T,X,.H [X,A,B]]=.ok (.bl Aa):=by
 have x0:BR (.H [X,A,B]) (.int 0)=.ok X:=rfl;have x1:BR (.H [X,A,B]) (.int 1)=.ok A:=rfl;have x2:BR (.H [X,A,B]) (.int 2)=.ok B:=rfl;generalize D.H [X,A,B]=W at *;simp[OD,Df.run,Bc,e1,x0,x1,x2,e2,i1,i2,fX,fA,fB,q0,q1,em]
def uy(h2:PJ Z)(hf:MG Z)(hh:Ub Z)(hm:GR Z)(hp:P4 p)(l:Ac R3){x a:R3}(nx:NF p x)(na:NF p a)(nb:NF p b)(ha:a∈l)(hb:b∈l)(ne:a≠b)(dz:Ak x a b%p=0):OD.run Z [.int p,Au l,Ai Aa x,.H [Ai Aa x,Ai Aa a,Ai Aa b]]=.ok (.bl Aa):=by
 have e1:=h2 [Ai Aa x,Ai Aa a,Ai Aa b] 3;rw[Bo (show (([Ai Aa x,Ai Aa a,Ai Aa b].length:Ag):Ad)=3 from rfl)]at e1
 have i1:=hh p l a hp na;have i2:=hh p l b hp nb;rw[Bo ha]at i1;rw[Bo hb]at i2;have em:=hm p Aa x a b hp.pos ((Cc hp nx.1).b3 (n:=10) (by decide)) ((Cc hp na.1).b3 (n:=10) (by decide)) ((Cc hp nb.1).b3 (n:=10) (by decide))
 rw[dz]at em;exact uj e1 (UA hf hp nx) i1 i2 rfl rfl rfl (by rw[Hn];exact Bo rfl) (by rw[Hn];exact Bw ne) em
def YT{k:Al}(ln:Tm .len [T]=.ok (.int n))(hn:n<=p)(e3:Z.F 65 [.int p,T]=.ok .O)(e4:Z.F 69 [.int p]=.ok (.L AL))(c1:Bz (cG Z [si p,sh T,sh (.L RW),Af,Af,Af,Af] 4 KF) (cF Z [si p,sh T,sh (.L RW),Af,Af,Af,Af] 4 Mb) AL=.ok LL)(l1:k=decide ((RW.length:Ad)=LL.length))(c2:k=Aa->Bz (Λ Z [si p,sh T,sh (.L RW),sh (.L LL),Af,Af,Af] [5,6] B6) (ϐ Z [si p,sh T,sh (.L RW),sh (.L LL),Af,Af,Af] [5,6] Ou) (EK LL RW)=.ok BB/\Gj BB=.ok Aa):Mi.run Z [.int p,T,.L RW]=.ok (.bl k):=by
 have nl:¬ p<n:=by omega
 have it:Fm Z.up [.list] (.L RW)=.ok (.bl Aa):=rfl;have ć:Ci .IsNot .O .O=.ok (.bl Ae):=rfl;cases k with
 |true=>
  have l2:=By l1.symm;obtain⟨c2,al⟩:=c2 rfl;simp[Mi,Df.run,Bc,it,ln,nl,e3,ć,e4,c1,l2,c2,al]
 |false=>
  have l2:=Wab l1.symm;simp[Mi,Df.run,Bc,it,ln,nl,e3,ć,e4,c1,l2]
def Yd(l:Ac R3)(R:D):Bz (cG Z [si p,sh (Au l),sh R,Af,Af,Af,Af] 4 KF) (cF Z [si p,sh (Au l),sh R,Af,Af,Af,Af] 4 Mb) ((Cr p).map (Ai Aa))=.ok ((Cj p l).map (Ai Aa)):=
 KO (Ai Aa) (λx=>!decide (x∈l)) (Ai Aa) (Cr p) λx hx=>⟨by
  have n:=ND x l;generalize Au l=T,Ai Aa x=X at *;simp[cG,KF,n],λ_=>rfl⟩
noncomputable def DO(w:R3->R3×R3)(x:R3):D:=.H [Ai Aa x,Ai Aa (w x).1,Ai Aa (w x).2]
def Oi(p:Ad)(l:Ac R3)(w:R3->R3×R3):Prop:=∀ x∈Cj p l,(w x).1∈l/\(w x).2∈l/\(w x).1≠(w x).2/\Ak x (w x).1 (w x).2%p=0
def tj(hr:Zyt Z)(ht:KS Z 65)(h9:∀ p,P4 p->Z.F 69 [.int p]=.ok (Au (Cr p)))(hp:P4 p)(l:Ac R3)(w:R3->R3×R3)(nf:∀ y∈l,NF p y)(hz:ü p l=Af)(hl:(l.length:Ad)<=p)(hw:Oi p l w):Mi.run Z [.int p,Au l,.L ((Cj p l).map (DO w))]=.ok (.bl Aa):=by
 have ph:=hp.hi;have e3:=ht p l hp nf (by omega)
 rw[hz]at e3;have c2:=KO (g:=Λ Z [si p,sh (Au l),sh (.L ((Cj p l).map (DO w))),sh (.L ((Cj p l).map (Ai Aa))),Af,Af,Af] [5,6] B6) (f:=ϐ Z [si p,sh (Au l),sh (.L ((Cj p l).map (DO w))),sh (.L ((Cj p l).map (Ai Aa))),Af,Af,Af] [5,6] Ou) (λx=>D.H [Ai Aa x,DO w x]) (λ_=>Aa) (λ_=>D.bl Aa) (Cj p l) λx hx=>⟨rfl,λ_=>by
  obtain⟨m1,m2⟩:=BJ.mp hx;obtain⟨w1,w2,w3,w4⟩:=hw x hx;have e:=hr p l x _ _ hp ((FG hp).mp m1) (nf _ w1) (nf _ w2) w1 w2 w3 w4;have e':Z.F 330 [.int p,Au l,Ai Aa x,DO w x]=.ok (.bl Aa):=e;generalize DO w x=R,Au l=T at *;generalize (D.L ((Cj p l).map (DO w)))=E;generalize (Cj p l).map (Ai Aa)=LL;generalize Ai Aa x=X at *;simp[ϐ,Ou,e']⟩
 rw[<-S6]at c2;exact YT (RW:=(Cj p l).map (DO w)) (AL:=(Cr p).map (Ai Aa)) (LL:=(Cj p l).map (Ai Aa)) (Hz l) hl e3 (h9 p hp) (Yd l _) (by rw[AG,AG,Bo rfl]) λ_=>⟨c2,PD _⟩
def tm(ht:KS Z 65)(h9:∀ p,P4 p->Z.F 69 [.int p]=.ok (Au (Cr p)))(hp:P4 p)(l:Ac R3)(RW:Ac D)(nf:∀ y∈l,NF p y)(hz:ü p l=Af)(hl:(l.length:Ad)<=p)(hw:RW.length≠(Cj p l).length):Mi.run Z [.int p,Au l,.L RW]=.ok (.bl Ae):=by
 have ph:=hp.hi;have e3:=ht p l hp nf (by omega)
 rw[hz]at e3;exact YT (BB:=[]) (AL:=(Cr p).map (Ai Aa)) (LL:=(Cj p l).map (Ai Aa)) (Hz l) hl e3 (h9 p hp) (Yd l _) (Bw (by rw[AG];omega)).symm (λc=>by cases c)
def IW:Ao "curve"≠Ao "line"/\Ao "more"≠Ao "line"/\Ao "more"≠Ao "curve"/\Ao "ends"≠Ao "line"/\Ao "ends"≠Ao "curve"/\Ao "ends"≠Ao "more" := by decide
def Ob(h:w=Ao "line"/\i=327\/w=Ao "curve"/\i=328\/w=Ao "more"/\i=329\/w=Ao "ends"/\i=331)(e1:Z.F 324 [.H [.str w,X],.int 2]=.ok (.bl Aa))(e:Z.F i [.int p,T,X]=.ok Y_):SF.run Z [.int p,T,.H [.str w,X]]=.ok Y_:=by
 have x0:BR (.H [.str w,X]) (.int 0)=.ok (.str w):=rfl;have x1:BR (.H [.str w,X]) (.int 1)=.ok X:=rfl;obtain⟨w1,w2,w3,w4,w5,w6⟩:=IW;generalize D.H [.str w,X]=W at *;rcases h with ⟨rfl,rfl⟩|⟨rfl,rfl⟩|⟨rfl,rfl⟩|⟨rfl,rfl⟩<;>simp[w1,w2,w3,w4,w5,w6,SF,Df.run,Bc,e1,x0,x1,e,Ø]
def vg{L:D}(c1:Bz (cG Z [si p,sh T,sh (.H [X,Y_,Z_]),Af,Af] 3 B6) (cF Z [si p,sh T,sh (.H [X,Y_,Z_]),Af,Af] 3 Nt) [X,Y_,Z_]=.ok [.bl Aa,.bl Aa,.bl Aa])(c2:Bz (cG Z [si p,sh T,sh (.H [X,Y_,Z_]),Af,Af] 4 B6) (cF Z [si p,sh T,sh (.H [X,Y_,Z_]),Af,Af] 4 Nr) [X,Y_,Z_]=.ok B)(al2:Tm .all [.L B]=.ok (.bl b))(ls:Tm .lset [.H [X,Y_,Z_]]=.ok (.int 3))(ec:Z.F 232 [.int p,X,Y_]=.ok L)(es:Z.F 233 [.int p,L,Z_]=.ok (.int 0)):Nw.run Z [.int p,T,.H [X,Y_,Z_]]=.ok (.bl b):=by
 have al:Tm .all [.L [.bl Aa,.bl Aa,.bl Aa]]=.ok (.bl Aa):=rfl;have ln:Tm .len [.H [X,Y_,Z_]]=.ok (.int 3):=rfl;have it:Fm Z.up [.tuple] (.H [X,Y_,Z_])=.ok (.bl Aa):=rfl;have x0:BR (.H [X,Y_,Z_]) (.int 0)=.ok X:=rfl;have x1:BR (.H [X,Y_,Z_]) (.int 1)=.ok Y_:=rfl;have x2:BR (.H [X,Y_,Z_]) (.int 2)=.ok Z_:=rfl;have sq:Ct (.H [X,Y_,Z_])=.ok [X,Y_,Z_]:=rfl;generalize D.H [X,Y_,Z_]=W,hA:[D.bl Aa,D.bl Aa,D.bl Aa]=A at *;cases b
 .simp[Nw,Df.run,Bc,it,ln,sq,c1,al,ls,c2,al2]
 .simp[Nw,Df.run,Bc,it,ln,sq,c1,al,ls,c2,al2,x0,x1,x2,ec,es]
def sj(hf:Uc Z)(hc:Jk Z)(hs:IQ Z)(hp:P4 p)(l:Ac R3){x:R3}(nx:NF p x)(ny:NF p y)(nz:NF p z)(n1:x≠y)(n2:x≠z)(n3:y≠z)(dz:Ak x y z%p=0):Nw.run Z [.int p,Au l,.H [Ai Aa x,Ai Aa y,Ai Aa z]]=.ok (.bl (decide (x∈l)&&decide (y∈l)&&decide (z∈l))):=by
 have e1:=hf p x hp nx;have e2:=hf p y hp ny;have e3:=hf p z hp nz;have m1:=Lw x l;have m2:=Lw y l;have m3:=Lw z l;have bx:=(Cc hp nx.1).b3 (n:=10) (by decide)
 have bY:=(Cc hp ny.1).b3 (n:=10) (by decide)
 have ec:=hc p Aa Aa x y hp.pos bx bY;have es:=YZ hc hs hp nx.1 ny.1 nz.1;rw[dz]at es;have ls:=wg hp nx ny nz n1 n2 n3;generalize decide (x∈l)=a,decide (y∈l)=b,decide (z∈l)=c,Ai Aa (ö p (Z8 x y))=L,Au l=T,Ai Aa x=X,Ai Aa y=Y_,Ai Aa z=Z_ at *;refine vg (XA (λ_=>rfl) ?_ ?_ ?_) (XD (λ_=>rfl) ?_ ?_ ?_) (Y_2 a b c) ls ec es
 .simp[cF,Nt,e1]
 .simp[cF,Nt,e2]
 .simp[cF,Nt,e3]
 .simp[cF,Nr,m1]
 .simp[cF,Nr,m2]
 .simp[cF,Nr,m3]
def qi(ln:Tm .len [T]=.ok (.int n))(hn:¬ n=p+1):L8.run Z [.int p,T,C]=.ok (.bl Ae):=by
 simp[L8,Df.run,Bc,ln,hn]
def Zyu(Z:Z2):Prop:=∀(p:Ad)(l:Ac R3)(x a b:R3),P4 p->NF p x->NF p a->NF p b->a∈l->b∈l->a≠b->Ak a b x%p=0->Z.F 334 [.int p,Au l,Ai Aa x,.H [Ai Aa x,Ai Aa a,Ai Aa b]]=.ok (.bl Aa)
def ur{L:D}(c1:Bz (cG Z [si p,sh T,sh X,sh (.H [X,A,B]),Af] 4 B6) (cF Z [si p,sh T,sh X,sh (.H [X,A,B]),Af] 4 Np) [X,A,B]=.ok [.bl Aa,.bl Aa,.bl Aa])(fX:Y8 5 X=Aa)(fA:Y8 5 A=Aa)(fB:Y8 5 B=Aa)(q0:U4 X X=Aa)(q1:U4 A B=Ae)(m1:Ci .NotIn A T=.ok (.bl Ae))(m2:Ci .NotIn B T=.ok (.bl Ae))(ec:Z.F 232 [.int p,A,B]=.ok L)(es:Z.F 233 [.int p,L,X]=.ok (.int 0)):OH.run Z [.int p,T,X,.H [X,A,B]]=.ok (.bl Aa):=by
 have al:Tm .all [.L [.bl Aa,.bl Aa,.bl Aa]]=.ok (.bl Aa):=rfl;have ln:Tm .len [.H [X,A,B]]=.ok (.int 3):=rfl;have it:Fm Z.up [.tuple] (.H [X,A,B])=.ok (.bl Aa):=rfl;have x0:BR (.H [X,A,B]) (.int 0)=.ok X:=rfl;have x1:BR (.H [X,A,B]) (.int 1)=.ok A:=rfl;have x2:BR (.H [X,A,B]) (.int 2)=.ok B:=rfl;have sq:Ct (.H [X,A,B])=.ok [X,A,B]:=rfl;generalize D.H [X,A,B]=W,hA:[D.bl Aa,D.bl Aa,D.bl Aa]=A0 at *;simp[OH,Df.run,Bc,it,ln,sq,c1,al,x0,x1,x2,fX,fA,fB,q0,q1,m1,m2,ec,es]
def qs(hf:Uc Z)(hc:Jk Z)(hs:IQ Z)(hp:P4 p)(l:Ac R3){x a:R3}(nx:NF p x)(na:NF p a)(nb:NF p b)(ha:a∈l)(hb:b∈l)(ne:a≠b)(dz:Ak a b x%p=0):OH.run Z [.int p,Au l,Ai Aa x,.H [Ai Aa x,Ai Aa a,Ai Aa b]]=.ok (.bl Aa):=by
 have e1:=hf p x hp nx;have e2:=hf p a hp na;have e3:=hf p b hp nb;have m1:=ND a l;have m2:=ND b l;rw[Bo ha]at m1;rw[Bo hb]at m2;have ec:=hc p Aa Aa a b hp.pos ((Cc hp na.1).b3 (n:=10) (by decide)) ((Cc hp nb.1).b3 (n:=10) (by decide))
 have es:=YZ hc hs hp na.1 nb.1 nx.1;rw[dz]at es;have q0:U4 (Ai Aa x) (Ai Aa x)=Aa:=by rw[Hn];exact Bo rfl
 have q1:U4 (Ai Aa a) (Ai Aa b)=Ae:=by rw[Hn];exact Bw ne
 have fl:∀ r:R3,Y8 5 (Ai Aa r)=Aa:=λ_=>rfl
 have f1:=fl x;have f2:=fl a;have f3:=fl b;generalize Ai Aa (ö p (Z8 a b))=L,Au l=T,Ai Aa x=X,Ai Aa a=A,Ai Aa b=B at *;refine ur (XA (λ_=>rfl) ?_ ?_ ?_) f1 f2 f3 q0 q1 m1 m2 ec es
 .simp[cF,Np,e1]
 .simp[cF,Np,e2]
 .simp[cF,Np,e3]
def vc(mm:Ey p p=Aa)(hN:p*p+p+1=N)(rN:De 0 N=.ok RL)(c1:Bz (cG Z [si p,sh T,Af,Af,Af] 3 B6) (cF Z [si p,sh T,Af,Af,Af] 3 OI) RL=.ok AL)(c2:Bz (cG Z [si p,sh T,sh (.L AL),Af,Af] 4 KF) (cF Z [si p,sh T,sh (.L AL),Af,Af] 4 Mb) AL=.ok LL):OT.run Z [.int p,T]=.ok (.L LL):=by
 simp[OT,Df.run,Bc,mm,hN,rN,c1,c2]
def sg(hq:N9 Z)(hp:P4 p)(l:Ac R3):OT.run Z [.int p,Au l]=.ok (Au (Cj p l)):=by
 have N1:0<=p*p+p+1/\p*p+p+1<=1000:=by rcases hp with rfl|rfl|rfl|rfl<;>decide
 have rN:De 0 (p*p+p+1)=.ok (Dx 0 (p*p+p+1).toNat):=by
  have:=NC (lo:=0) (hi:=p*p+p+1) (by decide) (by decide) (by omega) (by omega)
  rwa [G5]at this
 have ph:=hp.hi;have pl:=hp.lo;have mm:Ey p p=Aa:=IT (by omega) (by omega)
 have c1:=yq (U:=[si p,sh (Au l),Af,Af,Af]) (k:=3) (q:=B6) (e:=OI) hq hp λn hn=>⟨rfl,by
  generalize Au l=T;simp[cF,OI];cases Z.F 231 [.int p,.int (n:Ad)]<;>rfl⟩
 have c2:=KO (g:=cG Z [si p,sh (Au l),sh (.L ((Cr p).map (Ai Aa))),Af,Af] 4 KF) (f:=cF Z [si p,sh (Au l),sh (.L ((Cr p).map (Ai Aa))),Af,Af] 4 Mb) (Ai Aa) (λx=>!decide (x∈l)) (Ai Aa) (Cr p) λx hx=>⟨by
  have n:=ND x l;generalize Au l=T at *;generalize (Cr p).map (Ai Aa)=AL;generalize Ai Aa x=X at *;simp[cG,KF,n],λ_=>rfl⟩
 exact vc mm rfl rN c1 c2
def QQ(h:w=Ao "line"/\i=333\/w=Ao "curve"/\i=248)(e:Z.F i [.int p,T,X]=.ok Y_):IK.run Z [.int p,T,.H [.str w,X]]=.ok Y_:=by
 have x0:BR (.H [.str w,X]) (.int 0)=.ok (.str w):=rfl;have lw:Tm .len [.H [.str w,X]]=.ok (.int 2):=rfl;have iw:Fm Z.up [.tuple] (.H [.str w,X])=.ok (.bl Aa):=rfl;have Ş:Fm Z.up [.str] (.str w)=.ok (.bl Aa):=rfl;obtain⟨w1,_⟩:=IW;rcases h with ⟨rfl,rfl⟩|⟨rfl,rfl⟩<;>simp[w1,IK,Df.run,Bc,iw,lw,x0,Ş,FH,e]
def nB(e1:Z.F 237 [.int p,X,.int 3]=.ok (.bl Aa))(e2:Ci .In X (.L L)=.ok (.bl Ae))(z:Dv (L.length+1)=Aa)(e3:Z.F 234 [.int p,.L (L++[X])]=.ok .O):IK.run Z [.int p,.L L,.H [.str (Ao "more"),X]]=.ok (.bl Aa):=by
 have x0:BR (.H [.str (Ao "more"),X]) (.int 0)=.ok (.str (Ao "more")):=rfl;have lw:Tm .len [.H [.str (Ao "more"),X]]=.ok (.int 2):=rfl;have iw:Fm Z.up [.tuple] (.H [.str (Ao "more"),X])=.ok (.bl Aa):=rfl;have Ş:Fm Z.up [.str] (.str (Ao "more"))=.ok (.bl Aa):=rfl;have ba:DD .Add (.L L) (.L [X])=.ok (.L (L++[X])):=by
  show (if Dv (L.length+[X].length)=Aa then _ else _)=_
  exact AC z
 have ni:Ci .Is .O .O=.ok (.bl Aa):=rfl;obtain⟨w1,w2,w3,w4,w5,w6⟩:=IW;generalize hT:D.L L=T at *;simp[w1,w2,w3,w4,w5,w6,IK,Df.run,Bc,iw,lw,x0,Ş,FH,e1,e2,e3,ba,ni]
def UQ{k:Al}(ln:Tm .len [T]=.ok (.int n))(hn:n<=p)(e3:Z.F 234 [.int p,T]=.ok .O)(e4:Z.F 335 [.int p,T]=.ok (.L LL))(l1:k=decide ((RW.length:Ad)=LL.length))(c2:k=Aa->Bz (Λ Z [si p,sh T,sh (.H [.str (Ao "ends"),.L RW]),sh (.str (Ao "ends")),sh (.L RW),sh (.L LL),Af,Af] [6,7] B6) (ϐ Z [si p,sh T,sh (.H [.str (Ao "ends"),.L RW]),sh (.str (Ao "ends")),sh (.L RW),sh (.L LL),Af,Af] [6,7] Os) (EK LL RW)=.ok BB/\Gj BB=.ok Aa):IK.run Z [.int p,T,.H [.str (Ao "ends"),.L RW]]=.ok (.bl k):=by
 have x0:BR (.H [.str (Ao "ends"),.L RW]) (.int 0)=.ok (.str (Ao "ends")):=rfl;have lw:Tm .len [.H [.str (Ao "ends"),.L RW]]=.ok (.int 2):=rfl;have iw:Fm Z.up [.tuple] (.H [.str (Ao "ends"),.L RW])=.ok (.bl Aa):=rfl;have Ş:Fm Z.up [.str] (.str (Ao "ends"))=.ok (.bl Aa):=rfl;have il:Fm Z.up [.list] (.L RW)=.ok (.bl Aa):=rfl;have nl:¬ p<n:=by omega
 have ć:Ci .IsNot .O .O=.ok (.bl Ae):=rfl;obtain⟨w1,w2,w3,w4,w5,w6⟩:=IW;cases k with
 |true=>
  have l2:=By l1.symm;obtain⟨c2,al⟩:=c2 rfl;simp[w4,w5,w6,IK,Df.run,Bc,iw,lw,x0,Ş,FH,il,ln,nl,e3,ć,e4,l2,c2,al]
 |false=>
  have l2:=Wab l1.symm;simp[w4,w5,w6,IK,Df.run,Bc,iw,lw,x0,Ş,FH,il,ln,nl,e3,ć,e4,l2]
def u8(hr:Zyu Z)(ht:KS Z 234)(h5:∀ p l,P4 p->Z.F 335 [.int p,Au l]=.ok (Au (Cj p l)))(hp:P4 p)(l:Ac R3)(w:R3->R3×R3)(nf:∀ y∈l,NF p y)(hz:ü p l=Af)(hl:(l.length:Ad)<=p)(hw:∀ x∈Cj p l,(w x).1∈l/\(w x).2∈l/\(w x).1≠(w x).2/\Ak (w x).1 (w x).2 x%p=0):IK.run Z [.int p,Au l,.H [.str (Ao "ends"),.L ((Cj p l).map (DO w))]]=.ok (.bl Aa):=by
 have ph:=hp.hi;have e3:=ht p l hp nf (by omega)
 rw[hz]at e3;have c2:=KO (g:=Λ Z [si p,sh (Au l),sh (.H [.str (Ao "ends"),.L ((Cj p l).map (DO w))]),sh (.str (Ao "ends")),sh (.L ((Cj p l).map (DO w))),sh (.L ((Cj p l).map (Ai Aa))),Af,Af] [6,7] B6) (f:=ϐ Z [si p,sh (Au l),sh (.H [.str (Ao "ends"),.L ((Cj p l).map (DO w))]),sh (.str (Ao "ends")),sh (.L ((Cj p l).map (DO w))),sh (.L ((Cj p l).map (Ai Aa))),Af,Af] [6,7] Os) (λx=>D.H [Ai Aa x,DO w x]) (λ_=>Aa) (λ_=>D.bl Aa) (Cj p l) λx hx=>⟨rfl,λ_=>by
  obtain⟨m1,m2⟩:=BJ.mp hx;obtain⟨w1,w2,w3,w4⟩:=hw x hx;have e:=hr p l x _ _ hp ((FG hp).mp m1) (nf _ w1) (nf _ w2) w1 w2 w3 w4;have e':Z.F 334 [.int p,Au l,Ai Aa x,DO w x]=.ok (.bl Aa):=e;generalize DO w x=R,Au l=T at *;generalize D.H [.str (Ao "ends"),.L ((Cj p l).map (DO w))]=E1;generalize D.str (Ao "ends")=E2;generalize D.L ((Cj p l).map (DO w))=E3;generalize (Cj p l).map (Ai Aa)=LL;generalize Ai Aa x=X at *;simp[ϐ,Os,e']⟩
 rw[<-S6]at c2;exact UQ (RW:=(Cj p l).map (DO w)) (LL:=(Cj p l).map (Ai Aa)) (Hz l) hl e3 (h5 p l hp) (by rw[AG,AG,Bo rfl]) λ_=>⟨c2,PD _⟩
def tq(ht:KS Z 234)(h5:∀ p l,P4 p->Z.F 335 [.int p,Au l]=.ok (Au (Cj p l)))(hp:P4 p)(l:Ac R3)(RW:Ac D)(nf:∀ y∈l,NF p y)(hz:ü p l=Af)(hl:(l.length:Ad)<=p)(hw:RW.length≠(Cj p l).length):IK.run Z [.int p,Au l,.H [.str (Ao "ends"),.L RW]]=.ok (.bl Ae):=by
 have ph:=hp.hi;have e3:=ht p l hp nf (by omega)
 rw[hz]at e3;exact UQ (BB:=[]) (LL:=(Cj p l).map (Ai Aa)) (Hz l) hl e3 (h5 p l hp) (Bw (by rw[AG];omega)).symm (λc=>by cases c)
def u7(hf:Uc Z)(ht:KS Z 234)(hp:P4 p)(l:Ac R3)(x:R3)(nx:NF p x)(nf:∀ y∈l,NF p y)(hx:x∉l)(hz:ü p (l++[x])=Af)(hl:l.length<=100):IK.run Z [.int p,Au l,.H [.str (Ao "more"),Ai Aa x]]=.ok (.bl Aa):=by
 have e3:=ht p (l++[x]) hp (λy hy=>by
  rcases C5.mp hy with h|h
  .exact nf y h
  .rw[AQ.mp h];exact nx) (by rw[BE];simp;omega)
 rw[hz]at e3;have e4:Au (l++[x])=.L (l.map (Ai Aa)++[Ai Aa x]):=by unfold Au;rw[D4];rfl
 rw[e4]at e3;have i:=Lw x l;rw[Bw hx]at i;exact nB (hf p x hp nx) i (LU.mpr (by rw[AG];omega)) e3
def NX(h:N3 p l):ü p l=Af:=Zzm h.nd λx hx y hy z hz n1 n2 n3=>h.n3 x y z hx hy hz n1 n2 n3
def rJ(h:∀ x,x∈m↔x∈l):Cj p m=Cj p l:=by
 unfold Cj;refine Gw λx _=>?_
 simp[h x]
def rK(hy:y∈Cr p)(hn:y∉m)(hl:y∈l)(hs:∀ x∈m,x∈l):(Cj p m).length≠(Cj p l).length:=by
 have e:Cj p l=(Cj p m).filter λx=>!decide (x∈l):=by
  unfold Cj;rw[Z_1];refine Gw λx _=>?_
  have:=hs x;by_cases h:x∈l<;>by_cases k:x∈m<;>simp[h,k]at this ⊢
 have m1:y∈Cj p m:=BJ.mpr ⟨hy,by simp[hn]⟩
 rw[e];exact Cm (List.length_filter_lt_length_iff_exists.mpr ⟨y,m1,by simp[hl]⟩)
def lA{S X:D}{i w:Ad}(em:Z.F 228 [S,.int (40+i)]=.ok (.int n))(ex:Z.F 231 [.int p,.int n]=.ok X)(fX:Y8 5 X=Aa)(fl:∀ x,x∈L->Y8 5 x=Aa)(nn:¬ ∀ x,x∈L->U4 x X=Ae):Bu Z 4 HA (.int i) [si p,sh S,Ab (.L L,Aa),si w,s4,s5]=.next [si p,sh S,Ab (.L L,Aa),si w,si i,sh X]:=by
 simp[Bu,HA,em,ex];rw[AC ⟨fX,fl⟩,AH nn]
def Zyi{S X:D}{i w:Ad}(em:Z.F 228 [S,.int (40+i)]=.ok (.int n))(ex:Z.F 231 [.int p,.int n]=.ok X)(fX:Y8 5 X=Aa)(fl:∀ x,x∈L->Y8 5 x=Aa)(nn:∀ x,x∈L->U4 x X=Ae)(z:Dv (L.length+1)=Aa)(e3:Z.F 234 [.int p,.L (L++[X])]=.ok Y_)(iy:Ci .Is Y_ .O=.ok (.bl b)):Bu Z 4 HA (.int i) [si p,sh S,Ab (.L L,Aa),si w,s4,s5]=.next [si p,sh S,Ab (.L (if w=3\/b=Aa then L++[X] else L),Aa),si w,si i,sh X]:=by
 by_cases h:w=3
 .simp[Bu,HA,em,ex,h,DG,z];rw[AC ⟨fX,fl⟩,AC nn]
 .cases b
  .simp[Bu,HA,em,ex,h,DG,z,e3,iy];exact⟨fX,fl⟩
  .simp[Bu,HA,em,ex,h,DG,z,e3,iy];rw[AC ⟨fX,fl⟩,AC nn]
def Oe{ns:Ac Ad}(hm:KR Z 228 ns)(hq:N9 Z)(ht:KS Z 234)(hp:P4 p){w:Ad}:∀(m:Ag)(i:Ag)(l:Ac R3)(s4 s5:Sl),(∀ x∈l,NF p x)->l.Nodup->l.length+m<=100->∃(l':Ac R3)(ϵ Ϸ:Sl),(∀ x∈l',NF p x)/\l'.Nodup/\l'.length<=l.length+m/\CD (Bu Z 4 HA) (Dx i m) [si p,sh (þ ns),Ab (.L (l.map (Ai Aa)),Aa),si w,s4,s5]=.next [si p,sh (þ ns),Ab (.L (l'.map (Ai Aa)),Aa),si w,ϵ,Ϸ]
 |0,i,l,s4,s5,nf,nd,hl=>⟨l,s4,s5,nf,nd,by omega,rfl⟩
 |m+1,i,l,s4,s5,nf,nd,hl=>by
  obtain⟨n,n0,em⟩:=hm (40+i) (by omega)
  have ex:=hq p n hp;have nx:NF p (ϥ p (n%(p*p+p+1))):=qp hp n;generalize ϥ p (n%(p*p+p+1))=x at *;have fl:∀ y,y∈l.map (Ai Aa)->Y8 5 y=Aa:=λy hy=>by
   obtain⟨z,_,rfl⟩:=A7.mp hy;rfl
  rw[qR];by_cases c:x∈l
  .have st:=lA (p:=p) (s4:=s4) (s5:=s5) (w:=w) em ex rfl fl λz=>by
    have:=z _ (aD c);rw[Hn]at this;simp at this
   obtain⟨l',ϵ,Ϸ,g1,g2,g3,ih⟩:=Oe hm hq ht hp (w:=w) m (i+1) l (si i) (sh (Ai Aa x)) nf nd (by omega)
   refine⟨l',ϵ,Ϸ,g1,g2,by omega,?_⟩
   show (Bu Z 4 HA (.int i) _).turn _=_;rw[st];exact ih
  .have nf':∀ y∈l++[x],NF p y:=λy hy=>by
    rcases C5.mp hy with h|h
    .exact nf y h
    .rw[AQ.mp h];exact nx
   have nd':(l++[x]).Nodup:=Ft.mpr ⟨nd,by simp,λa ha b hb e=>c (by rw[AQ.mp hb]at e;exact e ▸ ha)⟩
   have e3:=ht p (l++[x]) hp nf' (by rw[BE];simp;omega)
   have e4:Au (l++[x])=.L (l.map (Ai Aa)++[Ai Aa x]):=by unfold Au;rw[D4];rfl
   rw[e4]at e3;obtain⟨b,iy⟩:∃ b,Ci .Is ((ü p (l++[x])).getD .O) .O=.ok (.bl b):=by
    cases h:ü p (l++[x]) with
    |none=>exact⟨Aa,rfl⟩
    |some d=>
     obtain⟨_,_,_,_,_,_,_,_,_,_,rfl⟩:=Ye nd' h;exact⟨Ae,rfl⟩
   have st:=Zyi (p:=p) (s4:=s4) (s5:=s5) (w:=w) em ex rfl fl (λy hy=>by
    obtain⟨z,hz,rfl⟩:=A7.mp hy;rw[Hn];exact Bw λe=>c (e ▸ hz)) (LU.mpr (by rw[AG];omega)) e3 iy
   by_cases hb:w=3\/b=Aa
   .rw[AC hb]at st;have e5:l.map (Ai Aa)++[Ai Aa x]=(l++[x]).map (Ai Aa):=by rw[D4];rfl
    rw[e5]at st;obtain⟨l',ϵ,Ϸ,g1,g2,g3,ih⟩:=Oe hm hq ht hp (w:=w) m (i+1) (l++[x]) (si i) (sh (Ai Aa x)) nf' nd' (by rw[BE];simp;omega)
    rw[BE]at g3;refine⟨l',ϵ,Ϸ,g1,g2,by simp at g3;omega,?_⟩
    show (Bu Z 4 HA (.int i) _).turn _=_;rw[st];exact ih
   .rw[AH hb]at st;obtain⟨l',ϵ,Ϸ,g1,g2,g3,ih⟩:=Oe hm hq ht hp (w:=w) m (i+1) l (si i) (sh (Ai Aa x)) nf nd (by omega)
    refine⟨l',ϵ,Ϸ,g1,g2,by omega,?_⟩
    show (Bu Z 4 HA (.int i) _).turn _=_;rw[st];exact ih
def UV{S:D}{w:Ad}(fr:Z.fr 251=Aa)(et:Z.F 250 [.int p,S,.int 3]=.ok RR)(eo:Z.F 290 [.int p,RR]=.ok OO)(er:Z.F 251 [S,.int 20,OO]=.ok (.L M))(e1:Z.F 228 [S,.int 1]=.ok (.int m))(hw:m%4=w)(w1:¬ w=1)(w2:¬ w=2)(ix:Dl [D.int 0,D.int 0,D.int 18,D.int 3] w=.ok (.int N))(rg:De 0 N=.ok RL)(lp:CD (Bu Z 4 HA) RL [si p,sh S,Ab (.L M,Aa),si w,Af,Af]=.next [si p,sh S,Ab (.L L,Aa),si w,s4,s5]):KH.run Z [.int p,S]=.ok (.L L):=by
 simp[KH,Df.run,Bc,et,eo,er,e1,hw,w1,w2,ix,rg,lp,Dy,fr]
def mJ{S:D}{L RL:Ac D}{s4 s5:Sl}(fr:Z.fr 251=Aa)(et:Z.F 250 [.int p,S,.int 3]=.ok RR)(eo:Z.F 290 [.int p,RR]=.ok OO)(er:Z.F 251 [S,.int 20,OO]=.ok (.L M))(e1:Z.F 228 [S,.int 1]=.ok (.int m))(hw:m%4=1)(e2:Z.F 228 [S,.int 2]=.ok (.int m2))(hj:0<p+1)(sl:Ý (.L M) Af (Ab (m2%(p+1)))=.ok (.L L0)):KH.run Z [.int p,S]=.ok (.L L0):=by
 have ix:Dl [D.int 0,D.int 0,D.int 18,D.int 3] 1=.ok (.int 0):=rfl;have rg:De 0 0=.ok []:=rfl;simp[KH,Df.run,Bc,et,eo,er,e1,hw,e2,hj,slE,sl,ix,rg,Dy,fr,CD]
def mI{S:D}(fr:Z.fr 251=Aa)(et:Z.F 250 [.int p,S,.int 3]=.ok RR)(eo:Z.F 290 [.int p,RR]=.ok OO)(er:Z.F 251 [S,.int 20,OO]=.ok (.L M))(e1:Z.F 228 [S,.int 1]=.ok (.int m))(hw:m%4=2)(rg:De 0 18=.ok RL)(lp:CD (Bu Z 4 HA) RL [si p,sh S,Ab (.L [],Aa),si 2,Af,Af]=.next [si p,sh S,Ab (.L L,Aa),si 2,s4,s5]):KH.run Z [.int p,S]=.ok (.L L):=by
 have ix:Dl [D.int 0,D.int 0,D.int 18,D.int 3] 2=.ok (.int 18):=rfl;simp[KH,Df.run,Bc,et,eo,er,e1,hw,ix,rg,lp,Dy,fr]
def yS(M:Ac R3){i:Ad}(h0:0<=i):Ý (Au M) Af (Ab i)=.ok (Au (M.take i.toNat)):=by
 show R.ok (D.L (((M.map (Ai Aa)).drop (EX (M.map (Ai Aa)).length 0 Af)).take (EX (M.map (Ai Aa)).length (M.map (Ai Aa)).length (Ab i)-EX (M.map (Ai Aa)).length 0 Af)))=_;rw[SL h0];have e:EX (M.map (Ai Aa)).length 0 Af=0:=rfl;rw[e,JI,IE];unfold Au
 congr 2
 rw[Kg];by_cases h:i.toNat<=M.length
 .rw[Je (by rw[AG];exact h)]
 .rw[aP (by rw[AG];omega),Eg (AT _),Eg (by rw[AG];omega)]
def qk(h:HL74 Z ns)(ht:KS Z 234)(fr:Z.fr 251=Aa)(hp:P4 p):∃ l:Ac R3,(∀ x∈l,NF p x)/\l.Nodup/\l.length<=100/\KH.run Z [.int p,þ ns]=.ok (Au l):=by
 have ph:=hp.hi;have pl:=hp.lo;obtain⟨m1,_,e1⟩:=h.mix 1 (by decide)
 obtain⟨m2,_,e2⟩:=h.mix 2 (by decide)
 have rk:∀ N:Ad,0<=N->N<=1000->De 0 N=.ok (Dx 0 N.toNat):=λN h1 h2=>by
  have:=NC (lo:=0) (hi:=N) (by decide) (by decide) (by omega) (by omega)
  rwa [G5]at this
 obtain⟨a,b,c,G,et⟩:=h.tb p 3 hp (by decide)
 have eo:=h.ov p a b c G;have ll:((GU p).map λx=>OV p (ap a b c x)).length<=60:=by rw[AG];exact(uV hp).2
 have nO:∀ x∈((GU p).map λx=>OV p (ap a b c x)),NF p x:=λx hx=>by
  obtain⟨w,hw,rfl⟩:=A7.mp hx;obtain⟨_,l,el⟩:=Pb hp hw;obtain⟨k,ek⟩:=NM hp G.nz el Z5.rfl;exact(Mr hp ek).1
 have dO:=b8 hp G.nz;obtain⟨M,pm,er⟩:=h.ord 20 _ (by decide) ll
 generalize ((GU p).map λx=>OV p (ap a b c x))=OL at *
 have nM:∀ x∈M,NF p x:=λx hx=>nO x (pm.mem_iff.mp hx)
 have dM:M.Nodup:=pm.nodup_iff.mpr dO;have lM:M.length<=60:=by rw[pm.length_eq];exact ll
 have wc:m1%4=0\/m1%4=1\/m1%4=2\/m1%4=3:=by omega
 rcases wc with w|w|w|w
 .exact⟨M,nM,dM,by omega,UV (RL:=[]) fr et eo er e1 w (by decide) (by decide) rfl rfl rfl⟩
 .have q0:=A3 m2 (show p+1≠0 by omega)
  exact⟨M.take (m2%(p+1)).toNat,λx hx=>nM x (aE hx),dM.sublist (Gy _ _),by rw[ER];omega,mJ (L:=[]) (RL:=[]) (s4:=Af) (s5:=Af) fr et eo er e1 w e2 (by omega) (yS M q0)⟩
 .obtain⟨l,s4,s5,g1,g2,g3,lp⟩:=Oe h.mix h.pt ht hp (w:=2) 18 0 [] Af Af (by simp) (by simp) (by simp)
  exact⟨l,g1,g2,by simp at g3;omega,mI fr et eo er e1 w (rk 18 (by decide) (by decide)) (by exact lp)⟩
 .obtain⟨l,s4,s5,g1,g2,g3,lp⟩:=Oe h.mix h.pt ht hp (w:=3) 3 0 M Af Af nM dM (by omega)
  exact⟨l,g1,g2,by omega,UV fr et eo er e1 w (by decide) (by decide) rfl (rk 3 (by decide) (by decide)) (by exact lp)⟩
section
variable{Z:Z2}{p:Ad}
noncomputable abbrev š(p:Ad)(S T P Q:D)(a b c d:Sl):Rho:=[sh S,si p,sh T,sh P,sh Q,a,b,c,d,Af]
def Ie(Z:Z2)(p:Ad)(S T P Q E:D):Prop:=∀ a b c d:Sl,∃ k,Bu Z 5 Ls E (š p S T P Q a b c d)=.next (š p S T P Q (sh E) (sh T) (sh E) k)
def jH{S T R E L:D}(lT:Tm .list [T]=.ok T)(ek:Z.F 338 [E]=.ok E)(e1:Z.F 332 [.int p,T,E]=.ok (.bl Aa))(fT:Y8 5 T=Aa)(qT:U4 T T=Aa)(fE:Y8 5 E=Aa)(rv:Tm .rvs [T]=.ok R)(e2:Z.F 332 [.int p,R,E]=.ok (.bl Aa))(ln:Tm .len [T]=.ok (.int n))(e3:0<n->∃ k,Ý T Af (Ab (-1))=.ok L/\Z.F 332 [.int p,L,E]=.ok (.bl k)/\Z.F 336 [.int p,L,E]=.ok (.bl k)):Ie Z p S T P Q E:=λa b c d=>by
 have qE:=Sz 5 _ fE;have ib:Ci .IsNot (.bl Aa) (.bl Aa)=.ok (.bl Ae):=rfl;by_cases hn:0<n
 .obtain⟨k,sl,e3,e4⟩:=e3 hn;have Ş:Fm Z.up [.bool] (.bl k)=.ok (.bl Aa):=rfl;have qb:U4 (.bl k) (.bl k)=Aa:=by cases k<;>rfl
  exact⟨sh (.bl k),by simp[š,Bu,Ls,lT,ek,e1,ib,fT,qT,fE,qE,rv,e2,ln,hn,slE,sl,e3,e4,Ş,qb]⟩
 .exact⟨d,by simp[š,Bu,Ls,lT,ek,e1,ib,fT,qT,fE,qE,rv,e2,ln,hn]⟩
def Up{S T:D}:∀(L:Ac D)(a b c d:Sl),(∀ E∈L,Ie Z p S T P Q E)->∃ a' b' c' d',CD (Bu Z 5 Ls) L (š p S T P Q a b c d)=.next (š p S T P Q a' b' c' d')
 |[],a,b,c,d,_=>⟨a,b,c,d,rfl⟩
 |E::L,a,b,c,d,h=>by
  obtain⟨k,e⟩:=h E Ax a b c d;obtain⟨a',b',c',d',ih⟩:=Up L (sh E) (sh T) (sh E) k λx hx=>h x (Av _ hx)
  refine⟨a',b',c',d',?_⟩;show (Bu Z 5 Ls E _).turn _=_;rw[e];exact ih
section
variable{S T X:D}{w:An}(e1:Z.F 229 [S]=.ok (.int p))(e2:Z.F 337 [.int p,S]=.ok T)(lT:Tm .list [T]=.ok T)(e3:Z.F 227 [.int p,T]=.ok (.H [.str w,X]))(e4:Z.F 336 [.int p,T,.H [.str w,X]]=.ok (.bl Aa))
include e1 e2 lT e3 e4
def Zc(w1:w≠Ao "line")(w2:w≠Ao "ends")(lo:Ie Z p S T (.H [.str w,X]) (.L [.H [.str w,X]]) (.H [.str w,X])):HX.run Z [S]=.ok (.bl Aa):=by
 obtain⟨a,b,c,d,lo⟩:=Up [.H [.str w,X]] Af Af Af Af λE hE=>by
  rw[AQ.mp hE];exact lo
 have x0:BR (.H [.str w,X]) (.int 0)=.ok (.str w):=rfl;have x1:BR (.H [.str w,X]) (.int 1)=.ok X:=rfl;generalize D.H [.str w,X]=P at *;simp[w1,w2,HX,Df.run,Bc,e1,e2,lT,e3,e4,x0,x1,Dy,DG,Tj,lo]
omit e1 e2 lT e3 e4 in
def Y_6{E:D}(t1:∀ Q,Ie Z p S T P Q P)(t2:∀ Q,Ie Z p S T P Q E):∃ a b c d,CD (Bu Z 5 Ls) [P,E] (š p S T P (.L [P,E]) Af Af Af Af)=.next (š p S T P (.L [P,E]) a b c d):=Up [P,E] Af Af Af Af λF hF=>by
 rcases Aw.mp hF with rfl|hF
 .exact t1 _
 .rw[AQ.mp hF];exact t2 _
def jK(hw:w=Ao "line")(hX:X=.H [A,B,C])(t1:∀ Q,Ie Z p S T (.H [.str w,X]) Q (.H [.str w,X]))(t2:∀ Q,Ie Z p S T (.H [.str w,X]) Q (.H [.str w,.H [C,A,B]])):HX.run Z [S]=.ok (.bl Aa):=by
 obtain⟨a,b,c,d,lo⟩:=Y_6 t1 t2;have x0:BR (.H [.str w,X]) (.int 0)=.ok (.str w):=rfl;have x1:BR (.H [.str w,X]) (.int 1)=.ok X:=rfl;have y0:BR X (.int 0)=.ok A:=by rw[hX];rfl
 have y1:BR X (.int 1)=.ok B:=by rw[hX];rfl
 have y2:BR X (.int 2)=.ok C:=by rw[hX];rfl
 have z:Dv (1+1)=Aa:=rfl;have w4:w≠Ao "ends" := by rw[hw];exact A8 IW.2.2.2.1
 generalize D.H [.str w,X]=P at *;subst hw;simp[w4,HX,Df.run,Bc,e1,e2,lT,e3,e4,x0,x1,y0,y1,y2,Dy,DG,Tj,lo,z]
def jL(hw:w=Ao "ends")(hX:X=.L RW)(c:∀ P:D,Bz (cG Z [sh S,si p,sh T,sh P,Ab (.L [P],Aa),Af,Af,Af,Af,Af] 9 B6) (cF Z [sh S,si p,sh T,sh P,Ab (.L [P],Aa),Af,Af,Af,Af,Af] 9 Nv) RW=.ok RV)(t1:∀ Q,Ie Z p S T (.H [.str w,X]) Q (.H [.str w,X]))(t2:∀ Q,Ie Z p S T (.H [.str w,X]) Q (.H [.str w,.L RV])):HX.run Z [S]=.ok (.bl Aa):=by
 obtain⟨a,b,c',d,lo⟩:=Y_6 t1 t2;have x0:BR (.H [.str w,X]) (.int 0)=.ok (.str w):=rfl;have x1:BR (.H [.str w,X]) (.int 1)=.ok X:=rfl;have z:Dv (1+1)=Aa:=rfl;have w4:w≠Ao "line" := by rw[hw];exact IW.2.2.2.1
 generalize D.H [.str w,X]=P at *;subst hX hw;simp[w4,HX,Df.run,Bc,e1,e2,lT,e3,e4,x0,x1,Dy,DG,Tj,c,lo,z]
end
end
def nX(RW:Ac D):Nz.run Z [.H [.str (Ao "ends"),.L RW]]=.ok (.H [.str (Ao "ends"),.L RW]):=by
 have x0:BR (.H [.str (Ao "ends"),.L RW]) (.int 0)=.ok (.str (Ao "ends")):=rfl;have x1:BR (.H [.str (Ao "ends"),.L RW]) (.int 1)=.ok (.L RW):=rfl;have li:Tm .list [.L RW]=.ok (.L RW):=rfl;generalize hP:D.H [.str (Ao "ends"),.L RW]=P at *;simp[Nz,Df.run,Bc,x0,x1,li];exact hP
def nW(h:w≠Ao "ends"):Nz.run Z [.H [.str w,X]]=.ok (.H [.str w,X]):=by
 have x0:BR (.H [.str w,X]) (.int 0)=.ok (.str w):=rfl;generalize D.H [.str w,X]=P at *;simp[Nz,Df.run,Bc,x0,h]
def oB(l:Ac R3):Tm .rvs [Au l]=.ok (Au l.reverse):=by
 show R.ok (D.L (l.map (Ai Aa)).reverse)=_;rw[<-List.map_reverse];rfl
def nE(h:l≠[]):Ý (Au l) Af (Ab (-1))=.ok (Au l.dropLast):=by
 have hl:0<l.length:=List.length_pos_iff.mpr h;show R.ok (D.L (((l.map (Ai Aa)).drop (EX (l.map (Ai Aa)).length 0 Af)).take (EX (l.map (Ai Aa)).length (l.map (Ai Aa)).length (Ab (-1))-EX (l.map (Ai Aa)).length 0 Af)))=_;have e:EX (l.map (Ai Aa)).length 0 Af=0:=rfl;have e2:EX (l.map (Ai Aa)).length (l.map (Ai Aa)).length (Ab (-1))=l.length-1:=by
  rw[AG];unfold EX;simp;omega
 rw[e,e2,JI,IE,List.dropLast_eq_take,<-Kg];rfl
def Qm{S E:D}(ek:Z.F 338 [E]=.ok E)(fE:Y8 5 E=Aa)(e1:Z.F 332 [.int p,Au l,E]=.ok (.bl Aa))(e2:Z.F 332 [.int p,Au l.reverse,E]=.ok (.bl Aa))(e3:l≠[]->∃ k,Z.F 332 [.int p,Au l.dropLast,E]=.ok (.bl k)/\Z.F 336 [.int p,Au l.dropLast,E]=.ok (.bl k)):Ie Z p S (Au l) P Q E:=
 jH rfl ek e1 (Ti l).1 (Ti l).2 fE (oB l) e2 (Hz l) λhn=>by
  have h:l≠[]:=λc=>by rw[c]at hn;exact absurd hn (by decide)
  obtain⟨k,b1,b2⟩:=e3 h;exact⟨k,nE h,b1,b2⟩
def N7(Z:Z2)(i:Ag):Prop:=∀(p:Ad)(m:Ac R3)(a b c:R3),P4 p->NF p a->NF p b->NF p c->a≠b->a≠c->b≠c->Ak a b c%p=0->Z.F i [.int p,Au m,.H [.str (Ao "line"),.H [Ai Aa a,Ai Aa b,Ai Aa c]]]=.ok (.bl (decide (a∈m)&&decide (b∈m)&&decide (c∈m)))
def LA(a b c:R3):Ak c a b=Ak a b c:=by
 unfold Ak U0;grind
def v9{S:D}{a:R3}(hs:N7 Z 332)(hd:N7 Z 336)(hk:∀ X,Z.F 338 [.H [.str (Ao "line"),X]]=.ok (.H [.str (Ao "line"),X]))(hp:P4 p)(e1:Z.F 229 [S]=.ok (.int p))(e2:Z.F 337 [.int p,S]=.ok (Au l))(e3:Z.F 227 [.int p,Au l]=.ok (.H [.str (Ao "line"),.H [Ai Aa a,Ai Aa b,Ai Aa c]]))(nf:∀ x∈l,NF p x)(n1:a≠b)(n2:a≠c)(n3:b≠c)(dz:Ak a b c%p=0)(ha:a∈l)(hb:b∈l)(hc:c∈l):HX.run Z [S]=.ok (.bl Aa):=by
 have t:∀ {i},N7 Z i->∀ {m a b c},NF p a->NF p b->NF p c->a≠b->a≠c->b≠c->Ak a b c%p=0->a∈m->b∈m->c∈m->Z.F i [.int p,Au m,.H [.str (Ao "line"),.H [Ai Aa a,Ai Aa b,Ai Aa c]]]=.ok (.bl Aa):=λ{i} h {m a b c} na nb nc n1 n2 n3 dz ha hb hc=>by
  rw[h p m a b c hp na nb nc n1 n2 n3 dz,Bo ha,Bo hb,Bo hc];rfl
 have k:∀ {a b c P Q},NF p a->NF p b->NF p c->a≠b->a≠c->b≠c->Ak a b c%p=0->a∈l->b∈l->c∈l->Ie Z p S (Au l) P Q (.H [.str (Ao "line"),.H [Ai Aa a,Ai Aa b,Ai Aa c]]):=λ{a b c P Q} na nb nc n1 n2 n3 dz ha hb hc=>
  Qm (hk _) rfl (t hs na nb nc n1 n2 n3 dz ha hb hc) (t hs na nb nc n1 n2 n3 dz (FM.mpr ha) (FM.mpr hb) (FM.mpr hc)) λ_=>⟨_,hs p l.dropLast a b c hp na nb nc n1 n2 n3 dz,hd p l.dropLast a b c hp na nb nc n1 n2 n3 dz⟩
 have na:=nf a ha;have nb:=nf b hb;have nc:=nf c hc;exact jK e1 e2 rfl e3 (t hd na nb nc n1 n2 n3 dz ha hb hc) rfl rfl (λ_=>k na nb nc n1 n2 n3 dz ha hb hc) λ_=>k nc na nb (A8 n2) (A8 n3) n1 (by rw[LA];exact dz) hc ha hb
def N6(Z:Z2)(i:Ag):Prop:=∀(p:Ad)(m:Ac R3)(x:R3),P4 p->N3 p (m++[x])->m.length<=100->Z.F i [.int p,Au m,.H [.str (Ao "more"),Ai Aa x]]=.ok (.bl Aa)
def wb{S:D}(hs:N6 Z 332)(hd:N6 Z 336)(hk:∀ X,Z.F 338 [.H [.str (Ao "more"),X]]=.ok (.H [.str (Ao "more"),X]))(hp:P4 p)(e1:Z.F 229 [S]=.ok (.int p))(e2:Z.F 337 [.int p,S]=.ok (Au l))(e3:Z.F 227 [.int p,Au l]=.ok (.H [.str (Ao "more"),Ai Aa x]))(h:N3 p (l++[x]))(hl:l.length<=100):HX.run Z [S]=.ok (.bl Aa):=by
 have hr:N3 p (l.reverse++[x]):=h.perm (List.Perm.append_right _ (Il l));have hq:N3 p (l.dropLast++[x]):=h.sub (List.Sublist.append (GY l) (List.Sublist.refl _));have l1:l.reverse.length<=100:=by rw[EY];exact hl
 have l2:l.dropLast.length<=100:=by rw[FK];omega
 exact Zc e1 e2 rfl e3 (hd p l x hp h hl) IW.2.1 (A8 IW.2.2.2.2.2) (Qm (hk (Ai Aa x)) rfl (hs p l x hp h hl) (hs p l.reverse x hp hr l1) λ_=>⟨Aa,hs p l.dropLast x hp hq l2,hd p l.dropLast x hp hq l2⟩)
def Yl(f:∀(p:Ad)(m:Ac R3)(x:R3),P4 p->NF p x->(∀ y∈m,NF p y)->x∉m->ü p (m++[x])=Af->m.length<=100->Z.F i [.int p,Au m,.H [.str (Ao "more"),Ai Aa x]]=.ok (.bl Aa)):N6 Z i:=λp m x hp h hl=>by
 refine f p m x hp (h.nf x (by simp)) (λy hy=>h.nf y (by simp[hy])) (λhx=>?_) (NX h) hl
 exact(Ft.mp h.nd).2.2 x hx x (by simp) rfl
def oo(α β γ:Ad)(a b c x:R3):vI (pb ⟨0,0,0,α,β,γ⟩ (Z8 b c) (Z8 c a) (Z8 a b)) x=α*(Ak x b c*Ak a x c)+β*(Ak x b c*Ak a b x)+γ*(Ak a x c*Ak a b x):=by
 have e1:Ay (Z8 b c) x=Ak x b c:=by unfold Ay Z8 Ak U0;simp only;grind
 have e2:Ay (Z8 c a) x=Ak a x c:=by unfold Ay Z8 Ak U0;simp only;grind
 have e3:Ay (Z8 a b) x=Ak a b x:=by unfold Ay Z8 Ak U0;simp only;grind
 rw[Uf];unfold ap;rw[e1,e2,e3];unfold vI;simp only;grind
def jd(hp:P4 p)(wQ:Ϛ p Q){a:R3}(dz:Ak a b c%p≠0)(ha:vI Q a%p=0)(hb:vI Q b%p=0)(hc:vI Q c%p=0):∃ α β γ,α%p≠0/\β%p≠0/\γ%p≠0/\ë p Q (pb ⟨0,0,0,α,β,γ⟩ (Z8 b c) (Z8 c a) (Z8 a b)):=by
 have t:=rE (Q:=Q) ha hb hc;rw[<-SQ]at t;generalize bI Q a b=α,bI Q a c=β,bI Q b c=γ at *;have pr:ë p (pb ⟨0,0,0,α,β,γ⟩ (Z8 b c) (Z8 c a) (Z8 a b)) Q:=⟨_,B4 hp dz dz,t.symm⟩;have w:=SK hp pr wQ;rw[TW]at w;have e:Ak (ò ⟨0,0,0,α,β,γ⟩) (ó ⟨0,0,0,α,β,γ⟩) (ú ⟨0,0,0,α,β,γ⟩)=2*(α*β*γ):=by unfold ò ó ú Ak U0;simp only;grind
 rw[e]at w;have z:∀{u v:Ad},u%p=0->(u*v)%p=0:=λh=>by rw[Be,h,EN,Bp]
 have z':∀{u v:Ad},v%p=0->(u*v)%p=0:=λh=>by rw[Be,h,CT,Bp]
 exact⟨α,β,γ,λh=>w (z' (z' (z (z h)))),λh=>w (z' (z' (z (z' h)))),λh=>w (z' (z' (z' h))),ë.symm hp pr⟩
def pf(hp:P4 p){α:Ad}{a x:R3}(pQ:ë p Q (pb ⟨0,0,0,α,β,γ⟩ (Z8 b c) (Z8 c a) (Z8 a b)))(h:vI Q x%p=0):(α*(Ak x b c*Ak a x c)+β*(Ak x b c*Ak a b x)+γ*(Ak a x c*Ak a b x))%p=0:=by
 rw[<-oo];obtain⟨d,dz,q⟩:=pQ;have q:=Jr (x:=x) (x':=x) q ⟨Cg.rfl,Cg.rfl,Cg.rfl⟩;rw[Pq]at q;rw[show vI Q x%p=_ from q]at h
 exact(FP hp dz).mp h
def N3.snoc93(hp:P4 p)(h:N3 p l)(ng:NF p g)(gl:g∉l)(hd:∀ x∈l,∀ y∈l,x≠y->Ak x y g%p≠0):N3 p (l++[g]):=by
 refine⟨Ft.mpr ⟨h.nd,by simp,λx hx y hy q=>?_⟩,λx hx=>?_,λx y u hx hy hu n1 n2 n3=>?_⟩
 .rw[AQ.mp hy]at q;exact gl (q ▸ hx)
 .rcases C5.mp hx with hx|hx
  .exact h.nf x hx
  .rw[AQ.mp hx];exact ng
 .rcases C5.mp hx with hx|hx<;>rcases C5.mp hy with hy|hy<;>rcases C5.mp hu with hu|hu
  .exact h.n3 x y u hx hy hu n1 n2 n3
  .rw[AQ.mp hu];exact hd x hx y hy n1
  .rw[AQ.mp hy,PN];exact λz=>hd x hx u hu n2 (by have:=Qs z;rwa [Int.neg_neg]at this)
  .exact absurd ((AQ.mp hy).trans (AQ.mp hu).symm) n3
  .rw[AQ.mp hx,LA];exact hd y hy u hu n3
  .exact absurd ((AQ.mp hx).trans (AQ.mp hu).symm) n2
  .exact absurd ((AQ.mp hx).trans (AQ.mp hy).symm) n1
  .exact absurd ((AQ.mp hx).trans (AQ.mp hy).symm) n1
def Zh(hp:P4 p){a x:R3}(nb:NF p b)(nx:NF p x)(dz:Ak a b c%p≠0)(h1:Ak a b x%p=0)(h2:Ak b c x%p=0):x=b:=by
 refine uD hp nb nx (u:=Z8 a b) (v:=Z8 b c) (Pr.symm hp ⟨_,dz,Z5.of (iq a b c)⟩) ?_ ?_
 .rw[show Ay (Z8 a b) x=Ak a b x by unfold Ay Z8 Ak U0;simp only;grind]
  exact h1
 .rw[show Ay (Z8 b c) x=Ak b c x by unfold Ay Z8 Ak U0;simp only;grind]
  exact h2
def oE(hp:P4 p)(n3:N3 p l)(hl:(l.length:Ad)=p+1)(wC:Ϛ p C)(on:∀ x∈l,vI C x%p=0)(nx:NF p x)(hx:vI C x%p=0):x∈l:=by
 refine B5 λc=>Yz hp (N3.snoc93 hp n3 nx c λa ha b hb ne z=>?_) (by rw[BE];simp;omega)
 obtain⟨d,hd,da,db⟩:∃ d∈l,d≠a/\d≠b:=by
  have h1:=B9 ha;have h2:=B9 ((n3.nd.mem_erase_iff (a:=b) (b:=a)).mpr ⟨A8 ne,hb⟩);have:=hp.lo;obtain⟨d,hd⟩:=ZY (l:=(l.erase a).erase b) (by omega)
  obtain⟨d1,d2⟩:=((n3.nd.erase a).mem_erase_iff (a:=d) (b:=b)).mp hd;obtain⟨d3,d4⟩:=(n3.nd.mem_erase_iff (a:=d) (b:=a)).mp d2;exact⟨d,d4,d3,d1⟩
 have dz:=n3.n3 a b d ha hb hd ne (A8 da) (A8 db);obtain⟨α,β,γ,z1,_,_,pQ⟩:=jd hp wC dz (on a ha) (on b hb) (on d hd);have t:=pf hp pQ hx;have t1:α*(Ak x b d*Ak a x d)%p=0:=by
  rw[IA,Be γ,Be (Ak a x d) (Ak a b x),IA (α*_),Be β,Be (Ak x b d) (Ak a b x),z]at t;simpa using t
 have t2:=(FP hp z1).mp t1;by_cases k:Ak x b d%p=0
 .exact c (Zh hp (n3.nf b hb) nx dz z (by rw[<-LA];exact k) ▸ hb)
 .have t3:=(FP hp k).mp t2;refine c (Zh (a:=d) (b:=a) (c:=b) hp (n3.nf a ha) nx (by rw[LA];exact dz) ?_ z ▸ ha)
  rw[LA];exact t3
def fU(hp:P4 p)(n3:N3 p l)(hl:(l.length:Ad)=p+1)(wC:Ϛ p C)(on:∀ x∈l,vI C x%p=0):Kb p C=(Cr p).filter λx=>decide (x∈l):=by
 unfold Kb;refine Gw λx hx=>?_
 by_cases h:x∈l
 .simp[h,on x h]
 .have:¬ vI C x%p=0:=λz=>h (oE hp n3 hl wC on ((FG hp).mp hx) z)
  simp[h,this]
def ZC(Z:Z2):Prop:=∀(p:Ad)(m:Ac R3)(C:C6),P4 p->ï p C->A4 p C.l=Ab 1->Ϛ p C->(∀ x∈m,NF p x)->m.Nodup->m.length<64->Z.F 332 [.int p,Au m,.H [.str (Ao "curve"),BY C]]=.ok (.bl (decide (Kb p C=(Cr p).filter λx=>decide (x∈m))))
structure Ř (Z:Z2):Prop where
 y:∀(p:Ad)(m:Ac R3)(C:C6),P4 p->(∀ x∈m,NF p x)->(m.length:Ad)=p+1->ï p C->A4 p C.l=Ab 1->Ϛ p C->(∀ x∈m,vI C x%p=0)->Z.F 336 [.int p,Au m,.H [.str (Ao "curve"),BY C]]=.ok (.bl Aa)
 n:∀(p:Ad)(m:Ac R3)(C:C6),¬ (m.length:Ad)=p+1->Z.F 336 [.int p,Au m,.H [.str (Ao "curve"),BY C]]=.ok (.bl Ae)
def YI{l:Ac R3}(nd:l.Nodup)(h:l≠[]):l.getLast h∈l/\l.getLast h∉l.dropLast:=by
 refine⟨List.getLast_mem h,λz=>?_⟩
 rw[<-List.dropLast_concat_getLast h]at nd;exact(Ft.mp nd).2.2 _ z _ (by simp) rfl
def io{S:D}(hs:ZC Z)(hd:Ř Z)(hk:∀ X,Z.F 338 [.H [.str (Ao "curve"),X]]=.ok (.H [.str (Ao "curve"),X]))(hp:P4 p)(e1:Z.F 229 [S]=.ok (.int p))(e2:Z.F 337 [.int p,S]=.ok (Au l))(e3:Z.F 227 [.int p,Au l]=.ok (.H [.str (Ao "curve"),BY C]))(n3:N3 p l)(hl:(l.length:Ad)=p+1)(iC:ï p C)(lC:A4 p C.l=Ab 1)(wC:Ϛ p C)(on:∀ x∈l,vI C x%p=0):HX.run Z [S]=.ok (.bl Aa):=by
 have ph:=hp.hi;have pt:=fU hp n3 hl wC on;have e4:=hs p l C hp iC lC wC n3.nf n3.nd (by omega)
 rw[Bo pt]at e4;have nr:=n3.perm (Il l);have e5:=hs p l.reverse C hp iC lC wC nr.nf nr.nd (by rw[EY];omega)
 rw[Bo (by rw[pt];exact Gw λx _=>by simp)]at e5
 have nq:=n3.sub (GY l);have e6:=hs p l.dropLast C hp iC lC wC nq.nf nq.nd (by rw[FK];omega)
 rw[Bw λz=>by
  have h:l≠[]:=λc=>by subst c;simp at hl;have:=hp.lo;omega
  obtain⟨y1,y2⟩:=YI n3.nd h;rw[pt]at z;have m:l.getLast h∈(Cr p).filter λx=>decide (x∈l):=BJ.mpr ⟨(FG hp).mpr (n3.nf _ y1),Bo y1⟩
  rw[z]at m;exact y2 (By (BJ.mp m).2)]at e6
 have fl:Y8 5 (.H [.str (Ao "curve"),BY C])=Aa:=rfl;exact Zc e1 e2 rfl e3 (hd.y p l C hp n3.nf hl iC lC wC on) IW.1 (A8 IW.2.2.2.2.1) (Qm (hk (BY C)) fl e4 e5 λ_=>⟨Ae,e6,hd.n p l.dropLast C (by rw[FK];have:=hp.lo;omega)⟩)
def N8(Z:Z2)(i:Ag):Prop:=∀(p:Ad)(m:Ac R3)(w:R3->R3×R3),P4 p->N3 p m->(m.length:Ad)<=p->Oi p m w->Z.F i [.int p,Au m,.H [.str (Ao "ends"),.L ((Cj p m).map (DO w))]]=.ok (.bl Aa)
def MV(Z:Z2)(i:Ag):Prop:=∀(p:Ad)(m:Ac R3)(RW:Ac D),P4 p->N3 p m->(m.length:Ad)<=p->RW.length≠(Cj p m).length->Z.F i [.int p,Au m,.H [.str (Ao "ends"),.L RW]]=.ok (.bl Ae)
def jG(w:R3->R3×R3)(L:Ac R3):Y8 5 (.H [.str (Ao "ends"),.L (L.map (DO w))])=Aa:=by
 have h:(L.map (DO w)).all (Y8 3)=Aa:=DT.mpr λd hd=>by
  obtain⟨x,_,rfl⟩:=A7.mp hd;rfl
 show (Aa&&((L.map (DO w)).all (Y8 3)&&Aa))=Aa;rw[h];rfl
def U_0{S:D}{w:R3->R3×R3}(hs:N8 Z 332)(hn:MV Z 332)(hm:MV Z 336)(hk:∀ RW,Z.F 338 [.H [.str (Ao "ends"),.L RW]]=.ok (.H [.str (Ao "ends"),.L RW]))(hp:P4 p)(n3:N3 p l)(hl:(l.length:Ad)<=p)(hw:Oi p l w):Ie Z p S (Au l) P Q (.H [.str (Ao "ends"),.L ((Cj p l).map (DO w))]):=by
 have er:Cj p l.reverse=Cj p l:=rJ λx=>List.mem_reverse
 have e2:=hs p l.reverse w hp (n3.perm (Il l)) (by rw[EY];exact hl) λx hx=>by
  rw[er]at hx;obtain⟨w1,w2,w3⟩:=hw x hx;exact⟨FM.mpr w1,FM.mpr w2,w3⟩
 rw[er]at e2;refine Qm (hk _) (jG w _) (hs p l w hp n3 hl hw) e2 λh=>⟨Ae,?_⟩
 have nq:=n3.sub (GY l);obtain⟨y1,y2⟩:=YI n3.nd h;have lq:(l.dropLast.length:Ad)<=p:=by rw[FK];omega
 have ne:((Cj p l).map (DO w)).length≠(Cj p l.dropLast).length:=by
  rw[AG];exact A8 (rK ((FG hp).mpr (n3.nf _ y1)) y2 y1 λx hx=>List.dropLast_subset l hx)
 exact⟨hn p _ _ hp nq lq ne,hm p _ _ hp nq lq ne⟩
def yf{S:D}(hs:N8 Z 332)(hd:N8 Z 336)(hn:MV Z 332)(hm:MV Z 336)(hk:∀ RW,Z.F 338 [.H [.str (Ao "ends"),.L RW]]=.ok (.H [.str (Ao "ends"),.L RW]))(hp:P4 p)(e1:Z.F 229 [S]=.ok (.int p))(e2:Z.F 337 [.int p,S]=.ok (Au l))(e3:Z.F 227 [.int p,Au l]=.ok (.H [.str (Ao "ends"),LP p l]))(n3:N3 p l)(hl:(l.length:Ad)<=p)(ha:∀ x∈Cr p,x∉l->∃ q,Ϝ p l x=Ab q):HX.run Z [S]=.ok (.bl Aa):=by
 have key:∃ w:R3->R3×R3,Oi p l w/\(Cj p l).map (Ĵ p l)=(Cj p l).map (DO w):=by
  have k:∀ x∈Cj p l,∃ q,Ϝ p l x=Ab q:=λx hx=>by
   obtain⟨m1,m2⟩:=BJ.mp hx;exact ha x m1 (by simpa using m2)
  refine⟨λx=>(Ϝ p l x).getD (x,x),λx hx=>?_,CM λx hx=>?_⟩
  .obtain⟨q,hq⟩:=k x hx;have mq:=List.mem_of_find?_eq_some hq;have hit:Ak q.1 q.2 x%p=0:=By (List.find?_some (p:=Jy p x) (l:=ϴ l) hq);obtain⟨q1,q2⟩:=SV (a:=q.1) (b:=q.2) mq;simp only[hq,aU];exact⟨q1,q2,Yx n3.nd mq,by rw[LA];exact hit⟩
  .obtain⟨q,hq⟩:=k x hx;unfold Ĵ DO;simp only[hq,aU]
 obtain⟨w,hw,e⟩:=key;unfold LP at e3;rw[e]at e3;have hv:Oi p l λx=>((w x).2,(w x).1):=λx hx=>by
  obtain⟨w1,w2,w3,w4⟩:=hw x hx;refine⟨w2,w1,A8 w3,?_⟩;show Ak x (w x).2 (w x).1%p=0;rw[PN];exact Qs w4
 have c:∀ P:D,Bz (cG Z [sh S,si p,sh (Au l),sh P,Ab (.L [P],Aa),Af,Af,Af,Af,Af] 9 B6) (cF Z [sh S,si p,sh (Au l),sh P,Ab (.L [P],Aa),Af,Af,Af,Af,Af] 9 Nv) ((Cj p l).map (DO w))=.ok ((Cj p l).map (DO λx=>((w x).2,(w x).1))):=λP=>by
  have:=KO (g:=cG Z [sh S,si p,sh (Au l),sh P,Ab (.L [P],Aa),Af,Af,Af,Af,Af] 9 B6) (f:=cF Z [sh S,si p,sh (Au l),sh P,Ab (.L [P],Aa),Af,Af,Af,Af,Af] 9 Nv) (DO w) (λ_=>Aa) (DO λx=>((w x).2,(w x).1)) (Cj p l) λx hx=>⟨rfl,λ_=>by
   unfold DO;generalize Au l=T at *;generalize Ai Aa x=X;generalize Ai Aa (w x).1=A;generalize Ai Aa (w x).2=B;simp[cF,Nv,BR,Dl];rfl⟩
  rwa [Z_0.mpr λ_ _=>rfl]at this
 exact jL e1 e2 rfl e3 (hd p l w hp n3 hl hw) rfl rfl c (λ_=>U_0 hs hn hm hk hp n3 hl hw) λ_=>U_0 hs hn hm hk hp n3 hl hv
noncomputable def Pa:Df:=⟨3,Ae,{.asg 2 Ae (.call 65 {.v 0,.v 1}),.ife (.cmp .IsNot (.v 2) .O) {.rais 118 {.v 2}} .nil}⟩
noncomputable def Xn:Df:=⟨3,Ae,{.ret (.comp OM 2 (.e (.call 69 {.v 0})) OK)}⟩
section
variable{Z:Z2}{p:Ad}
def yD(e:Z.F 65 [.int p,PP]=.ok .O):Pa.run Z [.int p,PP]=.ok .O:=by
 simp[Pa,Df.run,Bc,e]
def yA(ht:∀ p,P4 p->Z.F 69 [.int p]=.ok (Au (Cr p)))(h2:T8 Z)(hp:P4 p)(np:∀ x∈pts,NF p x)(ha:∀ x∈Cr p,x∉pts->∃ q,Ϝ p pts x=Ab q):Xn.run Z [.int p,Au pts]=.ok (LP p pts):=by
 have e:=iB ht h2 hp np ha;unfold LP at e ⊢;have k:∀ o:O,∀ L,o.ans Aa=.ok (.L L)->o.ans Ae=.ok (.L L):=λo L h=>by
  cases o with
  |ret d b=>
   have h:(if (Aa&&(!b&&Ŵ d))=Aa then R.bad else R.ok d)=_:=h
   show R.ok d=_;by_cases c:(Aa&&(!b&&Ŵ d))=Aa
   .rw[AC c]at h;cases h
   .rw[AH c]at h;exact h
  |_=>simp[O.ans]at h
 exact k _ _ e
def ah(h:Z.F 194 [T]=.ok .O)(e:Z.F 65 [.int p,T]=.ok X)(iX:Ci .IsNot X .O=.ok (.bl Aa)):J8.run Z [.int p,T]=.ok (.H [.str (Ao "line"),X]):=by
 simp[J8,Df.run,Bc,h,e,iX]
def ag{L:D}(h:Z.F 194 [T]=.ok .O)(e:Z.F 65 [.int p,T]=.ok .O)(ln:Tm .len [T]=.ok (.int n))(hn:¬ n=p+1)(ef:Z.F 223 [.int p,T]=.ok L)(lm:Tm .len [L]=.ok (.int m))(m0:0<m)(ix:BR L (.int 0)=.ok X):J8.run Z [.int p,T]=.ok (.H [.str (Ao "more"),X]):=by
 simp[J8,Df.run,Bc,h,e,ln,hn,ef,lm,m0,ix]
section
variable{S T:D}{n:Ad}(e1:Z.F 229 [S]=.ok (.int p))(e2:Z.F 254 [.int p,S]=.ok T)(lT:Tm .list [T]=.ok T)(fT:Y8 5 T=Aa)(qT:U4 T T=Aa)(ln:Tm .len [T]=.ok (.int n))
include e1 e2 lT fT qT
include ln
end
end
noncomputable def Lu:Ss:={.asg 5 Ae (.B .Mod (.call 228 {.v 0,.B .Add (.v 1) (.v 4)}) (.B .Add (.bi .len {.v 3}) (.int 1))),.asg 3 Aa (.B .Add (.B .Add (.sl (.v 3) .O (.v 5)) (.L {.x (.v 2) (.v 4)})) (.sl (.v 3) (.v 5) .O))}
noncomputable def Lz:Df:=⟨6,Aa,{.asg 3 Aa (.L .nil),.fors 4 (.rng (.bi .len {.v 2})) Lu,.ret (.v 3)}⟩
def mj{S X:D}{i:Ad}(e:Z.F 228 [S,.int (at_+k)]=.ok (.int m))(ln:(M.length:Ad)=N)(lp:0<N+1)(hi:m%(N+1)=i)(s1:Ý (.L M) Af (Ab i)=.ok T1)(s2:Ý (.L M) (Ab i) Af=.ok T2)(g:BR TL (.int k)=.ok X)(a1:DD .Add T1 (.L [X])=.ok (.L M3))(a2:DD .Add (.L M3) T2=.ok (.L M4)):Bu Z 4 Lu (.int k) [sh S,si at_,sh TL,Ab (.L M,Aa),s4,s5]=.next [sh S,si at_,sh TL,Ab (.L M4,Aa),si k,si i]:=by
 simp[Bu,Lu,e,ln,lp,hi,slE,s1,s2,g,a1,a2,Dy]
def uY(hm:KR Z 228 ns){L:Ac R3}{n:Ag}(ha:0<=at_)(hx:L[n]?=Ab x)(h5:M.length<=60):∃(M':Ac R3)(v5:Sl),M'.Perm (M++[x])/\Bu Z 4 Lu (.int (n:Ad)) [sh (þ ns),si at_,sh (Au L),Ab (.L (M.map (Ai Aa)),Aa),s4,s5]=.next [sh (þ ns),si at_,sh (Au L),Ab (.L (M'.map (Ai Aa)),Aa),si n,v5]:=by
 obtain⟨m,m0,e⟩:=hm (at_+(n:Ad)) (by omega)
 have q0:=A3 m (b:=(M.length:Ad)+1) (by omega)
 have q1:=AV m (b:=(M.length:Ad)+1) (by omega)
 have lp:(0:Ad)<(M.length:Ad)+1:=by omega
 generalize hi:m%((M.length:Ad)+1)=i at *;have s1:=PU M q0;have s2:=Xa M q0 (by omega)
 have g:=vD hx;have a1:=VS (M.take i.toNat) [x] (by simp;omega)
 have a2:=VS (M.take i.toNat++[x]) (M.drop i.toNat) (by simp;omega)
 refine⟨(M.take i.toNat++[x])++M.drop i.toNat,si i,?_,?_⟩
 .have p1:((M.take i.toNat++[x])++M.drop i.toNat).Perm (x::(M.take i.toNat++M.drop i.toNat)):=by
   rw[List.append_assoc];exact List.perm_middle
  rw[G0]at p1;exact p1.trans (List.perm_append_singleton x M).symm
 .exact mj e (by rw[AG]) lp hi s1 s2 g a1 a2
def uX{S:D}(ln:Tm .len [TL]=.ok (.int N))(rg:De 0 N=.ok RL)(e:CD (Bu Z 4 Lu) RL [sh S,si at_,sh TL,Ab (.L [],Aa),Af,Af]=.next [sh S,si at_,sh TL,Ab (.L M,Aa),s4,s5]):Lz.run Z [S,.int at_,TL]=.ok (.L M):=by
 have e1:Y4 Z [sh S,si at_,sh TL,Af,Af,Af] Lz.body=Ic Z (.cons (.ret (.v 3)) .nil) (CD (Bu Z 4 Lu) RL [sh S,si at_,sh TL,Ab (.L [],Aa),Af,Af]):=by
  simp[Lz,ln,rg,Dy]
 show O.ans Aa (Y4 Z [sh S,si at_,sh TL,Af,Af,Af] Lz.body)=_;rw[e1,e];simp
def qw(hm:KR Z 228 ns)(at_:Ad)(L:Ac R3)(ha:0<=at_)(hL:L.length<=60):∃ M:Ac R3,M.Perm L/\Lz.run Z [þ ns,.int at_,Au L]=.ok (Au M):=by
 have lp:=RJ (body:=Bu Z 4 Lu) (λn U=>∃(M:Ac R3)(s4 s5:Sl),M.Perm (L.take n)/\U=[sh (þ ns),si at_,sh (Au L),Ab (.L (M.map (Ai Aa)),Aa),s4,s5]) (Dx 0 L.length) 0 [sh (þ ns),si at_,sh (Au L),Ab (.L [],Aa),Af,Af] ⟨[],Af,Af,by simp,rfl⟩ (by
  rintro n y hy U ⟨M,s4,s5,pm,rfl⟩;obtain⟨hn,rfl⟩:=Sr hy;rw[Fx]at pm;rw[Dm,Fx];have hx:L[n]?=Ab L[n]:=AR hn;obtain⟨M',v5,pm',e⟩:=uY (s4:=s4) (s5:=s5) hm ha hx (M:=M) (by rw[pm.length_eq];simp;omega)
  refine⟨_,e,M',_,_,?_,rfl⟩;rw[List.take_succ,hx];exact pm'.trans (pm.append_right _))
 obtain⟨U',e,M,s4,s5,pm,rfl⟩:=lp;rw[Fx,NA,List.take_length]at pm;exact⟨M,pm,uX (uE L) (uo (by omega)) e⟩
structure H93 (Z:Z2) (ns:Ac Ad):Prop where
 pr:∃ p,P4 p/\Z.F 229 [þ ns]=.ok (.int p)
 li:∀ p,P4 p->∃ l:Ac R3,(∀ x∈l,NF p x)/\l.Nodup/\l.length<=100/\Z.F 337 [.int p,þ ns]=.ok (Au l)
 ll:∀(p:Ad)(pts:Ac R3)(d:D),P4 p->(∀ x∈pts,NF p x)->pts.Nodup->pts.length<=1000->ü p pts=Ab d->Z.F 227 [.int p,Au pts]=.ok (.H [.str (Ao "line"),d])
 lc:∀(p:Ad)(pts:Ac R3),P4 p->N3 p pts->ü p pts=Af->(pts.length:Ad)=p+1->∃ C:C6,ï p C/\A4 p C.l=Ab 1/\Ϛ p C/\(∀ x∈pts,vI C x%p=0)/\Z.F 227 [.int p,Au pts]=.ok (.H [.str (Ao "curve"),BY C])
 lm:∀(p:Ad)(pts:Ac R3)(x:R3)(r:Ac R3),P4 p->N3 p pts->pts.length<=1000->ü p pts=Af->¬ (pts.length:Ad)=p+1->Ja p pts=x::r->Z.F 227 [.int p,Au pts]=.ok (.H [.str (Ao "more"),Ai Aa x])
 le:∀(p:Ad)(pts:Ac R3),P4 p->N3 p pts->pts.length<=1000->ü p pts=Af->¬ (pts.length:Ad)=p+1->Ja p pts=[]->Z.F 227 [.int p,Au pts]=.ok (.H [.str (Ao "ends"),LP p pts])
 ko:∀ w X,w≠Ao "ends"->Z.F 338 [.H [.str w,X]]=.ok (.H [.str w,X])
 ke:∀ RW,Z.F 338 [.H [.str (Ao "ends"),.L RW]]=.ok (.H [.str (Ao "ends"),.L RW])
 sl:N7 Z 332
 dl:N7 Z 336
 sc:ZC Z
 dc:Ř Z
 sm:N6 Z 332
 dm:N6 Z 336
 se:N8 Z 332
 de:N8 Z 336
 sn:MV Z 332
 dn:MV Z 336
def ye(h:H93 Z ns):HX.run Z [þ ns]=.ok (.bl Aa):=by
 obtain⟨p,hp,e1⟩:=h.pr;obtain⟨l,nf,nd,hl,e2⟩:=h.li p hp;obtain⟨_,_,_,w1,w2,w3⟩:=IW;cases z:ü p l with
 |some d=>
  obtain⟨x,y,u,hx,hy,hu,n1,n2,n3,dz,rfl⟩:=Ye nd z;exact v9 h.sl h.dl (λX=>h.ko _ X (A8 w1)) hp e1 e2 (h.ll p l _ hp nf nd (by omega) z) nf n1 n2 n3 dz hx hy hu
 |none=>
  have n3:=n3Z nd nf z;have hn:(l.length:Ad)<=p+1:=Int.not_lt.mp λc=>by
   have s:=n3.sub (Gy (p+2).toNat l);have:=hp.pos;exact Yz hp s (by rw[ER];omega)
  by_cases c:(l.length:Ad)=p+1
  .obtain⟨C,iC,lC,wC,on,e4⟩:=h.lc p l hp n3 z c;exact io h.sc h.dc (λX=>h.ko _ X (A8 w2)) hp e1 e2 e4 n3 c iC lC wC on
  .cases f:Ja p l with
   |cons x r=>
    have mx:x∈Ja p l:=by rw[f];exact Ax
    have nx:=(FG hp).mp (Sw mx);have nl:x∉l:=λhx=>WM mx hx rfl
    exact wb h.sm h.dm (λX=>h.ko _ X (A8 w3)) hp e1 e2 (h.lm p l x r hp n3 (by omega) z c f) (N3.snoc93 hp n3 nx nl λa ha b hb ne=>i6 mx a b ha hb ne) hl
   |nil=>exact yf h.se h.de h.sn h.dn h.ke hp e1 e2 (h.le p l hp n3 (by omega) z c f) n3 (by omega) (Xr f)
noncomputable def lU:Ag->Ac Ag:=λ_=>[]
noncomputable def mD:Ag->Ac D->R Ex:=λ_ _=>.bad
noncomputable def U6:Prg:=⟨Aa,fun
 |1=>TN
 |9=>Oo
 |17=>OR
 |23=>Rs
 |24=>TQ
 |56=>QJ
 |57=>TR
 |61=>Sb
 |65=>Mf
 |194=>RP
 |109=>Pa
 |69=>VJ
 |104=>Sf
 |91=>Sa
 |78=>RO
 |98=>Ri
 |105=>To
 |106=>Rx
 |122=>RC
 |123=>Q3
 |126=>NS
 |128=>Ro
 |131=>Q2
 |136=>RB
 |132=>Tn
 |133=>O9
 |323=>Sd
 |324=>OJ
 |325=>O7
 |326=>O6
 |327=>Nx
 |328=>Oy
 |329=>Op
 |330=>OD
 |331=>Mi
 |332=>SF
 |110=>SG
 |111=>Ru
 |112=>Mg
 |195=>OG
 |196=>Q1
 |197=>OF
 |198=>Ow
 |221=>OX
 |222=>Rj
 |223=>Se
 |224=>Mo
 |225=>OW
 |226=>Xn
 |227=>J8
 |228=>Ox
 |229=>Rg
 |288=>Q7
 |231=>oR
 |232=>Rh
 |233=>Sc
 |234=>Rb
 |250=>Rc
 |289=>Ry
 |290=>Q6
 |251=>Lz
 |236=>Re
 |237=>Rt
 |246=>Rr
 |247=>Ra
 |248=>L8
 |333=>Nw
 |334=>OH
 |335=>OT
 |336=>IK
 |337=>KH
 |338=>Nz
 |339=>HX
 | _=>⟨0,Ae,.nil⟩,λ_=>.O,lU,mD⟩
def jM(ns:Ac Ad):(Y5 U6 9).F 339 [þ ns]=.ok (.bl Aa):=by
 have gF:∀ n i ds,(Y5 U6 (n+1)).F i ds=(U6.defs i).run (Y5 U6 n) ds:=λ_ _ _=>rfl
 have rs:∀ n,IV (Y5 U6 (n+1)):=λn p m hp=>v4 (Y5 U6 n) p m hp
 have mi:∀ n,KR (Y5 U6 (n+1)) 228 ns:=λn k hk=>rf (Y5 U6 n) ns k hk
 have tu:∀ n,RS (Y5 U6 (n+2)):=λn p m hp z=>qU (rs n) p m hp z
 have fo:∀ n,NN (Y5 U6 (n+3)):=λn p b xs l t hp e it=>xX (rs (n+1)) (tu n) hp e it
 have me:∀ n,GR (Y5 U6 (n+2)):=λn p q a b c hp ha hb hc=>xV (rs n) p q a b c hp ha hb hc
 have jo:∀ n,PH (Y5 U6 (n+4)):=λn p a b hp ia ib la lb ne=>sk (λa b ha hb ne=>VY (Y5 U6 (n+2)) a b ha hb ne) (fo n) p a b hp ia ib la lb ne
 have ly:∀ n,YF (Y5 U6 (n+2)):=λn p x y hp ix iy=>sf (rs n) p x y hp ix iy
 have on:∀ n,Ua (Y5 U6 (n+3)):=λn p x y hp ix iy=>qz (ly n) p x y hp ix iy
 have an:∀ n,ZD (Y5 U6 (n+4)):=λn p x ls hp ix hl=>fO (on n) x ls hp ix hl
 have st:∀ n,Tt (Y5 U6 (n+5)):=λn p pts f left hp np nf ni nl=>xQ (jo n) (an n) pts f left hp np nf ni nl
 have tr:∀ n p,P4 p->(Y5 U6 (n+1)).F 69 [.int p]=.ok (Au (Cr p)):=λn p hp=>hJ (Y5 U6 n) p hp
 have ft:∀ n,lK (Y5 U6 (n+6)):=λn p pts hp np nd hz=>hU (st n) (λp hp=>tr (n+4) p hp) pts hp np nd hz
 have fi:∀ n (p:Ad) (pts:Ac R3),P4 p->(∀ x∈pts,NF p x)->pts.length<=1000->(Y5 U6 (n+3)).F 65 [.int p,Au pts]=.ok ((ü p pts).getD .O):=λn p pts hp np hz=>uK (me n) hp (λx hx=>(np x hx).1) (by show pts.length<20000;omega)
 have ú:∀ n,T8 (Y5 U6 (n+3)):=λn p pts x hp np ix=>uu (me n) hp np ix
 have ee:∀ n (p:Ad) (pts:Ac R3),P4 p->(∀ x∈pts,NF p x)->(∀ x∈Cr p,x∉pts->∃ q,Ϝ p pts x=Ab q)->(Y5 U6 (n+4)).F 226 [.int p,Au pts]=.ok (LP p pts):=λn p pts hp np ha=>yA (λp hp=>tr (n+2) p hp) (ú n) hp np ha
 have tf:∀ n,PF (Y5 U6 (n+4)):=λn p t q a b c hp ha hb hc z l u e it=>uv (me (n+1)) (fo n) p t q a b c hp ha hb hc z l u e it
 have co:∀ n,NT (Y5 U6 (n+1)):=λn=>ua _
 have su:∀ n,T9 (Y5 U6 (n+2)):=λn=>ux (rs n)
 have cr:∀ n,X2 (Y5 U6 (n+2)):=λn=>yC (VY _)
 have ba:∀ n,PL (Y5 U6 (n+5)):=λn=>qj (cr (n+2)) (co (n+3)) (tf n)
 have af:∀ n,Tu (Y5 U6 (n+5)):=λn=>yE (co (n+3)) (su (n+2)) (tf n)
 have fq:∀ n,QM (Y5 U6 (n+5)):=λn=>oC (me (n+2)) (uG _) (co (n+3)) (tf n)
 have f4:∀ n,vZ (Y5 U6 (n+3)):=λn p a b c d hp ha hb hc hd h=>by rw[gF,show U6.defs 65=Mf from rfl,xZ (me n) p a b c d hp ha hb hc hd h]
 have ask:∀ n,UH (Y5 U6 (n+4)):=λn p a b c d hp ha hb hc hd h=>by rw[gF,show U6.defs 109=Pa from rfl,yD (f4 n p a b c d hp ha hb hc hd h)]
 have cf:∀ n,PK (Y5 U6 (n+4)):=λn p b xs l t hp e it=>qg (rs (n+2)) (fo n) hp e it
 have va:∀ n,Tr (Y5 U6 (n+2)):=λn=>xM (rs n)
 have vb:∀ n,YC (Y5 U6 (n+2)):=λn=>ut (rs n)
 have tw:∀ n,Ts (Y5 U6 (n+2)):=λn=>xN (rs n)
 have lm:∀ n,YE (Y5 U6 (n+1)):=λn=>rl _
 have mx:∀ n,YD (Y5 U6 (n+3)):=λn=>re (tw n) (su n)
 have un5:∀(pts:Ac R3),pts.Nodup->(Y5 U6 5).F 194 [Au pts]=.ok .O:=λpts nd=>Zb (Z:=Y5 U6 4) pts nd
 have cok:HC74 (Y5 U6 6):=by
  refine⟨λp hp=>?_,λp C hp iC=>?_,λp f0 f1 f2 f3 g0 g1 g2 g3 hp F G=>?_,λp C a b c iC lC T=>?_,λp C a b c d e hp iC lC h fp=>?_⟩
  .exact uH (cf 1) p hp
  .exact Xg (λp hp=>tr 4 p hp) (va 3) p C hp iC
  .obtain⟨a,b,c,T,L,e⟩:=uI (ask 1) (fq 0) (ba 0) (af 0) hp F G;exact⟨a,b,c,T,L,by rw[gF,show U6.defs 112=Mg from rfl,e]⟩
  .obtain⟨E,i,l,q,e⟩:=xT (ba 0) (co 4) (va 3) (mx 2) (cf 1) p C a b c iC lC T;exact⟨E,i,l,q,by rw[gF,show U6.defs 133=O9 from rfl,e]⟩
  .have e1:=un5 _ h.nd;have e2:(Y5 U6 5).F 195 [.int p,Au [a,b,c,d,e]]=.ok .O:=hV (me 2) hp h;have e3:(Y5 U6 5).F 197 [.int p,Au [a,b,c,d,e]]=.ok (BY C):=iA (jo 0) (lm 3) (vb 2) (cf 0) hp iC lC h fp;rw[gF,show U6.defs 198=Ow from rfl]
   rw[RA]at e1 e2 e3 ⊢;exact uw e1 e2 e3
 have sm:∀ n,IQ (Y5 U6 (n+1)):=λn p q q' a x p0 ha hx=>uF (Y5 U6 n) p q q' a x p0 ha hx
 have cs:∀ n,Jk (Y5 U6 (n+1)):=λn p q q' a x p0 ha hx=>uM (Y5 U6 n) p q q' a x p0 ha hx
 have fm:∀ n,X0 (Y5 U6 (n+1)):=λn p b xs l t hp e it=>xY (Y5 U6 n) hp e it
 have le:∀ n,WD (Y5 U6 (n+2)):=λn p t q q' a b c x G hx lx=>uJ (sm n) (fm n) p t q q' a b c x G hx lx
 have pt:∀ n,N9 (Y5 U6 (n+1)):=λn p m hp=>qt (Y5 U6 n) p m hp
 have th:∀ n (p:Ad) (pts:Ac R3),P4 p->(∀ x∈pts,NF p x)->pts.length<=1000->(Y5 U6 (n+2)).F 234 [.int p,Au pts]=.ok ((ü p pts).getD .O):=λn p pts hp np hz=>by rw[gF,show U6.defs 234=Rb from rfl];exact sG (cs n) (sm n) hp (λx hx=>(np x hx).1) hz
 have rq:∀ n,XZ (Y5 U6 (n+1)):=λn p xs hx=>xR (Y5 U6 n) p xs hx
 have fd:∀ n (p:Ad) (x:R3),P4 p->NF p x->(Y5 U6 (n+2)).F 237 [.int p,Ai Aa x,.int 3]=.ok (.bl Aa):=λn p x hp nx=>Xh (rq n) p [x.1,x.2.1,x.2.2] hp.pos (by
  obtain⟨⟨h1,h2,h3⟩,_⟩:=nx;intro y hy;simp at hy;rcases hy with rfl|rfl|rfl<;>assumption) nx.2
 have fd6:∀ n,X1 (Y5 U6 (n+2)):=λn p xs p0 hx l1=>Xh (rq n) p xs p0 hx l1
 have li:∀ n,HL74 (Y5 U6 (n+4)) ns:=λn=>⟨λp at_ hp ha=>xP (mi (n+2)) p at_ hp ha,λp a b c G=>qu (le (n+1)) p a b c G,λat_ L ha hL=>by
  obtain⟨M,pm,e⟩:=qw (mi (n+2)) at_ L ha hL;exact⟨M,pm,by rw[gF,show U6.defs 251=Lz from rfl];exact e⟩,mi (n+3),pt (n+3)⟩
 have un:∀(pts:Ac R3),pts.Nodup->(Y5 U6 7).F 194 [Au pts]=.ok .O:=λpts nd=>Zb (Z:=Y5 U6 6) pts nd
 have ir:∀ n,YG (Y5 U6 (n+1)):=λn p x h0 h1=>sv (Z:=Y5 U6 n) p x h0 h1
 have it:∀ n,PJ (Y5 U6 (n+1)):=λn xs m=>sr (Z:=Y5 U6 n) xs m
 have ŏ:∀ n w X,(Y5 U6 (n+1)).F 324 [.H [.str w,X],.int 2]=.ok (.bl Aa):=λn w X=>it n [.str w,X] 2
 have iF:∀ n,MG (Y5 U6 (n+4)):=λn p xs hp hx hl _=>t9 (ir (n+2)) (it (n+2)) (fo n) xs hp hx hl
 have ih:∀ n,Ub (Y5 U6 (n+5)):=λn p l x hp nx=>t7 (iF n) hp l x nx
 have lf:∀ n p l,P4 p->(Y5 U6 (n+2)).F 335 [.int p,Au l]=.ok (Au (Cj p l)):=λn p l hp=>sg (pt n) hp l
 refine ye (Z:=Y5 U6 8) ⟨xS (mi 6),λp hp=>?_,λp pts d hp np nd hz z=>?_,λp pts hp n3 z hl=>?_,λp pts x r hp n3 hz z hl f=>?_,λp pts hp n3 hz z hl f=>?_,λw X hw=>?_,λRW=>?_,λp m a b c hp na nb nc n1 n2 n3 dz=>?_,λp m a b c hp na nb nc n1 n2 n3 dz=>?_,λp m C hp iC lC wC nf nd Î=>?_,⟨λp m C hp nf hl iC lC wC on=>?_,λp m C hl=>?_⟩,Yl λp m x hp nx nf hx hz hl=>?_,Yl λp m x hp nx nf hx hz hl=>?_,λp m w hp n3 hl hw=>?_,λp m w hp n3 hl hw=>?_,λp m RW hp n3 hl hw=>?_,λp m RW hp n3 hl hw=>?_⟩
 .obtain⟨l,nf,nd,hl,e⟩:=qk (li 3) (th 5) rfl hp;exact⟨l,nf,nd,hl,e⟩
 .have e:=fi 4 p pts hp np hz;rw[z]at e;obtain⟨x,_,y,_,u,_,rfl⟩:=Zzn z;exact ah (un pts nd) e rfl
 .have e:=fi 4 p pts hp n3.nf (by have:=hp.hi;omega)
  rw[z]at e;obtain⟨C,iC,lC,wC,on,eC⟩:=qh cok hp n3 hl;refine⟨C,iC,lC,wC,on,?_⟩;exact ak (un pts n3.nd) e (Hz pts) hl (eC)
 .have e:=fi 4 p pts hp n3.nf hz;rw[z]at e;have e2:=ft 1 p pts hp n3.nf n3.nd hz;rw[f]at e2;exact ag (un pts n3.nd) e (Hz pts) hl e2 (Hz (x::r)) (by rw[BS];omega) (HE (pts:=x::r) (i:=0) (by simp))
 .have e:=fi 4 p pts hp n3.nf hz;rw[z]at e;have e2:=ft 1 p pts hp n3.nf n3.nd hz;rw[f]at e2;exact aj (un pts n3.nd) e (Hz pts) hl e2 rfl (ee 3 p pts hp n3.nf (Xr f))
 .exact nW (Z:=Y5 U6 7) hw
 .exact nX (Z:=Y5 U6 7) RW
 .exact Ob (.inl ⟨rfl,rfl⟩) (ŏ 6 _ _) (rh (it 5) (ih 1) (me 4) hp m na nb nc n1 n2 n3 dz)
 .exact QQ (.inl ⟨rfl,rfl⟩) (sj (fd 4) (cs 5) (sm 5) hp m na nb nc n1 n2 n3 dz)
 .exact Ob (.inr (.inl ⟨rfl,rfl⟩)) (ŏ 6 _ _) (u9 (iF 2) (λp C hp iC z=>sF (tw 3) (me 3) p C hp iC z) (λp C hp iC=>by exact Xg (λp hp=>tr 4 p hp) (va 3) p C hp iC) hp m iC lC wC nf nd Î)
 .exact QQ (.inr ⟨rfl,rfl⟩) (yB (fd6 4) (λp C hp=>xO C hp) (λp C x hp iC ix=>xW C x hp iC ix) (cs 5) (sm 5) hp nf hl iC lC wC on)
 .exact QQ (.inr ⟨rfl,rfl⟩) (qi (Hz m) hl)
 .exact Ob (.inr (.inr (.inl ⟨rfl,rfl⟩))) (ŏ 6 _ _) (ra (iF 2) (fi 3) hp m x nx nf hx hz hl)
 .exact u7 (fd 5) (th 5) hp m x nx nf hx hz hl
 .exact Ob (.inr (.inr (.inr ⟨rfl,rfl⟩))) (ŏ 6 _ _) (tj (λp l x a b hp nx na nb ha hb ne dz=>uy (it 4) (iF 1) (ih 0) (me 3) hp l nx na nb ha hb ne dz) (fi 3) (λp hp=>tr 5 p hp) hp m w n3.nf (NX n3) hl hw)
 .exact u8 (λp l x a b hp nx na nb ha hb ne dz=>qs (fd 4) (cs 5) (sm 5) hp l nx na nb ha hb ne dz) (th 5) (lf 5) hp m w n3.nf (NX n3) hl λx hx=>by
   obtain⟨w1,w2,w3,w4⟩:=hw x hx;exact⟨w1,w2,w3,by rw[<-LA];exact w4⟩
 .exact Ob (.inr (.inr (.inr ⟨rfl,rfl⟩))) (ŏ 6 _ _) (tm (fi 3) (λp hp=>tr 5 p hp) hp m RW n3.nf (NX n3) hl hw)
 .exact tq (th 5) (lf 5) hp m RW n3.nf (NX n3) hl hw
end OvC
namespace OvC
open PySem PySem.Spec PyProof.Rows Ov L2
variable{l:GJ}
noncomputable def Zz:Ac (An×Ag×Ag):=([("rest",1,2),("turned_over",9,2),("one_form",17,2),("crossed",23,2),("lies",24,3),("on",56,3),("join",57,3),("measure",61,4),("first_three",65,2),("ask_unlike",194,1),("ask_no_three",109,2),("triples",69,1),("columns",104,1),("sums_by",91,3),("table_of",78,2),("crossed_rows",98,1),("after",105,3),("table_back",106,2),("curve_of",122,2),("plain_curve",123,1),("value",126,3),("points_of",128,2),("twice_table",131,2),("is_whole",136,2),("mixed",132,4),("moved",133,3),("is_rest",323,2),("is_tuple_of",324,2),("is_form",325,3),("is_held",326,3)]:Ac (An×Ag×Ag))++([("line_stands",327,3),("curve_stands",328,3),("more_stands",329,3),("row_stands",330,4),("ends_stand",331,3),("stands",332,3),("scaled",110,2),("frame_table",111,2),("frame_move",112,3),("first_four",195,2),("lines_multiplied",196,2),("five_curve",197,2),("curve_through",198,2),("on_any",221,3),("still_fitting",222,4),("fitting",223,2),("curve_on",224,2),("first_two",225,3),("end_rows",226,2),("look",227,2),("_law_mixed",228,2),("_law_prime",229,1),("_law_form",288,2),("_law_point",231,2),("_law_cross",232,3),("_law_sum",233,3),("_law_three",234,2),("_law_table",250,3),("_law_led",289,3),("_law_oval",290,2)]:Ac (An×Ag×Ag))++([("_law_order",251,3),("_law_rests",236,3),("_law_formed",237,3),("_law_twice",246,2),("_law_value",247,3),("_law_curve_stands",248,3),("_law_line_due",333,3),("_law_row_due",334,4),("_law_left",335,2),("_law_due",336,3),("_law_any_set",337,2),("_law_same",338,1),("law",339,1)]:Ac (An×Ag×Ag))
noncomputable def UT:Ac An:=["all", "any", "bool", "enumerate", "int", "isinstance", "len", "list", "range", "reversed", "set", "sorted", "str", "sum", "tuple", "zip"]
noncomputable def Y_9:Ac (An×Ag):=[]
noncomputable def Zq:Ac (An×Ag):=[]
noncomputable def Zw:Ac (An×Ag):=[]
noncomputable abbrev Ty(n:Ag)(N:Ac An)(i d:Ag):Prop:=IZ 80 Ae Zz UT Y_9 Zq Zw (N.take n) N (tp93 i) (U6.defs d)=Aa
theorem y9:Ty 2 ["p", "n"] 10 1:=by decide+kernel
theorem y8:Ty 2 ["p", "n", "turned"] 11 9:=by decide+kernel
theorem y7:Ty 2 ["p", "numbers", "rests", "first", "factor", "#5", "#6"] 13 17:=by decide+kernel
theorem y6:Ty 2 ["one", "other"] 14 23:=by decide+kernel
theorem y4:Ty 3 ["p", "point", "line"] 15 24:=by decide+kernel
theorem xz:Ty 3 ["p", "point", "line"] 17 56:=by decide+kernel
theorem xw:Ty 3 ["p", "one", "other"] 18 57:=by decide+kernel
theorem xu:Ty 4 ["p", "one", "other", "third"] 19 61:=by decide+kernel
theorem yw:Ty 2 ["p", "points", "i", "one", "j", "k"] 20 65:=by decide+kernel
theorem yu:Ty 1 ["points", "place", "point"] 21 194:=by decide+kernel
theorem kq:Ty 2 ["p", "points", "three"] 22 109:=by decide+kernel
theorem km:Ty 1 ["p", "told", "z", "y", "#4"] 23 69:=by decide+kernel
theorem kl:Ty 1 ["rows"] 25 104:=by decide+kernel
theorem kj:Ty 3 ["p", "rows", "numbers", "#3"] 26 91:=by decide+kernel
theorem ki:Ty 2 ["p", "rows", "nine"] 27 78:=by decide+kernel
theorem kh:Ty 1 ["table"] 28 98:=by decide+kernel
theorem kg:Ty 3 ["p", "one", "other", "sides", "#4"] 29 105:=by decide+kernel
theorem kf:Ty 2 ["p", "table"] 30 106:=by decide+kernel
theorem kc:Ty 2 ["p", "numbers", "rests", "#3"] 32 122:=by decide+kernel
theorem ka:Ty 1 ["p"] 33 123:=by decide+kernel
theorem k9:Ty 3 ["p", "curve", "point", "squares", "products"] 34 126:=by decide+kernel
theorem k8:Ty 2 ["p", "curve", "#2"] 35 128:=by decide+kernel
theorem k7:Ty 2 ["p", "curve"] 36 131:=by decide+kernel
theorem k6:Ty 2 ["p", "curve", "rows"] 37 136:=by decide+kernel
theorem k4:Ty 4 ["p", "curve", "one", "other", "sums"] 38 132:=by decide+kernel
theorem jz:Ty 3 ["p", "curve", "table", "sides", "squares", "products", "#6"] 39 133:=by decide+kernel
theorem jy:Ty 2 ["p", "thing"] 41 323:=by decide+kernel
theorem jx:Ty 2 ["thing", "count"] 42 324:=by decide+kernel
theorem jw:Ty 3 ["p", "thing", "count", "#3"] 43 325:=by decide+kernel
theorem jv:Ty 3 ["p", "points", "thing"] 44 326:=by decide+kernel
theorem ju:Ty 3 ["p", "points", "three", "#3"] 45 327:=by decide+kernel
theorem jt:Ty 3 ["p", "points", "curve"] 46 328:=by decide+kernel
theorem jr:Ty 3 ["p", "points", "point"] 47 329:=by decide+kernel
theorem jq:Ty 4 ["p", "points", "point", "row"] 48 330:=by decide+kernel
theorem jp:Ty 3 ["p", "points", "rows", "left", "#4", "#5", "#6"] 49 331:=by decide+kernel
theorem cz:Ty 3 ["p", "points", "paper"] 50 332:=by decide+kernel
theorem cy:Ty 2 ["factor", "point", "#2"] 52 110:=by decide+kernel
theorem cx:Ty 2 ["p", "four", "sides"] 53 111:=by decide+kernel
theorem cw:Ty 3 ["p", "four", "goals"] 54 112:=by decide+kernel
theorem cv:Ty 2 ["p", "points", "place", "four"] 56 195:=by decide+kernel
theorem cu:Ty 2 ["one", "other"] 57 196:=by decide+kernel
theorem cq:Ty 2 ["p", "points", "one", "other", "by_one", "by_other", "#6", "#7"] 58 197:=by decide+kernel
theorem cn:Ty 2 ["p", "points", "four"] 59 198:=by decide+kernel
theorem cm:Ty 3 ["p", "point", "lines", "line"] 61 221:=by decide+kernel
theorem ck:Ty 4 ["p", "points", "further_point", "left", "lines", "#5", "#6"] 62 222:=by decide+kernel
theorem gr:Ty 2 ["p", "points", "left", "place", "point"] 63 223:=by decide+kernel
theorem gq:Ty 2 ["p", "points", "plain"] 64 224:=by decide+kernel
theorem gp:Ty 3 ["p", "points", "point", "place", "one", "other"] 65 225:=by decide+kernel
theorem gm:Ty 2 ["p", "points", "#2"] 66 226:=by decide+kernel
theorem gk:Ty 2 ["p", "points", "three", "left"] 67 227:=by decide+kernel
theorem gh:Ty 2 ["_law_script", "_law_k", "_law_cell"] 69 228:=by decide+kernel
theorem gf:Ty 1 ["_law_script"] 70 229:=by decide+kernel
theorem gc:Ty 2 ["_law_p", "_law_numbers", "_law_rests_here", "_law_first", "_law_back", "#5", "#6", "#7", "#8"] 71 288:=by decide+kernel
theorem fz:Ty 2 ["_law_p", "_law_number"] 72 231:=by decide+kernel
theorem fy:Ty 3 ["_law_p", "_law_one", "_law_other", "_law_x", "_law_y", "_law_z"] 73 232:=by decide+kernel
theorem fx:Ty 3 ["_law_p", "_law_one", "_law_other"] 74 233:=by decide+kernel
theorem fw:Ty 2 ["_law_p", "_law_points", "_law_i", "_law_j", "_law_line", "_law_k"] 75 234:=by decide+kernel
theorem fu:Ty 3 ["_law_p", "_law_script", "_law_at", "_law_rows", "_law_k", "_law_number", "_law_i", "_law_j", "_law_many", "#9", "#10", "#11"] 77 250:=by decide+kernel
theorem fj:Ty 3 ["_law_p", "_law_rows", "_law_point_here", "#3"] 78 289:=by decide+kernel
theorem fg:Ty 2 ["_law_p", "_law_rows", "_law_points", "_law_t"] 79 290:=by decide+kernel
theorem eh:Ty 3 ["_law_script", "_law_at", "_law_things", "_law_told", "_law_k", "_law_spot"] 80 251:=by decide+kernel
theorem dw:Ty 3 ["_law_p", "_law_found", "_law_many", "#3"] 81 236:=by decide+kernel
theorem dq:Ty 3 ["_law_p", "_law_found", "_law_many", "#3"] 82 237:=by decide+kernel
theorem di:Ty 2 ["_law_p", "_law_curve", "_law_a", "_law_b", "_law_c", "_law_d", "_law_e", "_law_f"] 83 246:=by decide+kernel
theorem dh:Ty 3 ["_law_p", "_law_curve", "_law_point_here", "_law_x", "_law_y", "_law_z", "_law_parts", "#7", "#8"] 84 247:=by decide+kernel
theorem dg:Ty 3 ["_law_p", "_law_points", "_law_curve", "_law_rows", "#4"] 85 248:=by decide+kernel
theorem d9:Ty 3 ["_law_p", "_law_points", "_law_three_here", "#3", "#4"] 86 333:=by decide+kernel
theorem d8:Ty 4 ["_law_p", "_law_points", "_law_point_here", "_law_row", "#4"] 87 334:=by decide+kernel
theorem d7:Ty 2 ["_law_p", "_law_points", "_law_every", "#3", "#4"] 88 335:=by decide+kernel
theorem d6:Ty 3 ["_law_p", "_law_points", "_law_paper", "_law_word", "_law_thing", "_law_left_here", "#6", "#7"] 89 336:=by decide+kernel
theorem d5:Ty 2 ["_law_p", "_law_script", "_law_points", "_law_way", "_law_k", "_law_point_here"] 90 337:=by decide+kernel
theorem j8:Ty 1 ["_law_paper"] 91 338:=by decide+kernel
theorem XH:Ty 1 ["_law_script", "_law_p", "_law_points", "_law_paper", "_law_papers", "_law_each", "_law_handed", "_law_kept", "_law_found", "#9"] 92 339:=by decide+kernel
set_option maxHeartbeats 0 in
def all93{w:AM}{K:Fg}{h:AS}{mg:An->As Aj}(X:K.In h)(G:h.Ns Bt mg)(hfa:mg "law" = Ab (.ref fa))(a0:U5 K f0 "rest" (tp93 10))(a1:U5 K f1 "turned_over" (tp93 11))(a2:U5 K f2 "one_form" (tp93 13))(a3:U5 K f3 "crossed" (tp93 14))(a4:U5 K f4 "lies" (tp93 15))(a5:U5 K f5 "on" (tp93 17))(a6:U5 K f6 "join" (tp93 18))(a7:U5 K f7 "measure" (tp93 19))(a8:U5 K f8 "first_three" (tp93 20))(a9:U5 K f9 "ask_unlike" (tp93 21))(a10:U5 K f10 "ask_no_three" (tp93 22))(a11:U5 K f11 "triples" (tp93 23))(a12:U5 K f12 "columns" (tp93 25))(a13:U5 K f13 "sums_by" (tp93 26))(a14:U5 K f14 "table_of" (tp93 27))(a15:U5 K f15 "crossed_rows" (tp93 28))(a16:U5 K f16 "after" (tp93 29))(a17:U5 K f17 "table_back" (tp93 30))(a18:U5 K f18 "curve_of" (tp93 32))(a19:U5 K f19 "plain_curve" (tp93 33))(a20:U5 K f20 "value" (tp93 34))(a21:U5 K f21 "points_of" (tp93 35))(a22:U5 K f22 "twice_table" (tp93 36))(a23:U5 K f23 "is_whole" (tp93 37))(a24:U5 K f24 "mixed" (tp93 38))(a25:U5 K f25 "moved" (tp93 39))(a26:U5 K f26 "is_rest" (tp93 41))(a27:U5 K f27 "is_tuple_of" (tp93 42))(a28:U5 K f28 "is_form" (tp93 43))(a29:U5 K f29 "is_held" (tp93 44))(a30:U5 K f30 "line_stands" (tp93 45))(a31:U5 K f31 "curve_stands" (tp93 46))(a32:U5 K f32 "more_stands" (tp93 47))(a33:U5 K f33 "row_stands" (tp93 48))(a34:U5 K f34 "ends_stand" (tp93 49))(a35:U5 K f35 "stands" (tp93 50))(a36:U5 K f36 "scaled" (tp93 52))(a37:U5 K f37 "frame_table" (tp93 53))(a38:U5 K f38 "frame_move" (tp93 54))(a39:U5 K f39 "first_four" (tp93 56))(a40:U5 K f40 "lines_multiplied" (tp93 57))(a41:U5 K f41 "five_curve" (tp93 58))(a42:U5 K f42 "curve_through" (tp93 59))(a43:U5 K f43 "on_any" (tp93 61))(a44:U5 K f44 "still_fitting" (tp93 62))(a45:U5 K f45 "fitting" (tp93 63))(a46:U5 K f46 "curve_on" (tp93 64))(a47:U5 K f47 "first_two" (tp93 65))(a48:U5 K f48 "end_rows" (tp93 66))(a49:U5 K f49 "look" (tp93 67))(a50:U5 K f50 "_law_mixed" (tp93 69))(a51:U5 K f51 "_law_prime" (tp93 70))(a52:U5 K f52 "_law_form" (tp93 71))(a53:U5 K f53 "_law_point" (tp93 72))(a54:U5 K f54 "_law_cross" (tp93 73))(a55:U5 K f55 "_law_sum" (tp93 74))(a56:U5 K f56 "_law_three" (tp93 75))(a57:U5 K f57 "_law_table" (tp93 77))(a58:U5 K f58 "_law_led" (tp93 78))(a59:U5 K f59 "_law_oval" (tp93 79))(a60:U5 K f60 "_law_order" (tp93 80))(a61:U5 K f61 "_law_rests" (tp93 81))(a62:U5 K f62 "_law_formed" (tp93 82))(a63:U5 K f63 "_law_twice" (tp93 83))(a64:U5 K f64 "_law_value" (tp93 84))(a65:U5 K f65 "_law_curve_stands" (tp93 85))(a66:U5 K f66 "_law_line_due" (tp93 86))(a67:U5 K f67 "_law_row_due" (tp93 87))(a68:U5 K f68 "_law_left" (tp93 88))(a69:U5 K f69 "_law_due" (tp93 89))(a70:U5 K f70 "_law_any_set" (tp93 90))(a71:U5 K f71 "_law_same" (tp93 91))(a72:U5 K f72 "law" (tp93 92))(z0:Cn K Bt "all" = Ab Af)(z1:Cn K Bt "any" = Ab Af)(z2:Cn K Bt "bool" = Ab Af)(z3:Cn K Bt "enumerate" = Ab Af)(z4:Cn K Bt "int" = Ab Af)(z5:Cn K Bt "isinstance" = Ab Af)(z6:Cn K Bt "len" = Ab Af)(z7:Cn K Bt "list" = Ab Af)(z8:Cn K Bt "range" = Ab Af)(z9:Cn K Bt "reversed" = Ab Af)(z10:Cn K Bt "set" = Ab Af)(z11:Cn K Bt "sorted" = Ab Af)(z12:Cn K Bt "str" = Ab Af)(z13:Cn K Bt "sum" = Ab Af)(z14:Cn K Bt "tuple" = Ab Af)(z15:Cn K Bt "zip" = Ab Af):
    ∃ fd:CY,(∀(s:At)(v:Aj),Iu s fd ⟨[v],[]⟩ [("_law_script",v)])/\∀ base:AS,K.In base->base.Ns Bt mg->û l.prog w K mg base (CXR l.prog w) 9 fa fd ["_law_script"] (PY K):=by
  obtain⟨_,F,e⟩:=a72;obtain⟨_,_,_,_,_,_,_,_,_,rfl,_,_⟩:=F.ex;cases hfa.symm.trans (Kl X G e);have T:Tab K mg (λ_=>Af) Zz UT Y_9 Zq Zw U6 80:=⟨wR λ_ _=>rfl,Y0 (BU X G z0) (Y0 (BU X G z1) (Y0 (BU X G z2) (Y0 (BU X G z3) (Y0 (BU X G z4) (Y0 (BU X G z5) (Y0 (BU X G z6) (Y0 (BU X G z7) (Y0 (BU X G z8) (Y0 (BU X G z9) (Y0 (BU X G z10) (Y0 (BU X G z11) (Y0 (BU X G z12) (Y0 (BU X G z13) (Y0 (BU X G z14) (Y0 (BU X G z15) (aNl)))))))))))))))),aNl,Y0 (DP 2 1 X G a0 y9) (Y0 (DP 2 9 X G a1 y8) (Y0 (DP 2 17 X G a2 y7) (Y0 (DP 2 23 X G a3 y6) (Y0 (Eb 3 24 X G a4 y4) (Y0 (Eb 3 56 X G a5 xz) (Y0 (Eb 3 57 X G a6 xw) (Y0 (Oc 4 61 X G a7 xu) (Y0 (DP 2 65 X G a8 yw) (Y0 (K2 1 194 X G a9 yu) (Y0 (DP 2 109 X G a10 kq) (Y0 (K2 1 69 X G a11 km) (Y0 (K2 1 104 X G a12 kl) (Y0 (Eb 3 91 X G a13 kj) (Y0 (DP 2 78 X G a14 ki) (Y0 (K2 1 98 X G a15 kh) (Y0 (Eb 3 105 X G a16 kg) (Y0 (DP 2 106 X G a17 kf) (Y0 (DP 2 122 X G a18 kc) (Y0 (K2 1 123 X G a19 ka) (Y0 (Eb 3 126 X G a20 k9) (Y0 (DP 2 128 X G a21 k8) (Y0 (DP 2 131 X G a22 k7) (Y0 (DP 2 136 X G a23 k6) (Y0 (Oc 4 132 X G a24 k4) (Y0 (Eb 3 133 X G a25 jz) (Y0 (DP 2 323 X G a26 jy) (Y0 (DP 2 324 X G a27 jx) (Y0 (Eb 3 325 X G a28 jw) (Y0 (Eb 3 326 X G a29 jv) (Y0 (Eb 3 327 X G a30 ju) (Y0 (Eb 3 328 X G a31 jt) (Y0 (Eb 3 329 X G a32 jr) (Y0 (Oc 4 330 X G a33 jq) (Y0 (Eb 3 331 X G a34 jp) (Y0 (Eb 3 332 X G a35 cz) (Y0 (DP 2 110 X G a36 cy) (Y0 (DP 2 111 X G a37 cx) (Y0 (Eb 3 112 X G a38 cw) (Y0 (DP 2 195 X G a39 cv) (Y0 (DP 2 196 X G a40 cu) (Y0 (DP 2 197 X G a41 cq) (Y0 (DP 2 198 X G a42 cn) (Y0 (Eb 3 221 X G a43 cm) (Y0 (Oc 4 222 X G a44 ck) (Y0 (DP 2 223 X G a45 gr) (Y0 (DP 2 224 X G a46 gq) (Y0 (Eb 3 225 X G a47 gp) (Y0 (DP 2 226 X G a48 gm) (Y0 (DP 2 227 X G a49 gk) (Y0 (DP 2 228 X G a50 gh) (Y0 (K2 1 229 X G a51 gf) (Y0 (DP 2 288 X G a52 gc) (Y0 (DP 2 231 X G a53 fz) (Y0 (Eb 3 232 X G a54 fy) (Y0 (Eb 3 233 X G a55 fx) (Y0 (DP 2 234 X G a56 fw) (Y0 (Eb 3 250 X G a57 fu) (Y0 (Eb 3 289 X G a58 fj) (Y0 (DP 2 290 X G a59 fg) (Y0 (Eb 3 251 X G a60 eh) (Y0 (Eb 3 236 X G a61 dw) (Y0 (Eb 3 237 X G a62 dq) (Y0 (DP 2 246 X G a63 di) (Y0 (Eb 3 247 X G a64 dh) (Y0 (Eb 3 248 X G a65 dg) (Y0 (Eb 3 333 X G a66 d9) (Y0 (Oc 4 334 X G a67 d8) (Y0 (DP 2 335 X G a68 d7) (Y0 (Eb 3 336 X G a69 d6) (Y0 (DP 2 337 X G a70 d5) (Y0 (K2 1 338 X G a71 j8) (Y0 (K2 1 339 X G ⟨_,F,e⟩ XH) (aNl)))))))))))))))))))))))))))))))))))))))))))))))))))))))))))))))))))))))))⟩
  exact⟨_,λs v=>.of_eq rfl,λbase _ _=>Ő (YY T (TK T 8) (Zx F) rfl XH) jM⟩
def walk93{q:A6}{loose:Ac An}{XP:(An->As Aj)->AS->Prop}{YP:AM->AS->Prop}{d:DefRec}{K:Nk->Fg}(hn:l.most=Ab 63)(hdf:d.params.defaults=[])(hY:∀(w:AM)(h:AS),YP w h->(K w.params).In h)(F:∀(w:AM)(mg:An->As Aj)(fa:Am)(h:AS),(K w.params).In h->h.Ns Bt mg->mg d.name=Ab (.ref fa) ->
   ∃ fd:CY,(∀(s:At)(u:Aj),Iu s fd ⟨[u],[]⟩ [("_law_script",u)])/\∀ base:AS,(K w.params).In base->base.Ns Bt mg->û l.prog w (K w.params) mg base (CXR l.prog w) 9 fa fd ["_law_script"] (PY (K w.params))):eO q loose XP YP l.row.toRowW d [] (λf vs=>LZ f vs):=
 L2.walk_of (n:=63) (k:=9) (x := "_law_script") (CX:=λw=>CXR l.prog w) (sp:=λw=>PY (K w.params)) hn (by decide) hdf ⟨rfl,by decide,by decide,rfl⟩ hY F (λ_ H a ns hl _ hS=>⟨a,ns,rfl,hl,hS,λ_ _ z=>z⟩) λ_ _ _ _ _ z=>yk z
end OvC
open PySem PySem.W PyProof.Rows
set_option hygiene false
set_option maxRecDepth 100000 in
set_option maxHeartbeats 0 in
theorem PySem.Challenge.cw_ovalfield_k93_papers_that_stand_holds : PySem.Challenge.rw_ovalfield_k93_papers_that_stand.Holds := by
 refine OvC.hold93.go OvC.reck93_1 OvC.reck93_2 OvC.reck93_3 OvC.reck93_4 OvC.reck93_5 OvC.reck93_6 OvC.reck93_7 OvC.reck93_8 OvC.reck93_9 OvC.reck93_10 OvC.reck93_11 ?_;intro Ē;refine OvC.walk93 (l:=PySem.Challenge.rw_ovalfield_k93_papers_that_stand) rfl rfl (λw h Y_=>eQ Y_) ?F
 case F=>
  intro w mg fa h KX G ā
  refine' OvC.all93 KX G ā ?a0 ?a1 ?a2 ?a3 ?a4 ?a5 ?a6 ?a7 ?a8 ?a9 ?a10 ?a11 ?a12 ?a13 ?a14 ?a15 ?a16 ?a17 ?a18 ?a19 ?a20 ?a21 ?a22 ?a23 ?a24 ?a25 ?a26 ?a27 ?a28 ?a29 ?a30 ?a31 ?a32 ?a33 ?a34 ?a35 ?a36 ?a37 ?a38 ?a39 ?a40 ?a41 ?a42 ?a43 ?a44 ?a45 ?a46 ?a47 ?a48 ?a49 ?a50 ?a51 ?a52 ?a53 ?a54 ?a55 ?a56 ?a57 ?a58 ?a59 ?a60 ?a61 ?a62 ?a63 ?a64 ?a65 ?a66 ?a67 ?a68 ?a69 ?a70 ?a71 ?a72 ?z0 ?z1 ?z2 ?z3 ?z4 ?z5 ?z6 ?z7 ?z8 ?z9 ?z10 ?z11 ?z12 ?z13 ?z14 ?z15
  case a0|a1|a2|a3|a4|a5|a6|a7|a8|a9|a10|a11|a12|a13|a14|a15|a16|a17|a18|a19|a20|a21|a22|a23|a24|a25|a26|a27|a28|a29|a30|a31|a32|a33|a34|a35|a36|a37|a38|a39|a40|a41|a42|a43|a44|a45|a46|a47|a48|a49|a50|a51|a52|a53|a54|a55|a56|a57|a58|a59|a60|a61|a62|a63|a64|a65|a66|a67|a68|a69|a70|a71|a72=>(refine' Ov.fni ?a ?l ?c ?k;(case a=>k_is);(case l=>k_is);(case c=>k_is);(case k=>k_is))
  case z0|z1|z2|z3|z4|z5|z6|z7|z8|z9|z10|z11|z12|z13|z14|z15=>k_is